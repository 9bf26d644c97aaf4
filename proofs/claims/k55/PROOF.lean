import PyProof.Rows.All
import Wide.All
import OpenK.AllK
import Wide.FinOn
import HandS.ForMost
import HandS.ForExc
import HandS.Wide
import HandS.Codes
import HandS.AnyAll
import HandS.StrMore
import HandS.FStr
import HandS.IsInst
import HandS.ExcInit
import HandS.ExcIs
import HandS.ExcField
import HandS.Replace
import HandS.ReplaceLit
import HandS.Flow
import HandS.NoneIn
import HandS.Style
import PySem.Challenge.RW_aliasfold_k55_whole_last_calls
import Wide.Once
import HandS.Head0
import HandS.Head1
import HandS.Head2
import HandS.HeadEnd
import HandS.HeadHook1
import HandS.HeadHook2
import HandS.HeadHook3
import HandS.HeadHook4
import HandS.HeadNt
import HandS.HeadWalk
import PyProof.DictUpdate
import HandS.DictComp
import HandS.ExcCtx
import HandS.TryMany
import HandS.More
import HandS.Dict
import HandS.Rev
import HandS.CallLocal
import HandS.WordsDict
import HandS.Deep
import HandS.Star
import HandS.Iter
import HandS.Zip
import KE.GoesEnum
import HandS.Walk
import HandS.RevRange
set_option Elab.async false
set_option linter.all false
set_option maxRecDepth 100000
set_option maxHeartbeats 0
namespace My
open PySem L2

/-! ### heaps -/
def isTbl : HO → Bool
  | .tbl _ => true
  | _ => false
/-- what was tracked stays, but for what X names; tables stay tables; nothing is forgotten -/
structure Sm (X : Addr → Prop) (H H' : Hp) : Prop where
  keep : ∀ b o, ¬ X b → isTbl o = false → H b = some o → H' b = some o
  tab : ∀ P, GxR.TabG H P → GxR.TabG H' P
  dom : ∀ b, H' b = none → H b = none
abbrev No : Addr → Prop := fun _ => False
abbrev Two (S L : Addr) : Addr → Prop := fun b => b = S ∨ b = L
theorem Sm.refl (X : Addr → Prop) (H : Hp) : Sm X H H := ⟨fun _ _ _ _ h => h, fun _ h => h, fun _ h => h⟩
theorem Sm.trans {X : Addr → Prop} {H H1 H2 : Hp} (a : Sm X H H1) (b : Sm X H1 H2) : Sm X H H2 :=
  ⟨fun c o n t h => b.keep c o n t (a.keep c o n t h), fun P h => b.tab P (a.tab P h), fun c h => a.dom c (b.dom c h)⟩
theorem Sm.wide {X Y : Addr → Prop} {H H' : Hp} (a : Sm X H H') (h : ∀ b, X b → Y b) : Sm Y H H' :=
  ⟨fun c o n t q => a.keep c o (fun z => n (h c z)) t q, a.tab, a.dom⟩
theorem Sm.no {Y : Addr → Prop} {H H' : Hp} (a : Sm No H H') : Sm Y H H' := a.wide fun _ z => z.elim
theorem tab_upd {H : Hp} {p : Addr} {o : HO} (h : ∀ ps, H p ≠ some (.tbl ps)) : ∀ P, GxR.TabG H P → GxR.TabG (upd H p o) P := fun P ⟨ps, h1, h2⟩ =>
  ⟨ps, by rw [upd_ne (fun z => h ps (by rw [← z]; exact h1))]; exact h1, h2⟩
theorem upd_dom {H : Hp} {p : Addr} {o : HO} : ∀ b, upd H p o b = none → H b = none := fun b h => by
  by_cases hb : b = p
  · rw [hb, upd_same] at h; cases h
  · rw [upd_ne hb] at h; exact h
theorem Sm.new {X : Addr → Prop} {H : Hp} {p : Addr} {o : HO} (h : H p = none) : Sm X H (upd H p o) :=
  ⟨fun b u _ _ e => by rw [upd_ne (ne_of_none e h)]; exact e, tab_upd (fun ps z => by rw [h] at z; cases z), upd_dom⟩
theorem Sm.set {X : Addr → Prop} {H : Hp} {p : Addr} {o : HO} (h : X p) (ht : ∀ ps, H p ≠ some (.tbl ps)) : Sm X H (upd H p o) :=
  ⟨fun b u n _ e => by rw [upd_ne (fun z => n (by rw [z]; exact h))]; exact e, tab_upd ht, upd_dom⟩
theorem Sm.tabbed {X : Addr → Prop} {H H' : Hp} {P : Addr} (h0 : GxR.TabG H P) (h : GxR.Tabbed P H H') : Sm X H H' := by
  obtain ⟨ht, hk⟩ := h
  refine ⟨fun b o _ n e => ?_, fun Z hz => ?_, fun b h => ?_⟩
  · by_cases hb : b = P
    · obtain ⟨ps, h1, _⟩ := h0
      rw [hb, h1] at e
      cases e
      cases n
    · rw [hk b hb]; exact e
  · by_cases hb : Z = P
    · rw [hb]; exact ht
    · obtain ⟨ps, h1, h2⟩ := hz
      exact ⟨ps, by rw [hk Z hb]; exact h1, h2⟩
  · by_cases hb : b = P
    · obtain ⟨ps, h1, _⟩ := ht
      rw [hb, h1] at h
      cases h
    · rw [← hk b hb]; exact h
theorem Sm.seq {X : Addr → Prop} {K : PySem.W.Frag} {H H' : Hp} {a : Addr} {xs : List V} (e : Sm X H H') (n : ¬ X a) (h : SqL K H a xs) : SqL K H' a xs := by
  rcases h with (h | ⟨o, h⟩) | h
  · exact .inl (.inl (e.keep _ _ n rfl h))
  · exact .inl (.inr ⟨o, e.keep _ _ n rfl h⟩)
  · exact .inr h
theorem Sm.lst {X : Addr → Prop} {H H' : Hp} {a : Addr} {xs : List V} (e : Sm X H H') (n : ¬ X a) (h : H a = some (.lst xs)) : H' a = some (.lst xs) := e.keep _ _ n rfl h
theorem Sm.lst0 {H H' : Hp} {a : Addr} {xs : List V} (e : Sm No H H') (h : H a = some (.lst xs)) : H' a = some (.lst xs) := e.keep _ _ (fun z => z) rfl h
/-- what H did not know may change -/
theorem Sm.mut {X : Addr → Prop} {H H' : Hp} {p : Addr} {o : HO} (e : Sm X H H') (h : H p = none) (ht : ∀ ps, H' p ≠ some (.tbl ps)) : Sm X H (upd H' p o) :=
  ⟨fun b u n t q => by rw [upd_ne (ne_of_none q h)]; exact e.keep b u n t q, fun P h => tab_upd ht P (e.tab P h), fun b q => e.dom b (upd_dom b q)⟩
theorem ntbl_l {H : Hp} {a : Addr} {xs : List V} (h : H a = some (.lst xs)) : ∀ ps, H a ≠ some (.tbl ps) := fun ps z => by rw [h] at z; cases z

/-! ### the state of the draws -/
/-- at S: the rest of the script, at L, and what is left of the cell -/
def LS (H : Hp) (S L : Addr) : Prop := ∃ (cs : List Int) (d : Int), H S = some (.lst [.ref L, .int d]) ∧ H L = some (.lst (cs.map V.int)) ∧ 0 ≤ d ∧ cs.length ≤ 63
theorem LS.ne {H : Hp} {S L : Addr} (h : LS H S L) : S ≠ L := by
  obtain ⟨cs, d, h1, h2, _⟩ := h
  refine ne_of h1 h2 fun z => ?_
  cases cs with
  | nil => cases z
  | cons c r => cases z
theorem LS.sm {H H' : Hp} {S L : Addr} (h : LS H S L) (e : Sm No H H') : LS H' S L := by
  obtain ⟨cs, d, h1, h2, h3⟩ := h
  exact ⟨cs, d, e.lst0 h1, e.lst0 h2, h3⟩
theorem LS.some {H : Hp} {S L : Addr} (h : LS H S L) : H S ≠ none ∧ H L ≠ none := by
  obtain ⟨cs, d, h1, h2, h3⟩ := h
  exact ⟨by rw [h1]; simp, by rw [h2]; simp⟩
/-! ### the draws, as functions -/
def spMixed : Sp := fun vs H Q _ => ∃ c : Int, vs = [.int c] ∧ ∀ n : Int, 0 ≤ n → Q (.int n) H
def spTake : Sp := fun vs H Q _ => ∃ (S L : Addr) (n : Int), vs = [.ref S, .int n] ∧ LS H S L ∧ 0 < n ∧ n.natAbs < 2 ^ 8000 ∧
  ∀ (g : Int) (H' : Hp), 0 ≤ g → g < n → LS H' S L → Sm (Two S L) H H' → Q (.int g) H'
def spState (K : PySem.W.Frag) : Sp := fun vs H Q _ => ∃ (a : Addr) (ns : List Int), vs = [.ref a] ∧ SqL K H a (ns.map V.int) ∧ ns.length ≤ 63 ∧
  ∀ (S L : Addr) (H' : Hp), H S = none → H L = none → LS H' S L → Sm No H H' → Q (.ref S) H'
end My
namespace My
open PySem L2
def top (i : Nat) : Stmt := PySem.Challenge.pw_aliasfold_k55_whole_last_calls.main.body.getD i (.Pass ⟨0, 0, 0, 0⟩)
abbrev sMixed : Stmt := top 69
abbrev sTake : Stmt := top 70
abbrev sState : Stmt := top 71
/-- names of builtins that no module name hides -/
structure Blt (mg : Str → Option Value) : Prop where
  int : mg "int" = none
  abs : mg "abs" = none
  len : mg "len" = none
  range : mg "range" = none
  str : mg "str" = none
  isinstance : mg "isinstance" = none
  all : mg "all" = none
  list : mg "list" = none
  tuple : mg "tuple" = none
  bool : mg "bool" = none
section
variable {P : Program} {w : World} {K : PySem.W.Frag} {mg : Str → Option Value} {base : Heap}
theorem scMixed : FnScope ["cell", "seed", "number", "k"] ["cell"] (defScope sMixed) := ⟨rfl, rfl, rfl, by decide +kernel, rfl, by decide +kernel, by decide +kernel⟩
theorem ok_mixed {f : Addr} {fd : FuncData} (F : Fun K "_law_mixed" "_law_mixed" sMixed f fd) (B : Blt mg) : FnOk P w K mg base CX0 1 f fd ["cell"] spMixed := by
  refine F.ok scMixed (fun vs H Q E h => ?_) (fun cdv A outer s H vs Q E hr h => ?_)
  · obtain ⟨c, rfl, _⟩ := h
    rfl
  obtain ⟨c, rfl, q⟩ := h
  have M : (0 : Int) < 1000000007 := by decide
  refine ⟨_, pss_cons (ps_set (i := 1) scMixed.nd rfl (Or.inl rfl) (pe_op op_mod (pe_callTy call_int1 (by rfl) B.int (by decide +kernel) (pa_cons (pv 0) pa_nil)) pe_int))
    (pss_cons (ps_set (i := 2) scMixed.nd rfl (Or.inl rfl) pe_int)
    (pss_cons (ps_for PassesOwn.never rfl (pi_range1 (by rfl) B.range (pa_cons pe_int pa_nil)) (pg_name (i := 3) scMixed.nd rfl (Or.inl rfl))
      (pss_cons (ps_set (i := 1) scMixed.nd rfl (Or.inl rfl) (pe_op op_mod (pe_callTy call_int1 (by rfl) B.int (by decide +kernel)
          (pa_cons (pe_op op_add (pe_op op_add (pe_op op_mul (pv 1) pe_int) pe_int) (pe_op op_mul pe_int (pv 3))) pa_nil)) pe_int))
      (pss_one (ps_set (i := 2) scMixed.nd rfl (Or.inl rfl) (pe_op op_add (pe_op op_mul (pv 2) pe_int) (pv 1))))))
    (pss_one (ps_ret (pv 2))))), ?_⟩
  refine ⟨_, rfl, .inl ⟨_, rfl, _, _, rfl, rfl, M, ?_⟩⟩
  refine ⟨6, rfl, by decide, by decide, for_range (n := 6) (fun i σ H' => ∃ (sd nb : Int) (v : Option V), σ = [some (.int c), some (.int sd), some (.int nb), v] ∧ 0 ≤ nb ∧ H' = H)
    ⟨_, 0, none, rfl, by omega, rfl⟩ ?_ ?_⟩
  · rintro i σ H' hi ⟨sd, nb, v, rfl, h0, rfl⟩
    refine ⟨_, rfl, _, _, rfl, rfl, .inr ⟨by decide, by decide⟩, _, _, rfl, rfl, _, rfl, _, _, rfl, rfl, .inl ⟨by decide, by decide⟩, _, _, rfl, rfl, .inl ⟨_, rfl, _, _, rfl, rfl, M, ?_⟩⟩
    refine ⟨_, rfl, _, _, rfl, rfl, .inr ⟨by decide, by decide⟩, _, rfl, _, _, rfl, rfl, _, _, _, rfl, ?_, rfl⟩
    have := Int.emod_nonneg (sd * 48271 + 12820163 + 7 * (0 + (i : Int))) (b := 1000000007) (by decide)
    omega
  · rintro σ H' ⟨sd, nb, v, rfl, h0, rfl⟩
    exact ⟨_, rfl, q nb h0⟩
end
end My
namespace My
open PySem PySem.Spec PyProof.Rows L2 He
abbrev dd (i : Nat) (x : Str) : DefD := ⟨(x, none), x, x, defArgs (top i), defBody (top i), defScope (top i), [], []⟩
abbrev dc (i j : Nat) (x m q : Str) : DefD := ⟨(x, some m), m, q, defArgs (inClass (top i) j), defBody (inClass (top i) j), defScope (inClass (top i) j), [], []⟩
def fnK : List DefD := [dc 5 0 "Pair" "__init__" "Pair.__init__", dc 6 0 "Function" "__init__" "Function.__init__", dc 7 0 "Primitive" "__init__" "Primitive.__init__", dc 8 0 "Showing" "__init__" "Showing.__init__", dc 8 1 "Showing" "show" "Showing.show", dc 12 0 "Ended" "__init__" "Ended.__init__",
  dc 13 0 "Run" "__init__" "Run.__init__", dc 13 1 "Run" "count_step" "Run.count_step", dc 13 2 "Run" "definition" "Run.definition", dc 13 3 "Run" "carry_out_program" "Run.carry_out_program", dc 20 0 "Frame" "__init__" "Frame.__init__", dc 20 1 "Frame" "read" "Frame.read",
  dc 33 0 "Machine" "__init__" "Machine.__init__", dc 33 1 "Machine" "add_frame" "Machine.add_frame", dc 33 2 "Machine" "enter" "Machine.enter", dc 33 3 "Machine" "give" "Machine.give", dc 33 4 "Machine" "carry_out" "Machine.carry_out", dc 39 0 "Draft" "__init__" "Draft.__init__",
  dc 39 1 "Draft" "new_places" "Draft.new_places", dc 39 2 "Draft" "new_label" "Draft.new_label", dc 66 0 "PlainRun" "__init__" "PlainRun.__init__", dc 66 1 "PlainRun" "carry_out" "PlainRun.carry_out", dd 9 "shown", dd 14 "take_last",
  dd 15 "check_call", dd 16 "half", dd 17 "reckon", dd 18 "call_primitive", dd 21 "put_int", dd 22 "put_prim",
  dd 23 "put_global", dd 24 "put_source", dd 25 "put_function", dd 26 "fill_place", dd 27 "jump", dd 28 "jump_unless",
  dd 29 "call", dd 30 "tail_call", dd 31 "leave", dd 34 "run_code", dd 36 "bound_numbers", dd 37 "inner_trees",
  dd 40 "outer_numbers", dd 41 "draft_function", dd 42 "leaf_pieces", dd 43 "let_pieces", dd 44 "if_pieces", dd 45 "call_pieces",
  dd 46 "tree_pieces", dd 47 "write_draft", dd 48 "final_instruction", dd 49 "final_code", dd 50 "compile_core", dd 52 "with_variables",
  dd 53 "begin_int", dd 54 "begin_local", dd 55 "begin_global", dd 56 "begin_prim", dd 57 "begin_fn", dd 58 "begin_let",
  dd 59 "end_let", dd 60 "begin_if", dd 61 "end_if", dd 62 "begin_call", dd 63 "end_call", dd 65 "begin",
  dd 67 "run_plain", dd 69 "_law_mixed", dd 70 "_law_take", dd 71 "_law_state", dd 72 "_law_same", dd 73 "_law_last",
  dd 74 "law"]
def faK : List Fa := [.glo "FoldError", .glo "Pair", .glo "Function", .glo "Primitive", .glo "Showing", .glo "Ended",
  .glo "Run", .glo "Frame", .glo "Machine", .glo "Draft", .glo "PlainRun", .glo "shown",
  .glo "take_last", .glo "check_call", .glo "half", .glo "reckon", .glo "call_primitive", .glo "put_int",
  .glo "put_prim", .glo "put_global", .glo "put_source", .glo "put_function", .glo "fill_place", .glo "jump",
  .glo "jump_unless", .glo "call", .glo "tail_call", .glo "leave", .glo "run_code", .glo "bound_numbers",
  .glo "inner_trees", .glo "outer_numbers", .glo "draft_function", .glo "leaf_pieces", .glo "let_pieces", .glo "if_pieces",
  .glo "call_pieces", .glo "tree_pieces", .glo "write_draft", .glo "final_instruction", .glo "final_code", .glo "compile_core",
  .glo "with_variables", .glo "begin_int", .glo "begin_local", .glo "begin_global", .glo "begin_prim", .glo "begin_fn",
  .glo "begin_let", .glo "end_let", .glo "begin_if", .glo "end_if", .glo "begin_call", .glo "end_call",
  .glo "begin", .glo "run_plain", .glo "_law_mixed", .glo "_law_take", .glo "_law_state", .glo "_law_same",
  .glo "_law_last", .glo "law", .cls "Pair", .mkr "Pair", .noat "Pair" "first", .noat "Pair" "second",
  .cls "Function", .mkr "Function", .noat "Function" "parameters", .noat "Function" "body", .noat "Function" "kept", .cls "Primitive",
  .mkr "Primitive", .noat "Primitive" "parameters", .noat "Primitive" "name", .cls "Showing", .mkr "Showing", .noat "Showing" "pairs",
  .cls "PlainRun", .mkr "PlainRun", .noat "PlainRun" "most", .noat "PlainRun" "steps", .noat "PlainRun" "defined", .noat "PlainRun" "todo",
  .noat "PlainRun" "results", .cls "Draft", .mkr "Draft", .noat "Draft" "parameters", .noat "Draft" "places", .noat "Draft" "body",
  .noat "Draft" "scope", .noat "Draft" "instructions", .noat "Draft" "targets", .cls "Frame", .mkr "Frame", .noat "Frame" "instructions",
  .noat "Frame" "at", .noat "Frame" "places", .noat "Frame" "stack", .noat "Frame" "kept", .cls "Machine", .mkr "Machine",
  .noat "Machine" "most", .noat "Machine" "steps", .noat "Machine" "defined", .noat "Machine" "frames", .noat "Machine" "most_frames", .noat "Machine" "result",
  .meth "Showing" "show", .meth "PlainRun" "carry_out", .meth "Draft" "new_places", .meth "Draft" "new_label", .meth "Frame" "read", .meth "Machine" "carry_out",
  .meth "Machine" "add_frame", .meth "Machine" "enter", .meth "Machine" "give", .exm "Ended" "Ended" true, .int "GREATEST_RESULT" 1000000000000000000000000000000000000000000000000000000000000, .glo "ACTIONS",
  .glo "BEGINNINGS", .int "MOST_PAIRS" 300, .int "MOST_AROUND" 59, .free "ValueError", .free "abs", .free "all",
  .free "bool", .free "dict", .free "enumerate", .free "int", .free "isinstance", .free "len",
  .free "list", .free "max", .free "range", .free "reversed", .free "str", .free "tuple",
  .free "zip"]
def tfK : List Defn := [("call_primitive", none)]
def tsK : List Tab := [(fun K => ga K "ACTIONS", ["int", "prim", "global", "place", "kept", "fn", "put", "jump", "unless", "call", "tail", "end"]), (fun K => ga K "BEGINNINGS", ["int", "local", "global", "prim", "fn", "let", "if", "call"])]
/-- an exception's class over own ones and ValueError -/
def excB (K : PySem.W.Frag) (C : Addr) : Bool := match K.lookup C with
  | some ⟨.type "type", _, .cls cd, sl⟩ => (match cd.mro, sl.toList with
    | .ref C' :: bm, [_, _, _, _, some (.builtin n), _] => C' == C && (n == "ValueError.__new__" && (!cd.hasDel && (cd.hasDict && PySem.HandSPX.refsVE bm)))
    | _, _ => false)
  | _ => false
/-- all that is asked of one exception class with fields at -/
def excAll (K : PySem.W.Frag) (x : Str) : Bool :=
  excB K (ga K x) && (eqO (PySem.W.findIn K (.ref (ga K x)) "__setattr__") (some (some (.builtin "object.__setattr__"))) &&
  (decide (PySem.W.subIn K (.ref (ga K x)) (.type "BaseException") = some true) && (decide (PySem.W.typeIn K (.ref (ga K x)) = some (.type "type")) && (PySem.W.keepIn K (.ref (ga K x)) &&
  (eqO (PySem.W.findIn K (.ref (ga K x)) "__getattribute__") (some (some (.builtin "BaseException.__getattribute__"))) && (eqO (PySem.W.findIn K (.ref (ga K x)) "__getattr__") (some none) &&
  (PySem.W.hasDictIn K (ga K x) && (eqO (PySem.W.findIn K (.ref (ga K x)) "__class__") (some (some (.builtin "object.__class__"))) && (decide (PySem.W.mroIn K (ga K x) (.type "object") = some true) &&
  eqO (PySem.W.findIn K (.ref (ga K x)) "outcome") (some none))))))))))
def iniB (K : PySem.W.Frag) (x : Str) : Bool := eqO (PySem.W.findIn K (.ref (ga K x)) "__init__") (some (some (.ref (ma K (ga K x) "__init__")))) && decide (PySem.W.typeIn K (.ref (ma K (ga K x) "__init__")) = some (.type "function"))
def valB (r : Option PySem.W.CFound) (n : String) : Bool := match r with
  | some (.val (.builtin m)) => m == n
  | _ => false
theorem valB_ok {r : Option PySem.W.CFound} {n : String} (h : valB r n = true) : r = some (.val (.builtin n)) := by
  unfold valB at h
  split at h
  · rw [eq_of_beq h]
  · cases h
def refB (r : Option PySem.W.CFound) (f : Addr) : Bool := match r with
  | some (.val (.ref g)) => g == f
  | _ => false
theorem refB_ok {r : Option PySem.W.CFound} {f : Addr} (h : refB r f = true) : r = some (.val (.ref f)) := by
  unfold refB at h
  split at h
  · rw [eq_of_beq h]
  · cases h
def methI (K : PySem.W.Frag) (x y m : Str) : Bool := eqO (PySem.W.findIn K (.ref (ga K x)) m) (some (some (.ref (ma K (ga K y) m)))) && (PySem.W.isFn K (.ref (ma K (ga K y) m)) && PySem.W.keepIn K (.ref (ma K (ga K y) m)))
theorem methI_ok {K : PySem.W.Frag} {x y m : Str} (h : methI K x y m = true) : Meth K (ga K x) m (ma K (ga K y) m) := by
  obtain ⟨a, h⟩ := ba h
  obtain ⟨b, c⟩ := ba h
  exact ⟨eqO_ok a, b, c⟩
def exL (K : PySem.W.Frag) : List Bool := [excAll K "Ended",
  iniB K "Ended",
  eqO (PySem.W.specialIn K (.builtin "object.__class__") "__get__") (some (some (.builtin "getset_descriptor.__get__"))),
  decide (PySem.W.takesIn K (.builtin "object.__class__") = some true),
  PySem.W.readsIn K (ga K "FoldError") (.type "type"),
  eqO (PySem.W.specialIn K (.ref (ga K "FoldError")) "__getattribute__") (some (some (.builtin "type.__getattribute__"))),
  valB (PySem.W.findCls K (.ref (ga K "FoldError")) (.type "type") "__init__") "ValueError.__init__",
  eqO (PySem.W.findIn K (.ref (ga K "Pair")) "__class__") (some (some (.builtin "object.__class__"))),
  decide (PySem.W.mroIn K (ga K "Pair") (.type "object") = some true),
  eqO (PySem.W.findIn K (.ref (ga K "Function")) "__class__") (some (some (.builtin "object.__class__"))),
  decide (PySem.W.mroIn K (ga K "Function") (.type "object") = some true),
  eqO (PySem.W.findIn K (.ref (ga K "Primitive")) "__class__") (some (some (.builtin "object.__class__"))),
  decide (PySem.W.mroIn K (ga K "Primitive") (.type "object") = some true),
  decide (PySem.W.kitOne K (.type "int") (.ref (ga K "Pair")) = some false),
  decide (PySem.W.kitOne K (.type "int") (.ref (ga K "Function")) = some false),
  decide (PySem.W.kitOne K (.type "int") (.ref (ga K "Primitive")) = some false),
  decide (PySem.W.kitOne K (.ref (ga K "Pair")) (.type "int") = some false),
  decide (PySem.W.kitOne K (.ref (ga K "Function")) (.type "int") = some false),
  decide (PySem.W.kitOne K (.ref (ga K "Primitive")) (.type "int") = some false),
  decide (PySem.W.kitOne K (.ref (ga K "Pair")) (.ref (ga K "Pair")) = some true),
  decide (PySem.W.kitOne K (.ref (ga K "Pair")) (.ref (ga K "Function")) = some false),
  decide (PySem.W.kitOne K (.ref (ga K "Pair")) (.ref (ga K "Primitive")) = some false),
  decide (PySem.W.kitOne K (.ref (ga K "Function")) (.ref (ga K "Pair")) = some false),
  decide (PySem.W.kitOne K (.ref (ga K "Function")) (.ref (ga K "Function")) = some true),
  decide (PySem.W.kitOne K (.ref (ga K "Function")) (.ref (ga K "Primitive")) = some false),
  decide (PySem.W.kitOne K (.ref (ga K "Primitive")) (.ref (ga K "Pair")) = some false),
  decide (PySem.W.kitOne K (.ref (ga K "Primitive")) (.ref (ga K "Function")) = some false),
  decide (PySem.W.kitOne K (.ref (ga K "Primitive")) (.ref (ga K "Primitive")) = some true),
  PySem.W.readsIn K (ga K "Run") (.type "type"),
  eqO (PySem.W.specialIn K (.ref (ga K "Run")) "__getattribute__") (some (some (.builtin "type.__getattribute__"))),
  refB (PySem.W.findCls K (.ref (ga K "Run")) (.type "type") "__init__") (ma K (ga K "Run") "__init__"),
  methI K "PlainRun" "Run" "count_step",
  methI K "PlainRun" "Run" "carry_out_program",
  methI K "PlainRun" "Run" "definition",
  methI K "Machine" "Run" "count_step",
  methI K "Machine" "Run" "carry_out_program",
  methI K "Machine" "Run" "definition",
  eqO (PySem.W.nsIn K (ga K "ACTIONS") "int") (some (some (.ref (ga K "put_int")))),
  eqO (PySem.W.nsIn K (ga K "ACTIONS") "prim") (some (some (.ref (ga K "put_prim")))),
  eqO (PySem.W.nsIn K (ga K "ACTIONS") "global") (some (some (.ref (ga K "put_global")))),
  eqO (PySem.W.nsIn K (ga K "ACTIONS") "place") (some (some (.ref (ga K "put_source")))),
  eqO (PySem.W.nsIn K (ga K "ACTIONS") "kept") (some (some (.ref (ga K "put_source")))),
  eqO (PySem.W.nsIn K (ga K "ACTIONS") "fn") (some (some (.ref (ga K "put_function")))),
  eqO (PySem.W.nsIn K (ga K "ACTIONS") "put") (some (some (.ref (ga K "fill_place")))),
  eqO (PySem.W.nsIn K (ga K "ACTIONS") "jump") (some (some (.ref (ga K "jump")))),
  eqO (PySem.W.nsIn K (ga K "ACTIONS") "unless") (some (some (.ref (ga K "jump_unless")))),
  eqO (PySem.W.nsIn K (ga K "ACTIONS") "call") (some (some (.ref (ga K "call")))),
  eqO (PySem.W.nsIn K (ga K "ACTIONS") "tail") (some (some (.ref (ga K "tail_call")))),
  eqO (PySem.W.nsIn K (ga K "ACTIONS") "end") (some (some (.ref (ga K "leave")))),
  eqO (PySem.W.nsIn K (ga K "BEGINNINGS") "int") (some (some (.ref (ga K "begin_int")))),
  eqO (PySem.W.nsIn K (ga K "BEGINNINGS") "local") (some (some (.ref (ga K "begin_local")))),
  eqO (PySem.W.nsIn K (ga K "BEGINNINGS") "global") (some (some (.ref (ga K "begin_global")))),
  eqO (PySem.W.nsIn K (ga K "BEGINNINGS") "prim") (some (some (.ref (ga K "begin_prim")))),
  eqO (PySem.W.nsIn K (ga K "BEGINNINGS") "fn") (some (some (.ref (ga K "begin_fn")))),
  eqO (PySem.W.nsIn K (ga K "BEGINNINGS") "let") (some (some (.ref (ga K "begin_let")))),
  eqO (PySem.W.nsIn K (ga K "BEGINNINGS") "if") (some (some (.ref (ga K "begin_if")))),
  eqO (PySem.W.nsIn K (ga K "BEGINNINGS") "call") (some (some (.ref (ga K "begin_call"))))]
def exK (K : PySem.W.Frag) : Bool := (exL K).all fun b => b
theorem ex_at {K : PySem.W.Frag} {b : Bool} (h : exK K = true) (i : Nat) (e : (exL K)[i]? = some b) : b = true := List.all_eq_true.mp h b (List.mem_of_getElem? e)
theorem mem_at {α : Type} {l : List α} {x : α} (i : Nat) (e : l[i]? = some x) : x ∈ l := List.mem_of_getElem? e
/-! ### the hook: what the module's names reach, and the statics -/
def reach (g : Addr → Option Obj) : List Addr := He.asD g 4 ++ [cStatics]
theorem says_of {fa : List Fa} {fn : List DefD} {ts : List Tab} {tf : List Defn} {ex : PySem.W.Frag → Bool} {w : World} {h : Heap} {as : List Addr} (e1 : obsT fa fn ts (frT h.get? as) = valT fn ts w)
    (e2 : (ex (frT h.get? as) && tabsB h.get? tf (frT h.get? as)) = true) : SaysX fa fn ts tf ex w h (frT h.get? as) := by
  obtain ⟨x1, x2⟩ := ba e2
  have key : ∀ p ∈ tf, PySem.W.codeHdIn (frT h.get? as) (cT (frT h.get? as) p).1 (cT (frT h.get? as) p).2 = true ∧ ∃ o, h.get? (cT (frT h.get? as) p).2 = some o ∧ emptyTab o = true := by
    intro p hp
    obtain ⟨y1, y2⟩ := ba (List.all_eq_true.mp x2 p hp)
    cases q : h.get? (cT (frT h.get? as) p).2 with
    | none => rw [q] at y2; cases y2
    | some o => rw [q] at y2; exact ⟨y1, o, rfl, y2⟩
  refine ⟨e1, x1, fun p hp => (key p hp).1, fun p hp => ?_, fun p hp => ?_⟩
  · obtain ⟨_, o, q, z⟩ := key p hp
    exact frT_none q z
  · obtain ⟨_, o, q, z⟩ := key p hp
    rw [q, emptyTab_eq z]
abbrev AlY : Type := AlT × Bool
def obsY (fa : List Fa) (fn : List DefD) (tf : List Defn) (ex : PySem.W.Frag → Bool) (g : Addr → Option Obj) : AlY := (obsT fa fn tsK (frT g (reach g)), ex (frT g (reach g)) && tabsB g tf (frT g (reach g)))
def hookY (fa : List Fa) (fn : List DefD) (tf : List Defn) (ex : PySem.W.Frag → Bool) : PySem.W.Hook where
  α := AlY
  obs := fun s => obsY fa fn tf ex s.heap.get?
  val := fun w => (valT fn tsK w, true)
  says := fun w h => ∃ K : PySem.W.Frag, K.In h ∧ SaysX fa fn tsK tf ex w h K
  of := fun _ _ e => ⟨_, frT_in, says_of (congrArg (fun z : AlY => z.1) e) (congrArg (fun z : AlY => z.2) e)⟩
  keeps := fun _ _ _ ⟨K, hK, c⟩ k => ⟨K, PySem.W.Frag.In.keeps hK k, ⟨c.t, c.more, c.hd, c.out, fun p hp => k _ _ (c.empty p hp)⟩⟩
abbrev R : PySem.W.OpenRow := PySem.W.OpenLaw.row PySem.Challenge.rw_aliasfold_k55_whole_last_calls
abbrev hk : PySem.W.Hook := hookY faK fnK tfK exK
def ob (s : PySem.W.SharedT) : AlY := obsY faK fnK tfK exK (HandSHeadRun.getT s)
theorem ob_eq (s : PySem.W.SharedT) : ob s = hk.obs s.abs := by
  have e : HandSHeadRun.getT s = s.abs.heap.get? := funext (HandSHeadRun.getT_eq s)
  unfold ob
  rw [e] <;> rfl
def loose : List Str := [("FoldError" : Str), ("Pair" : Str), ("Function" : Str), ("Primitive" : Str), ("Showing" : Str), ("Ended" : Str),
  ("Run" : Str), ("Frame" : Str), ("Machine" : Str), ("Draft" : Str), ("PlainRun" : Str), ("MOST_PAIRS" : Str),
  ("MOST_AROUND" : Str), ("GREATEST_RESULT" : Str), ("ACTIONS" : Str), ("BEGINNINGS" : Str), ("shown" : Str), ("take_last" : Str),
  ("check_call" : Str), ("half" : Str), ("reckon" : Str), ("call_primitive" : Str), ("put_int" : Str), ("put_prim" : Str),
  ("put_global" : Str), ("put_source" : Str), ("put_function" : Str), ("fill_place" : Str), ("jump" : Str), ("jump_unless" : Str),
  ("call" : Str), ("tail_call" : Str), ("leave" : Str), ("run_code" : Str), ("bound_numbers" : Str), ("inner_trees" : Str),
  ("outer_numbers" : Str), ("draft_function" : Str), ("leaf_pieces" : Str), ("let_pieces" : Str), ("if_pieces" : Str), ("call_pieces" : Str),
  ("tree_pieces" : Str), ("write_draft" : Str), ("final_instruction" : Str), ("final_code" : Str), ("compile_core" : Str), ("with_variables" : Str),
  ("begin_int" : Str), ("begin_local" : Str), ("begin_global" : Str), ("begin_prim" : Str), ("begin_fn" : Str), ("begin_let" : Str),
  ("end_let" : Str), ("begin_if" : Str), ("end_if" : Str), ("begin_call" : Str), ("end_call" : Str), ("begin" : Str),
  ("run_plain" : Str), ("_law_mixed" : Str), ("_law_take" : Str), ("_law_state" : Str), ("_law_same" : Str), ("_law_last" : Str)]
theorem headRunF (w : World) : HandSHeadRun.RunEq R (PySem.W.view R.prog [74]) hk ob 9000 loose (w.withFollow "special-get-raises" false) := by
  intro os
  kernel_rfl
theorem headRunT (w : World) : HandSHeadRun.RunEq R (PySem.W.view R.prog [74]) hk ob 9000 loose (w.withFollow "special-get-raises" true) := by
  intro os
  kernel_rfl
theorem headRun (w : World) : HandSHeadRun.RunEq R (PySem.W.view R.prog [74]) hk ob 9000 loose w := PySem.W.byRow2 "special-get-raises" (P := fun w => HandSHeadRun.RunEq R (PySem.W.view R.prog [74]) hk ob 9000 loose w) headRunF headRunT w
end My
namespace My
open PySem PySem.Spec PyProof.Rows L2
/-! ### {**a, **b} -/
section
variable {prog : Program} {w : World} {Kk : Type} [DecidableEq Kk] {knd : KeyKind prog w Kk} {A : Around} {E : Value → Shared → Prop} {s : Shared}
theorem wpAny_dictPut_pairs {d : Addr} {kvs : List (Kk × Value)} {k : Kk} {key v : Value} {Q : Unit → Shared → Prop} (hkey : knd.is k key = true) (hm : s.heap.DictOf knd d kvs)
    (hQ : ∀ h', h'.DictOf knd d (stored kvs k v) → Heap.SameBut d s.heap h' → Q () { s with heap := h' })
    (hsz : kvs.length ≤ sizeLine) : wpAny (model prog w) A (dictPut d (knd.hash k) key v) Q E s := by
  obtain ⟨o, es, ep, ho, hc, hd, hk, hp, hn⟩ := hm
  have hes : es.size ≤ sizeLine := by have e1 := hp.length; have e2 : es.toList.length = es.size := by simp
                                      omega
  unfold dictPut
  refine wpAny_bind (wpAny_dictFind_of hkey ho hd hk ?_)
  have hidx : (es.findIdx? fun e => knd.is k e.key) = kvs.findIdx? fun kv => decide (kv.1 = k) := by
    rw [← hp.findIdx k]; obtain ⟨l⟩ := es; simp
  cases hi : es.findIdx? fun e => knd.is k e.key with
  | some i =>
    refine wpAny_updateDict ho hd (hQ _ ⟨_, _, ep, Heap.get?_update_self _ ho (Obj.isFreed_of_dict (Obj.data_mapDict hd _)),
      hc.mapDict _, Obj.data_mapDict hd _, hk.modify _ _, ?_, ?_⟩ (Heap.SameBut.update ..))
    · rw [stored, if_pos (any_of_findIdx_some (hidx ▸ hi))]
      have hl : (es.toList.findIdx? fun e => knd.is k e.key) = some i := by rw [← hi]; obtain ⟨l⟩ := es; simp
      have := hp.modify hn hl v
      obtain ⟨l⟩ := es
      simpa using this
    · rw [stored, if_pos (any_of_findIdx_some (hidx ▸ hi)), keys_map_store]; exact hn
  | none =>
    have hnot : k ∉ kvs.map (·.1) := not_mem_of_findIdx_none (hidx ▸ hi)
    have hany : ¬ (kvs.any fun kv => decide (kv.1 = k)) = true := by
      rw [List.any_eq_true]; rintro ⟨kv, hkv, he⟩
      exact hnot (List.mem_map.mpr ⟨kv, hkv, of_decide_eq_true he⟩)
    refine wpAny_updateDictKeys (hz := hes) ho hd (hQ _ ⟨_, _, ep + 1, Heap.get?_update_self _ ho (Obj.isFreed_of_dict (Obj.data_mapDictKeys hd _)),
      hc.mapDictKeys _, Obj.data_mapDictKeys hd _, hk.push hkey _, ?_, ?_⟩ (Heap.SameBut.update ..))
    · rw [stored, if_neg hany]
      have := hp.append hkey (knd.hash k) v
      obtain ⟨l⟩ := es
      simpa using this
    · rw [stored, if_neg hany, List.map_append, List.nodup_append]
      refine ⟨hn, by simp, ?_⟩
      intro a ha b hb
      simp only [List.map_cons, List.map_nil, List.mem_singleton] at hb
      subst hb
      exact fun e => hnot (e ▸ ha)
theorem wpAny_mergeMapping {d o : Addr} {kvs more : List (Kk × Value)} {Q : Unit → Shared → Prop} (hdo : d ≠ o) (hoS : (o == sysModules) = false)
    (hd : s.heap.DictOf knd d kvs) (ho : s.heap.DictOf knd o more)
    (hQ : ∀ h', h'.DictOf knd d (merged kvs more) → h'.DictOf knd o more → Heap.SameBut d s.heap h' → Q () { s with heap := h' })
    (hsz : kvs.length + more.length ≤ sizeLine) :
    wpAny (model prog w) A (mergeMapping d (.ref o) false) Q E s := by
  obtain ⟨od, esd, epd, hod, hcd, hdd, hkd, hpd, hnd⟩ := id hd
  obtain ⟨oo, eso, epo, hoo, hco, hdo', hko, hpo, hno⟩ := id ho
  have hlen : more.length = eso.size := by rw [← hpo.length]; simp
  unfold mergeMapping
  refine wpAny_bind (wpAny_isInstance (U := "dict") (b := true) ho.typeIs (by kernel_rfl) ?_)
  dsimp only
  rw [if_pos rfl]
  refine wpAny_bind (wpAny_specialOf ho.typeIs PySem.F.slot_dict_iter.lookup ?_)
  rw [show (some (Value.builtin "dict.__iter__") == some (Value.builtin "dict.__iter__")) = true from by decide +kernel]
  refine wpAny_bind (wpAny_pure ?_)
  dsimp only
  rw [if_neg (by rw [hoS]; exact Bool.false_ne_true)]
  refine wpAny_bind (wpAny_dictEntries hod hdd ?_)
  have loop : wpAny (model prog w) A (do
      let l ← dictEntries o
      let epoch ← dictEpoch o
      forIn (List.range l.size) PUnit.unit fun i (_ : PUnit) => (do
          let l' ← dictEntries o
          match l'[i]? with
            | some e => do
              holding [e.key, e.val] (dictPut d e.hash e.key e.val)
              let ep' ← dictEpoch o
              if (ep' != epoch) = true then do
                  (unsupported "dict.changed-during-merge" : Sem PUnit)
                  pure (ForInStep.yield PUnit.unit)
                else pure (ForInStep.yield PUnit.unit)
            | _ => do
              (unsupported "dict.changed-during-merge" : Sem PUnit)
              pure (ForInStep.yield PUnit.unit) : Sem (ForInStep PUnit))
      pure ()) Q E s := by
    refine wpAny_bind (wpAny_dictEntries hoo hdo' ?_)
    refine wpAny_bind (wpAny_dictEpoch hoo hdo' ?_)
    refine wpAny_bind ?_
    rw [List.range_eq_range']
    refine wpAny_forIn_list _
      (fun rest _ s' => ∃ h' i, s' = { s with heap := h' } ∧ rest = List.range' i (eso.size - i) ∧ i ≤ eso.size ∧ h'.DictOf knd d (merged kvs (more.take i)) ∧ h'.get? o = some oo ∧ Heap.SameBut d s.heap h')
      _ ?_ ?_ _ _ ⟨s.heap, 0, rfl, by simp, Nat.zero_le _, by simpa [merged] using hd, hoo, Heap.SameBut.refl _ _⟩
    · rintro x rest b s' ⟨h', i, rfl, hr, hi, hd', hoo', hs'⟩
      have hlt : i < eso.size := by
        rcases Nat.lt_or_ge i eso.size with h | h
        · exact h
        · rw [Nat.sub_eq_zero_of_le h] at hr; simp at hr
      obtain ⟨rfl, hrest⟩ : x = i ∧ rest = List.range' (i + 1) (eso.size - (i + 1)) := by
        have e : eso.size - i = (eso.size - (i + 1)) + 1 := by omega
        rw [e, List.range'_succ] at hr
        injection hr with h1 h2
        exact ⟨h1, h2⟩
      refine wpAny_bind (wpAny_dictEntries hoo' hdo' ?_)
      rw [Array.getElem?_eq_getElem hlt]
      obtain ⟨kv, hkv⟩ : ∃ kv, more[x]? = some kv := ⟨more[x]'(by rw [hlen]; exact hlt), List.getElem?_eq_getElem _⟩
      obtain ⟨k, v⟩ := kv
      obtain ⟨hkey, hval⟩ := hpo.get? (e := eso[x]) (by simp [hlt]) hkv
      obtain ⟨k', hkey', hhash⟩ := hko eso[x] (Array.getElem_mem hlt)
      obtain rfl : k' = k := knd.inj _ _ _ hkey' hkey
      show wpAny _ _ (holding [eso[x].key, eso[x].val] (dictPut d eso[x].hash eso[x].key eso[x].val) >>= _) _ _ _
      rw [hhash, hval]
      have hmx : (merged kvs (more.take x)).length ≤ sizeLine := by
        have e1 := merged_length_le kvs (more.take x)
        have e2 : (more.take x).length ≤ more.length := by rw [List.length_take]; omega
        omega
      refine wpAny_bind (wpAny_holding (wpAny_dictPut_pairs (hsz := hmx) hkey hd' fun h'' hd'' hs'' => ?_))
      have hoo'' : h''.get? o = some oo := (hs''.2 o (Ne.symm hdo)).trans hoo'
      refine wpAny_bind (wpAny_dictEpoch hoo'' hdo' ?_)
      rw [if_neg (by simp)]
      exact wpAny_pure ⟨h'', x + 1, rfl, hrest, hlt, by rw [merged_take_succ kvs more x (k', v) hkv]; exact hd'', hoo'', hs'.trans hs''⟩
    · rintro b s' ⟨h', i, rfl, hr, hi, hd', hoo', hs'⟩
      have hin : i = eso.size := by
        rcases Nat.lt_or_ge i eso.size with h | h
        · have e : eso.size - i = (eso.size - (i + 1)) + 1 := by omega
          rw [e, List.range'_succ] at hr; exact nomatch hr
        · exact Nat.le_antisymm hi h
      refine wpAny_pure (hQ h' ?_ ⟨oo, eso, epo, hoo', hco, hdo', hko, hpo, hno⟩ hs')
      rw [hin, ← hlen, List.take_length] at hd'; exact hd'
  split
  · refine wpAny_bind (wpAny_dictEntries hoo hdo' ?_)
    refine wpAny_bind ?_
    rw [← Array.forIn_toList]
    refine wpAny_of_eq (a := PUnit.unit) (forIn_yield_id _ fun e he c => ?_) ?_
    · obtain ⟨k, hkey, _⟩ := hko e (Array.mem_toList_iff.mp he)
      have bv := knd.byValue k _ hkey
      split
      · rename_i heq
        rw [heq] at bv
        cases bv
      · rfl
    · exact loop
  · exact loop
end
end My
namespace My
open PySem PySem.Spec PyProof.Rows L2
section
variable {X : Cx}
def tMrg (ta tb : TE) : TE := fun σ H Q => ∀ d, H d = none → ta σ (upd H d (.dK [])) fun x H1 => ∃ a ks, x = .ref a ∧ a ≠ d ∧ H1 a = some (.dK ks) ∧ H1 d = some (.dK []) ∧
  tb σ (upd H1 d (.dK (mergeK [] ks))) fun y H2 => ∃ b ls ks1, y = .ref b ∧ b ≠ d ∧ H2 b = some (.dK ls) ∧ H2 d = some (.dK ks1) ∧ ks1.length + ls.length ≤ sizeLine ∧ Q (.ref d) (upd H2 d (.dK (mergeK ks1 ls)))
/-- one dict put into another -/
theorem merge_run {pins : List (Addr × Obj)} {σ : L2.St} {H : Hp} {s : Shared} {A : Around} {E : Value → Shared → Prop} {Q : Unit → Shared → Prop} {d a : Addr} {ks ls : List (Key × V)} (I : Inv X pins σ H s) (had : a ≠ d) (hd : H d = some (.dK ks)) (ha : H a = some (.dK ls))
    (hz : ks.length + ls.length ≤ sizeLine) (q : ∀ s', Inv X pins σ (upd H d (.dK (mergeK ks ls))) s' → Q () s') : wpAny (model X.prog X.w) A (mergeMapping d (.ref a) false) Q E s := by
  obtain ⟨zd, sd, vd, rd, dd⟩ := dk_of I.hok hd
  obtain ⟨za, sa, va, ra, da⟩ := dk_of I.hok ha
  refine wpAny_mergeMapping (Ne.symm had) sa dd da (fun h' hd' _ hs => q _ ?_) (by rw [← rd.length, ← ra.length]; exact hz)
  have he : ∃ q, h'.get? d = some q := let ⟨q, _, _, hq, _⟩ := hd'; ⟨q, hq⟩
  have hl : (mergeK ks ls).length ≤ sizeLine := Nat.le_trans (length_mergeK ls ks) hz
  exact d_write (t' := s.toks) I (by rw [hd]; exact True.intro) hs he (dk_new hl sd (KV.merge ra rd) hd')
theorem pe_dmerge {a b : Expr} {ta tb : TE} {pos : Pos} (ha : PE X a ta) (hb : PE X b tb) : PE X (.Dict [none, none] [a, b] pos) (tMrg ta tb) := by
  refine ⟨fun pins s σ H Q I h => ?_⟩
  rw [arm_eval_Dict]
  refine wpAny_bind (wpAny_standAt ?_)
  show wpAny _ _ (dictDisplay [(none, do let x ← eval a X.env; standAt pos; pure x), (none, do let x ← eval b X.env; standAt pos; pure x)]) _ _ _
  unfold dictDisplay
  simp only [List.forIn_cons, List.forIn_nil, List.isEmpty_nil, if_true, pure_bind]
  refine wpAny_bind (wpAny_bind (wpAny_bind (wpAny_alloc ?_)))
  have I1 : Inv X pins σ (upd H s.heap.objs.size (.dK [])) { s with heap := s.heap.push { cls := .type "dict", data := .dict #[] }, toks := s.toks } :=
    I.laid (a := s.heap.objs.size) (o := .dK []) (t' := s.toks) (fun _ _ q => Heap.get?_push_of_some _ q) (Nat.le_refl _) (dk_empty s.heap I.big)
  have hd0 : H s.heap.objs.size = none := I.hok.fresh (Nat.le_refl _)
  have h1 := h s.heap.objs.size hd0
  generalize s.heap.objs.size = d at I1 hd0 h1 ⊢
  refine wpAny_bind (wpAny_holding (wpAny_bind (thn (ha.run pins _ σ _ _ I1 h1) fun v s2 h2 => ?_)))
  obtain ⟨x, H2, I2, r2, p, ks, rfl, npd, hp, hd, h2⟩ := h2
  obtain rfl : v = Value.ref p := r2
  refine wpAny_bind (wpAny_standAt (wpAny_pure ?_))
  refine wpAny_bind (wpAny_onRaise (wpAny_tryCatch (wpAny_onRaise (wpAny_holding (merge_run I2 npd hd hp (by have := (dk_of I2.hok hp).1; simpa using this) fun s3 I3 => ?_)))))
  refine wpAny_pure ?_
  dsimp only
  refine wpAny_bind (wpAny_bind ?_)
  rw [if_pos (show ([] : List (Sem Value × Sem Value)).isEmpty = true from rfl)]
  refine wpAny_pure ?_
  dsimp only
  refine wpAny_bind (wpAny_holding (wpAny_bind (thn (hb.run pins _ σ _ _ I3 h2) fun v s4 h4 => ?_)))
  obtain ⟨y, H4, I4, r4, p2, ls, ks1, rfl, npd2, hp2, hd2, hz, h4⟩ := h4
  obtain rfl : v = Value.ref p2 := r4
  refine wpAny_bind (wpAny_standAt (wpAny_pure ?_))
  refine wpAny_bind (wpAny_onRaise (wpAny_tryCatch (wpAny_onRaise (wpAny_holding (merge_run I4 npd2 hd2 hp2 hz fun s5 I5 => ?_)))))
  refine wpAny_pure ?_
  dsimp only
  refine wpAny_pure ?_
  refine wpAny_bind ?_
  rw [if_pos (show ([] : List (Sem Value × Sem Value)).isEmpty = true from rfl)]
  refine wpAny_pure ?_
  exact wpAny_pure ⟨.ref d, _, I5, rfl, h4⟩
end
end My
namespace My
open PySem L2
section
variable {P : Program} {w : World} {K : PySem.W.Frag} {mg : Str → Option Value} {base : Heap}
theorem scTake : FnScope ["state", "limit", "cell", "digit"] ["state", "limit"] (defScope sTake) := ⟨rfl, rfl, rfl, by decide +kernel, rfl, by decide +kernel, by decide +kernel⟩
theorem at0 {α : Type} (x : α) (r : List α) : atI (x :: r) 0 = some x := atI_nat (xs := x :: r) (j := 0) rfl
theorem at1 {α : Type} (x y : α) (r : List α) : atI (x :: y :: r) 1 = some y := atI_nat (xs := x :: y :: r) (j := 1) rfl
theorem ok_take {f fM : Addr} {fd fdM : FuncData} (F : Fun K "_law_take" "_law_take" sTake f fd) (B : Blt mg) (FM : Fun K "_law_mixed" "_law_mixed" sMixed fM fdM) (gM : mg "_law_mixed" = some (.ref fM))
    (bM : Binds K fdM ["cell"] []) : FnOk P w K mg base CX0 2 f fd ["state", "limit"] spTake := by
  have GM : FnOk P w K mg base CX0 1 fM fdM ["cell"] spMixed := ok_mixed FM B
  refine F.ok scTake (fun vs H Q E h => ?_) (fun cdv A outer s H vs Q E hr h => ?_)
  · obtain ⟨S, L, n, rfl, _⟩ := h
    rfl
  obtain ⟨S, L, n, rfl, hL, n0, nb, q⟩ := h
  have hSL := hL.ne
  obtain ⟨cs, d, hS, hL', d0, l63⟩ := hL
  refine ⟨_, C8.pss_cut (ps_if (PW.pt (pw_and (pt_cmpR op_lt (pe_ix ix_list (pv 0) pe_int (fun _ _ => rfl)) (pv 1) (nomark _))
        (pw_and1 (pt_cmpR op_gt (pe_callB call_len_seq (by rfl) B.len PySem.boot_len (pa_cons (pe_ix ix_list (pv 0) pe_int (fun _ _ => rfl)) pa_nil)) pe_int (nomark _)))))
      (pss_cons (ps_set (i := 2) scTake.nd rfl (Or.inl rfl) (pe_callB call_abs (by rfl) B.abs (by decide +kernel) (pa_cons (pe_callTy call_int1 (by rfl) B.int (by decide +kernel)
          (pa_cons (pe_bm PySem.F.plainAttrs_list PySem.F.slot_list_pop PySem.F.type_list_pop mt_popAt (pe_ix ix_list (pv 0) pe_int (fun _ _ => rfl)) (pa_cons pe_int pa_nil)) pa_nil)) pa_nil)))
      (C8.pss_cut (ps_if (pt_cmpR op_lt (pv 2) (pe_op op_pow pe_int pe_int) (nomark _)) (pss_one (ps_set (i := 2) scTake.nd rfl (Or.inl rfl) (pe_call GM (hr.mono (by decide)) rfl gM FM.kp bM .nil pass0 (pa_cons (pv 2) pa_nil)))) pss_nil)
      (pss_one (ps_asg (pv 2) (pg_sub (pv 0) pe_int set_list))))) pss_nil)
    (pss_cons (ps_set (i := 3) scTake.nd rfl (Or.inl rfl) (pe_op op_mod (pe_callTy call_int1 (by rfl) B.int (by decide +kernel) (pa_cons (pe_ix ix_list (pv 0) pe_int (fun _ _ => rfl)) pa_nil)) (pv 1)))
    (pss_cons (ps_asg (pe_op op_fdivW (pe_ix ix_list (pv 0) pe_int (fun _ _ => rfl)) (pv 1)) (pg_sub (pv 0) pe_int set_list))
    (pss_one (ps_ret (pv 3))))), ?_⟩
  -- behind the first if
  refine ⟨fun σ H' => ∃ (v : Option V), σ = [some (.ref S), some (.int n), v, none] ∧ LS H' S L ∧ Sm (Two S L) H H', ?_, ?_⟩
  · refine ⟨_, rfl, S, _, _, _, rfl, rfl, SqL.of hS, at1 _ _ _, _, rfl, _, _, rfl, rfl, _, rfl, ?_⟩
    refine ite2 (fun c => ?_) (fun c => ?_)
    · refine ⟨_, rfl, S, _, _, _, rfl, rfl, SqL.of hS, at0 _ _, L, _, rfl, .inl (SqL.of hL'), _, _, rfl, rfl, _, rfl, ?_⟩
      refine ite2 (fun c2 => ?_) (fun c2 => ?_)
      · have c2' := of_decide_eq_true c2
        rw [List.length_map] at c2'
        cases cs with
        | nil => exact absurd c2' (by decide)
        | cons c0 cr =>
          refine ⟨_, rfl, S, _, _, _, rfl, rfl, SqL.of hS, at0 _ _, .inl ⟨rfl, _, SqL.of hL'⟩, L, _, 0, 0, _, rfl, rfl, hL', by decide, by decide, ?_, rfl, ?_⟩
          · unfold seqIndex?
            simp
          refine .inl ⟨_, rfl, _, rfl, ?_⟩
          refine ⟨fun σ H' => ∃ (m : Int), σ = [some (.ref S), some (.int n), some (.int m), none] ∧ 0 ≤ m ∧ H' = upd H L (.lst (cr.map V.int)), ?_, ?_⟩
          · refine ⟨_, rfl, _, _, rfl, rfl, ⟨by decide, by decide, by decide⟩, _, _, rfl, rfl, _, rfl, ?_⟩
            refine ite2 (fun _ => ?_) (fun _ => ?_)
            · exact ⟨_, rfl, _, rfl, fun m m0 => ⟨m, rfl, m0, rfl⟩⟩
            · refine ⟨_, rfl, ?_, rfl⟩
              by_cases hc : c0 < 0
              · rw [if_pos hc]; omega
              · rw [if_neg hc]; omega
          · rintro σ H' ⟨m, rfl, m0, rfl⟩
            have hS1 : upd H L (.lst (cr.map V.int)) S = some (.lst [.ref L, .int d]) := by rw [upd_ne hSL]; exact hS
            refine ⟨_, rfl, _, rfl, S, _, _, 1, rfl, rfl, hS1, rfl, ?_⟩
            refine ⟨_, rfl, ⟨cr, m, upd_same, by rw [upd_ne hSL.symm, upd_same], m0, by simp at l63; omega⟩, ?_⟩
            exact (Sm.set (.inr rfl) (ntbl_l hL')).trans (Sm.set (.inl rfl) (ntbl_l hS1))
      · exact ⟨_, rfl, ⟨_, d, hS, hL', d0, l63⟩, Sm.refl _ _⟩
    · exact ⟨_, rfl, ⟨_, d, hS, hL', d0, l63⟩, Sm.refl _ _⟩
  · rintro σ H' ⟨v, rfl, ⟨cs', d', h1, h2, d1, l1⟩, sm⟩
    refine ⟨_, rfl, S, _, _, _, rfl, rfl, SqL.of h1, at1 _ _ _, .inl ⟨_, rfl, _, rfl, _, _, rfl, rfl, n0, ?_⟩⟩
    refine ⟨_, rfl, S, _, _, _, rfl, rfl, SqL.of h1, at1 _ _ _, _, rfl, _, _, rfl, rfl, wide_div n0 nb (by decide) (by decide), ?_⟩
    refine ⟨_, rfl, S, _, _, 1, rfl, rfl, h1, rfl, _, rfl, ?_⟩
    refine q (d' % n) _ (Int.emod_nonneg _ (by omega)) (Int.emod_lt_of_pos _ n0) ⟨cs', d' / n, upd_same, by rw [upd_ne hSL.symm]; exact h2, Int.ediv_nonneg d1 (by omega), l1⟩ (sm.trans (Sm.set (.inl rfl) (ntbl_l h1)))
end
end My
namespace My
open PySem L2
section
variable {P : Program} {w : World} {K : PySem.W.Frag} {mg : Str → Option Value} {base : Heap}
theorem scState : FnScope ["script", "cell"] ["script"] (defScope sState) := ⟨rfl, rfl, rfl, by decide +kernel, rfl, by decide +kernel, by decide +kernel⟩
theorem map_at {xs : List Int} {i : Nat} {y : V} (h : (xs.map V.int)[i]? = some y) : ∃ z, xs[i]? = some z ∧ y = .int z := by
  rw [List.getElem?_map] at h
  cases e : xs[i]? with
  | none => rw [e] at h; cases h
  | some z => rw [e] at h; exact ⟨z, rfl, (Option.some.inj h).symm⟩
theorem take_more {α : Type} {l : List α} {i : Nat} {x : α} (h : l[i]? = some x) : l.take (i + 1) = l.take i ++ [x] := by
  rw [List.take_add_one, h]; rfl
theorem cutV_ints (ns : List Int) (k : Nat) : cutV (ns.map V.int) none (some (k : Int)) = ((ns.take k).map V.int) := by
  unfold cutV
  rw [HT.sIx_none, HT.sIx_nat, List.drop_zero, List.length_map, ← List.map_take]
  congr 1
  rw [show min k ns.length - 0 = min k ns.length by omega, List.take_eq_take_iff.mpr]
  omega
theorem line_of {n : Nat} (h : n ≤ 1000) : n < sizeLine := small1000 h
theorem ok_state {f : Addr} {fd : FuncData} (F : Fun K "_law_state" "_law_state" sState f fd) (B : Blt mg) : FnOk P w K mg base CX0 1 f fd ["script"] (spState K) := by
  refine F.ok scState (fun vs H Q E h => ?_) (fun cdv A outer s H vs Q E hr h => ?_)
  · obtain ⟨a, ns, rfl, _⟩ := h
    rfl
  obtain ⟨a, ns, rfl, hS, h63, q⟩ := h
  refine ⟨_, pss_one (ps_ret (pe_lst (pa_cons (pe_lc (own := [("cell", 1)]) (g := gName 1) (tt := tYes) rfl scState.nd (pi_list (pe_slice sl_list (pv 0) po_none (po_some pe_int)))
      (blkOk_by (N := ["script", "cell"]) (sc := defScope sState) (by decide +kernel)) (fun _ _ _ _ _ => pg_name (i := 1) scState.nd rfl (Or.inl rfl)) (fun _ _ _ _ _ => pts_nil)
      (fun _ _ _ _ _ => pe_callTy call_int1 (by rfl) B.int (by decide +kernel) (pa_cons (pv 1) pa_nil))) (pa_cons pe_int pa_nil)))), ?_⟩
  refine ⟨_, rfl, _, rfl, a, _, rfl, hS, fun p hp => ?_⟩
  have ec := cutV_ints ns 63
  rw [show ((63 : Nat) : Int) = 63 from rfl] at ec
  rw [ec]
  have len63 : (ns.take 63).length ≤ 63 := by rw [List.length_take]; omega
  refine ⟨p, rfl, ⟨_, SqL.of upd_same⟩, fun D hD => ?_⟩
  have npD : p ≠ D := ne_of_none upd_same hD
  have hD0 : H D = none := upd_dom _ hD
  refine lc_list (xs := (ns.take 63).map V.int) (fun i H' => H' D = some (.lst (((ns.take 63).take i).map V.int)) ∧ H' p = some (.lst ((ns.take 63).map V.int)) ∧ Sm No H H') ⟨?_, ?_, ?_⟩ (fun i H' _ h => SqL.of h.2.1) ?_ ?_
  · rw [List.take_zero]; exact upd_same
  · rw [upd_ne npD]; exact upd_same
  · exact ((Sm.refl No H).mut hp (fun ps z => by rw [hp] at z; cases z)).mut hD0 (fun ps z => by rw [hD] at z; cases z)
  · rintro i x H' hi ⟨h1, h2, sm⟩
    obtain ⟨z, hz, rfl⟩ := map_at hi
    have ln : i < 64 := by
      have := (List.getElem?_eq_some_iff.mp hz).1
      omega
    refine ⟨rfl, ?_⟩
    refine ⟨_, rfl, .inl ⟨_, rfl, _, h1, ?_, ?_, ?_, ?_⟩⟩
    · rw [List.length_map, List.length_take]
      exact line_of (by omega)
    · rw [upd_same, take_more hz, List.map_append]; rfl
    · rw [upd_ne npD]; exact h2
    · exact sm.mut hD0 (ntbl_l h1)
  · rintro H' ⟨h1, h2, sm⟩
    rw [List.length_map, List.take_length] at h1
    refine ⟨by show 2 ≤ sizeLine; decide, fun S hSn => ?_⟩
    have hS0 := sm.dom S hSn
    have nSD : D ≠ S := ne_of_none h1 hSn
    exact q S D _ hS0 hD0 ⟨_, 0, upd_same, by rw [upd_ne nSD]; exact h1, by decide, len63⟩ (sm.mut hS0 fun ps z => by rw [hSn] at z; cases z)
end
end My
namespace My
open PySem PySem.Spec PyProof.Rows L2 TL
def big : Nat := 1000000
/-! ### core trees -/
inductive Tr where
  | int (i : Int)
  | loc (n : Int)
  | glob (m x : Str)
  | prim (p : Str)
  | fn (ns : List Int) (b : Tr)
  | let_ (ns : List Int) (ts : List Tr) (b : Tr)
  | if_ (a b c : Tr)
  | call (f : Tr) (ts : List Tr)
/-! in the heap, where tuples never change -/
mutual
inductive RT (H : Hp) : V → Tr → Prop
  | int {a : Addr} {i : Int} (h : H a = some (.tup [.str "int", .int i])) : RT H (.ref a) (.int i)
  | loc {a : Addr} {n : Int} (h : H a = some (.tup [.str "local", .int n])) : RT H (.ref a) (.loc n)
  | glob {a : Addr} {m x : Str} (h : H a = some (.tup [.str "global", .str m, .str x])) : RT H (.ref a) (.glob m x)
  | prim {a : Addr} {p : Str} (h : H a = some (.tup [.str "prim", .str p])) : RT H (.ref a) (.prim p)
  | fn {a q : Addr} {v : V} {ns : List Int} {b : Tr} (h : H a = some (.tup [.str "fn", .ref q, v])) (hq : H q = some (.tup (ns.map V.int))) (r : RT H v b) : RT H (.ref a) (.fn ns b)
  | let_ {a q : Addr} {v : V} {vs : List V} {ns : List Int} {ts : List Tr} {b : Tr} (h : H a = some (.tup [.str "let", .ref q, v])) (hq : H q = some (.tup vs)) (rp : RTp H vs ns ts) (r : RT H v b) : RT H (.ref a) (.let_ ns ts b)
  | if_ {a : Addr} {x y z : V} {p q r : Tr} (h : H a = some (.tup [.str "if", x, y, z])) (rx : RT H x p) (ry : RT H y q) (rz : RT H z r) : RT H (.ref a) (.if_ p q r)
  | call {a q : Addr} {v : V} {vs : List V} {f : Tr} {ts : List Tr} (h : H a = some (.tup [.str "call", v, .ref q])) (hq : H q = some (.tup vs)) (r : RT H v f) (rs : RTs H vs ts) : RT H (.ref a) (.call f ts)
inductive RTs (H : Hp) : List V → List Tr → Prop
  | nil : RTs H [] []
  | cons {v : V} {t : Tr} {vs : List V} {ts : List Tr} (r : RT H v t) (rs : RTs H vs ts) : RTs H (v :: vs) (t :: ts)
inductive RTp (H : Hp) : List V → List Int → List Tr → Prop
  | nil : RTp H [] [] []
  | cons {q : Addr} {v : V} {n : Int} {t : Tr} {vs : List V} {ns : List Int} {ts : List Tr} (h : H q = some (.tup [.int n, v])) (r : RT H v t) (rs : RTp H vs ns ts) : RTp H (.ref q :: vs) (n :: ns) (t :: ts)
end
/-- tuples stay -/
def KpT (H H' : Hp) : Prop := ∀ a xs, H a = some (.tup xs) → H' a = some (.tup xs)
theorem KpT.trans {H H1 H2 : Hp} (a : KpT H H1) (b : KpT H1 H2) : KpT H H2 := fun c xs h => b c xs (a c xs h)
mutual
theorem RT.keep {H H' : Hp} (k : KpT H H') : ∀ {v : V} {t : Tr}, RT H v t → RT H' v t
  | _, _, .int h => .int (k _ _ h)
  | _, _, .loc h => .loc (k _ _ h)
  | _, _, .glob h => .glob (k _ _ h)
  | _, _, .prim h => .prim (k _ _ h)
  | _, _, .fn h hq r => .fn (k _ _ h) (k _ _ hq) (RT.keep k r)
  | _, _, .let_ h hq rp r => .let_ (k _ _ h) (k _ _ hq) (RTp.keep k rp) (RT.keep k r)
  | _, _, .if_ h rx ry rz => .if_ (k _ _ h) (RT.keep k rx) (RT.keep k ry) (RT.keep k rz)
  | _, _, .call h hq r rs => .call (k _ _ h) (k _ _ hq) (RT.keep k r) (RTs.keep k rs)
theorem RTs.keep {H H' : Hp} (k : KpT H H') : ∀ {vs : List V} {ts : List Tr}, RTs H vs ts → RTs H' vs ts
  | _, _, .nil => .nil
  | _, _, .cons r rs => .cons (RT.keep k r) (RTs.keep k rs)
theorem RTp.keep {H H' : Hp} (k : KpT H H') : ∀ {vs : List V} {ns : List Int} {ts : List Tr}, RTp H vs ns ts → RTp H' vs ns ts
  | _, _, _, .nil => .nil
  | _, _, _, .cons h r rs => .cons (k _ _ h) (RT.keep k r) (RTp.keep k rs)
end
theorem Sm.kpT {H H' : Hp} (s : Sm No H H') : KpT H H' := fun a xs h => s.keep a _ (fun z => z) rfl h
theorem RTs.len {H : Hp} : ∀ {vs : List V} {ts : List Tr}, RTs H vs ts → vs.length = ts.length
  | _, _, .nil => rfl
  | _, _, .cons _ r => congrArg (· + 1) (RTs.len r)
theorem RTs.get {H : Hp} : ∀ {vs : List V} {ts : List Tr} {i : Nat} {v : V}, RTs H vs ts → vs[i]? = some v → ∃ t, ts[i]? = some t ∧ RT H v t
  | _, _, _, _, .nil, e => by simp at e
  | _, _, 0, _, .cons r _, e => by cases e; exact ⟨_, rfl, r⟩
  | _, _, i + 1, _, .cons _ rs, e => by
    obtain ⟨t, h1, h2⟩ := RTs.get (i := i) rs (by simpa using e)
    exact ⟨t, by simpa using h1, h2⟩
theorem RTs.snoc {H : Hp} : ∀ {vs : List V} {ts : List Tr} {v : V} {t : Tr}, RTs H vs ts → RT H v t → RTs H (vs ++ [v]) (ts ++ [t])
  | _, _, _, _, .nil, h => .cons h .nil
  | _, _, _, _, .cons g r, h => .cons g (RTs.snoc r h)
theorem RTp.len {H : Hp} : ∀ {vs : List V} {ns : List Int} {ts : List Tr}, RTp H vs ns ts → vs.length = ns.length ∧ ts.length = ns.length
  | _, _, _, .nil => ⟨rfl, rfl⟩
  | _, _, _, .cons _ _ r => ⟨congrArg (· + 1) (RTp.len r).1, congrArg (· + 1) (RTp.len r).2⟩
theorem RTp.get {H : Hp} : ∀ {vs : List V} {ns : List Int} {ts : List Tr} {i : Nat} {v : V}, RTp H vs ns ts → vs[i]? = some v → ∃ q x n t, v = .ref q ∧ H q = some (.tup [.int n, x]) ∧ ns[i]? = some n ∧ ts[i]? = some t ∧ RT H x t
  | _, _, _, _, _, .nil, e => by simp at e
  | _, _, _, 0, _, .cons h r _, e => by cases e; exact ⟨_, _, _, _, rfl, h, rfl, rfl, r⟩
  | _, _, _, i + 1, _, .cons _ _ rs, e => by
    obtain ⟨q, x, n, t, h1, h2, h3, h4, h5⟩ := RTp.get (i := i) rs (by simpa using e)
    exact ⟨q, x, n, t, h1, h2, by simpa using h3, by simpa using h4, h5⟩
theorem RTp.snoc {H : Hp} : ∀ {vs : List V} {ns : List Int} {ts : List Tr} {q : Addr} {v : V} {n : Int} {t : Tr}, RTp H vs ns ts → H q = some (.tup [.int n, v]) → RT H v t → RTp H (vs ++ [.ref q]) (ns ++ [n]) (ts ++ [t])
  | _, _, _, _, _, _, _, .nil, h, r => .cons h r .nil
  | _, _, _, _, _, _, _, .cons g r rs, h, k => .cons g r (RTp.snoc rs h k)
/-- the word of a tree -/
def word : Tr → Str
  | .int _ => "int"
  | .loc _ => "local"
  | .glob _ _ => "global"
  | .prim _ => "prim"
  | .fn _ _ => "fn"
  | .let_ _ _ _ => "let"
  | .if_ _ _ _ => "if"
  | .call _ _ => "call"
theorem RT.head {H : Hp} {v : V} {t : Tr} (r : RT H v t) : ∃ (a : Addr) (xs : List V), v = .ref a ∧ H a = some (.tup (.str (word t) :: xs)) ∧ xs.length ≤ 3 := by
  cases r with
  | int h => exact ⟨_, _, rfl, h, by simp⟩
  | loc h => exact ⟨_, _, rfl, h, by simp⟩
  | glob h => exact ⟨_, _, rfl, h, by simp⟩
  | prim h => exact ⟨_, _, rfl, h, by simp⟩
  | fn h => exact ⟨_, _, rfl, h, by simp⟩
  | let_ h => exact ⟨_, _, rfl, h, by simp⟩
  | if_ h => exact ⟨_, _, rfl, h, by simp⟩
  | call h => exact ⟨_, _, rfl, h, by simp⟩
def bnd : Tr → List Int
  | .fn ns _ => ns
  | .let_ ns _ _ => ns
  | _ => []
def kids : Tr → List Int → List (Tr × List Int)
  | .if_ a b c, kn => [(a, kn), (b, kn), (c, kn)]
  | .call f ts, kn => (f, kn) :: ts.map fun t => (t, kn)
  | .fn ns b, kn => [(b, ns ++ kn)]
  | .let_ ns ts b, kn => (ts.map fun t => (t, kn)) ++ [(b, ns ++ kn)]
  | _, _ => []
/-! how many parts, and no row of more than 1000 -/
mutual
def szT : Tr → Nat
  | .fn _ b => szT b + 1
  | .let_ _ ts b => szTs ts + szT b + 1
  | .if_ a b c => szT a + szT b + szT c + 1
  | .call f ts => szT f + szTs ts + 1
  | _ => 1
def szTs : List Tr → Nat
  | [] => 0
  | t :: ts => szT t + szTs ts
end
mutual
def widT : Tr → Prop
  | .fn ns b => ns.length ≤ 1000 ∧ widT b
  | .let_ ns ts b => ns.length ≤ 1000 ∧ widTs ts ∧ widT b
  | .if_ a b c => widT a ∧ widT b ∧ widT c
  | .call f ts => ts.length ≤ 900 ∧ widT f ∧ widTs ts
  | .glob m x => m.length ≤ big ∧ x.length ≤ big
  | _ => True
def widTs : List Tr → Prop
  | [] => True
  | t :: ts => widT t ∧ widTs ts
end
theorem szT_pos (t : Tr) : 1 ≤ szT t := by
  cases t <;> (unfold szT; omega)
theorem widTs_mem : ∀ {ts : List Tr}, widTs ts → ∀ t ∈ ts, widT t
  | [], _, _, h => by cases h
  | x :: r, h, t, m => by
    unfold widTs at h
    rcases List.mem_cons.mp m with e | e
    · rw [e]; exact h.1
    · exact widTs_mem h.2 t e
def szK (l : List (Tr × List Int)) : Nat := (l.map fun p => szT p.1).sum
theorem szTs_sum (kn : List Int) : ∀ ts : List Tr, szK (ts.map fun t => (t, kn)) = szTs ts
  | [] => by unfold szTs szK; rfl
  | t :: ts => by
    have ih := szTs_sum kn ts
    unfold szTs
    unfold szK at ih ⊢
    rw [List.map_cons, List.map_cons, List.sum_cons, ih]
theorem szK_kids (t : Tr) (kn : List Int) : szK (kids t kn) + 1 = szT t := by
  cases t with
  | int i => unfold szT; rfl
  | loc i => unfold szT; rfl
  | glob i j => unfold szT; rfl
  | prim i => unfold szT; rfl
  | fn ns b => unfold szT; simp [kids, szK]
  | let_ ns ts b =>
    have := szTs_sum kn ts
    unfold szT kids
    unfold szK at this ⊢
    rw [List.map_append, List.sum_append, this]
    simp
  | if_ a b c => unfold szT; simp [kids, szK]; omega
  | call f ts =>
    have := szTs_sum kn ts
    unfold szT kids
    unfold szK at this ⊢
    rw [List.map_cons, List.sum_cons, this]
theorem wid_kids {t : Tr} {kn : List Int} (h : widT t) : ∀ p ∈ kids t kn, widT p.1 := by
  intro p hp
  cases t with
  | int i => cases hp
  | loc i => cases hp
  | glob i j => cases hp
  | prim i => cases hp
  | fn ns b =>
    unfold widT at h
    rw [List.mem_singleton.mp hp]
    exact h.2
  | let_ ns ts b =>
    unfold widT at h
    rcases List.mem_append.mp hp with m | m
    · obtain ⟨t, ht, e⟩ := List.mem_map.mp m
      rw [← e]
      exact widTs_mem h.2.1 t ht
    · rw [List.mem_singleton.mp m]
      exact h.2.2
  | if_ a b c =>
    unfold widT at h
    simp only [kids, List.mem_cons, List.mem_nil_iff, or_false] at hp
    rcases hp with e | e | e <;> rw [e]
    · exact h.1
    · exact h.2.1
    · exact h.2.2
  | call f ts =>
    unfold widT at h
    rcases List.mem_cons.mp hp with e | m
    · rw [e]; exact h.2.1
    · obtain ⟨t, ht, e⟩ := List.mem_map.mp m
      rw [← e]
      exact widTs_mem h.2.2 t ht
end My
namespace My
open PySem PySem.Spec PyProof.Rows L2 TL
structure Bl2 (mg : Str → Option Value) : Prop where
  dict : mg "dict" = none
  zip : mg "zip" = none
  enumerate : mg "enumerate" = none
  reversed : mg "reversed" = none
  max : mg "max" = none
structure Cal (P : Program) (w : World) (K : PySem.W.Frag) (mg : Str → Option Value) (base : Heap) (CX : CXT) (k : Nat) (x : Str) (ps : List Str) (sp : Sp) (f : Addr) (fd : FuncData) : Prop where
  ok : FnOk P w K mg base CX k f fd ps sp
  k : PySem.W.keepIn K (.ref f) = true
  g : mg x = some (.ref f)
  b : Binds K fd ps []
/-- a method: its class, where it stands, what it promises -/
structure MCal (P : Program) (w : World) (K : PySem.W.Frag) (mg : Str → Option Value) (base : Heap) (CX : CXT) (k : Nat) (C : Addr) (m : Str) (ps : List Str) (sp : Sp) (f : Addr) (fd : FuncData) : Prop where
  ok : FnOk P w K mg base CX k f fd ps sp
  c : Cls K C
  m : Meth K C m f
  b : Binds K fd ps []
/-! ### del xs[a:] -/
theorem keep_take {f : Nat → Bool} {a : Nat} : ∀ {xs : List Value} {i : Nat}, (∀ k, k < i + xs.length → f k = decide (a ≤ k)) → ((xs.zipIdx i).filterMap fun p => if f p.2 then none else some p.1) = xs.take (a - i)
  | [], i, h => by simp
  | x :: xs, i, h => by
    rw [List.zipIdx_cons, List.filterMap_cons]
    have ih := keep_take (f := f) (a := a) (xs := xs) (i := i + 1) fun k hk => h k (by rw [List.length_cons]; omega)
    rw [ih]
    have e := h i (by rw [List.length_cons]; omega)
    by_cases c : a ≤ i
    · rw [decide_eq_true c] at e
      simp only [e, if_true]
      rw [show a - (i + 1) = 0 by omega, show a - i = 0 by omega]
      rfl
    · rw [decide_eq_false c] at e
      simp only [e, Bool.false_eq_true, if_false]
      rw [show a - i = (a - (i + 1)) + 1 by omega, List.take_succ_cons]
theorem bounds_from {a n : Nat} (h : a ≤ n) : sliceBounds (some (a : Int)) none none n = ((a : Int), (n : Int), 1) := by
  simp only [sliceBounds, Option.getD_none]
  have h1 : ¬ ((a : Int) < 0) := by omega
  simp only [h1, if_false, show (1 : Int) > 0 by decide, if_true]
  congr 1
  omega
section
variable {prog : Program} {w : World} {A : Around} {E : Value → Shared → Prop} {s : Shared}
theorem delItem_from {l sl : Addr} {items : List Value} {n : Nat} {vl vu : Value} {a : Nat} {Q : Unit → Shared → Prop}
    (e : s.heap.get? l = some { cls := .type "list", data := .seq items.toArray n }) (hs : s.heap.IsSliceOf sl vl vu .none) (pl : IsPart vl (some (a : Int))) (pu : IsPart vu none) (ha : a ≤ items.length) (hsz : items.length ≤ sizeLine)
    (h : ∀ F : Array Value → Array Value, F items.toArray = (items.take a).toArray → Q () { s with heap := s.heap.update l (Obj.mapSeq F) }) :
    wpAny (model prog w) A (delItem (.ref l) (.ref sl)) Q E s := by
  have hl : s.heap.IsList l items.toArray := PySem.IsL.isList e
  obtain ⟨os, hos, hcs, hds⟩ := id hs
  have hTs : s.TypeIs (.ref sl) "slice" := ⟨os, hos, hcs⟩
  have hstep : ¬ ((rawPart none == rawInt 0) = true) := Bool.false_ne_true
  unfold delItem
  try with_reducible refine wpAny_holding ?_
  refine wpAny_bind (wpAny_sequenceKey hl.typeIs (by decide) ?_)
  refine wpAny_bind (wpAny_callSpecial?_slot (name := Str.ofString "__delitem__") hl.typeIs PySem.F.slot_list_delitem
    (wpAny_call_entry PySem.F.slot_list_delitem hl.typeIs PySem.F.entry_list_delitem ?_ (PySem.F.args_list_delitem_2 _ _)))
  show wpAny _ _ (Builtin.List.listSubscript? (.ref sl) >>= _) _ _ s
  refine wpAny_bind ?_
  unfold Builtin.List.listSubscript?
  refine wpAny_bind (wpAny_specialOf hTs slice_no_index ?_)
  simp only [Option.isNone_none, if_true]
  refine wpAny_pure ?_
  show wpAny _ _ (typeOf (.ref sl) >>= _) _ _ s
  refine wpAny_bind (wpAny_typeOf hTs ?_)
  first
    | rw [if_neg (by decide)]
    | refine PySem.W.KFB.if_not (by decide) ?_
  rw [listSliceParts_eq]
  refine wpAny_bind (wpAny_bind (wpAny_field hos hds (x := .none) rfl (wpAny_bind (wpAny_listPart .none ?_))))
  rw [if_neg hstep]
  refine wpAny_bind (wpAny_field hos hds (x := vl) rfl (wpAny_bind (wpAny_listPart pl ?_)))
  refine wpAny_bind (wpAny_field hos hds (x := vu) rfl (wpAny_bind (wpAny_listPart pu (wpAny_pure ?_))))
  unfold Builtin.List.listItems
  refine wpAny_bind (wpAny_bind (wpAny_seqItems e rfl (wpAny_pure ?_)))
  refine wpAny_bind (wpAny_of_eq ((sliceIndices_raw (some (a : Int)) none none items.toArray.size (by simp)).trans (congrArg (pure : Int × Int × Int → Sem (Int × Int × Int)) (bounds_from (by rw [List.size_toArray]; exact ha)))) ?_)
  refine wpAny_bind (wpAny_rule ?_)
  refine wpAny_bind (wpAny_updateSeq (hz := by rw [List.size_toArray]; exact hsz) (_hz' := ?hz) e rfl ?mn)
  case hz =>
    rw [List.size_toArray]
    refine Nat.le_trans (List.length_filterMap_le _ _) ?_
    rw [List.length_zipIdx, Array.length_toList, List.size_toArray]
    omega
  case mn =>
  refine wpAny_bind (wpAny_letGo ?_)
  have hF : ∀ F : Array Value → Array Value, F items.toArray = (items.take a).toArray → Q () { s with heap := s.heap.update l (Obj.mapSeq F) } := h
  refine (fun q => by
    first
      | exact wpAny_bind (wpAny_pure (wpAny_pure ⟨.none, rfl, wpAny_pure q⟩))
      | exact wpAny_pure ⟨.none, rfl, wpAny_pure q⟩) (hF _ ?_)
  apply congrArg List.toArray
  refine (keep_take (a := a) (i := 0) fun k hk => ?_).trans (by simp)
  have hk2 : k < items.length := by simpa using hk
  change (if (1 : Int) > 0 then ((decide ((a : Int) ≤ (k : Int)) && decide ((k : Int) < (items.toArray.size : Int))) && (((k : Int) - (a : Int)) % 1 == 0)) else ((decide ((items.toArray.size : Int) < (k : Int)) && decide ((k : Int) ≤ (a : Int))) && (((a : Int) - (k : Int)) % (-1) == 0))) = decide (a ≤ k)
  rw [if_pos (by decide), List.size_toArray, decide_eq_true (show (k : Int) < (items.length : Int) by omega), Bool.and_true, Int.emod_one]
  by_cases c : a ≤ k
  · rw [decide_eq_true c, decide_eq_true (show (a : Int) ≤ (k : Int) by omega)]; rfl
  · rw [decide_eq_false c, decide_eq_false (show ¬ (a : Int) ≤ (k : Int) by omega)]; rfl
end
/-- del xs[a:] -/
def tDelF (to : TE) (tl : TO) : TS := fun D σ H => to σ H fun x H1 => tl σ H1 fun o H2 => ∃ (l : Addr) (xs : List V) (a : Nat), x = .ref l ∧ o = some (a : Int) ∧ H2 l = some (.lst xs) ∧ a ≤ xs.length ∧ D.nx σ (upd H2 l (.lst (xs.take a)))
section
variable {X : Cx}
theorem ps_delF {o lo : Expr} {to ti : TE} {tpos p2 pos : Pos} (ho : PE X o to) (hl : PE X lo ti) : PS X (.Delete [.Subscript o (.Slice (some lo) none none p2) tpos] pos) (tDelF to (tPart ti)) := by
  refine ⟨fun pins s σ H D I h => ?_⟩
  refine wpAny_Delete (wpAny_deleteEach_cons (wpAny_delete_Subscript (thn (ho.run pins s σ H _ I h) fun u s1 ⟨x, H1, I1, rx, q1⟩ => ?_)))
  refine wpAny_Slice (thn ((po_some hl).run pins s1 σ H1 _ I1 q1) fun vl s2 ⟨y, H2, I2, pl, q2⟩ => ?_)
  rw [evalPart_none]
  refine wpAny_pure (wpAny_pure ?_)
  obtain ⟨l, xs, a, ex, ey, hH, ha, q⟩ := q2
  subst ex
  subst ey
  cases (show u = Value.ref l from rx)
  have I4 : Inv X pins σ H2 { s2 with heap := s2.heap.push { cls := .type "slice", data := .fields #[vl, .none, .none] } } := I2.kept (t' := s2.toks) fun b ob q => Heap.get?_push_of_some _ q
  obtain ⟨z, its, n, r, hln, e⟩ := I4.lstM hH
  refine delItem_from e (Heap.IsSliceOf.new ..) pl .none (by rw [← hln]; exact ha) (by omega) fun F hF => ?_
  refine wpAny_deleteEach_nil ⟨σ, _, I4.lset (its' := its.take a) (ys := xs.take a) (t' := s2.toks) hH e hF (r.take a) ?_, q⟩
  rw [List.length_take]
  omega
end
end My
namespace My
open PySem PySem.Spec PyProof.Rows L2 TL
/-! ### code, values -/
inductive Src where
  | place (n : Nat) | kept (n : Nat)
mutual
inductive Code where
  | mk (params places : Nat) (is : List Ins)
inductive Ins where
  | int (i : Int) | prim (p : Str) | glob (m x : Str) | src (s : Src) | fn (c : Code) (ss : List Src) | put (n : Nat) | jump (n : Nat) | unless (n : Nat) | call (n : Nat) | tail (n : Nat) | end_
end
def Code.params : Code → Nat
  | .mk p _ _ => p
def Code.places : Code → Nat
  | .mk _ p _ => p
def Code.is : Code → List Ins
  | .mk _ _ i => i
inductive Vl where
  | int (i : Int)
  | pair (a b : Vl)
  | prim (p : Str)
  | fnP (ns : List Int) (b : Tr) (env : List (Int × Vl))
  | fnM (c : Code) (kept : List Vl)
/-! in the heap -/
def srcV : Src → List V
  | .place n => [.str "place", .int n]
  | .kept n => [.str "kept", .int n]
def RSr (H : Hp) (v : V) (s : Src) : Prop := ∃ a, v = .ref a ∧ H a = some (.tup (srcV s))
inductive RSs (H : Hp) : List V → List Src → Prop
  | nil : RSs H [] []
  | cons {v : V} {s : Src} {vs : List V} {ss : List Src} (r : RSr H v s) (rs : RSs H vs ss) : RSs H (v :: vs) (s :: ss)
mutual
inductive RC (H : Hp) : V → Code → Prop
  | mk {a q : Addr} {p l : Nat} {vs : List V} {is : List Ins} (h : H a = some (.tup [.str "code", .int p, .int l, .ref q])) (hq : H q = some (.tup vs)) (rs : RIs H vs is) : RC H (.ref a) (.mk p l is)
inductive RI (H : Hp) : V → Ins → Prop
  | int {a : Addr} {i : Int} (h : H a = some (.tup [.str "int", .int i])) : RI H (.ref a) (.int i)
  | prim {a : Addr} {p : Str} (h : H a = some (.tup [.str "prim", .str p])) : RI H (.ref a) (.prim p)
  | glob {a : Addr} {m x : Str} (h : H a = some (.tup [.str "global", .str m, .str x])) : RI H (.ref a) (.glob m x)
  | src {a : Addr} {s : Src} (h : H a = some (.tup (srcV s))) : RI H (.ref a) (.src s)
  | fn {a q : Addr} {v : V} {vs : List V} {c : Code} {ss : List Src} (h : H a = some (.tup [.str "fn", v, .ref q])) (hq : H q = some (.tup vs)) (r : RC H v c) (rs : RSs H vs ss) : RI H (.ref a) (.fn c ss)
  | put {a : Addr} {n : Nat} (h : H a = some (.tup [.str "put", .int n])) : RI H (.ref a) (.put n)
  | jump {a : Addr} {n : Nat} (h : H a = some (.tup [.str "jump", .int n])) : RI H (.ref a) (.jump n)
  | unless {a : Addr} {n : Nat} (h : H a = some (.tup [.str "unless", .int n])) : RI H (.ref a) (.unless n)
  | call {a : Addr} {n : Nat} (h : H a = some (.tup [.str "call", .int n])) : RI H (.ref a) (.call n)
  | tail {a : Addr} {n : Nat} (h : H a = some (.tup [.str "tail", .int n])) : RI H (.ref a) (.tail n)
  | end_ {a : Addr} (h : H a = some (.tup [.str "end"])) : RI H (.ref a) .end_
inductive RIs (H : Hp) : List V → List Ins → Prop
  | nil : RIs H [] []
  | cons {v : V} {i : Ins} {vs : List V} {is : List Ins} (r : RI H v i) (rs : RIs H vs is) : RIs H (v :: vs) (i :: is)
end
theorem RSr.keep {H H' : Hp} (k : KpT H H') {v : V} {s : Src} (r : RSr H v s) : RSr H' v s := let ⟨a, e, h⟩ := r; ⟨a, e, k _ _ h⟩
theorem RSs.keep {H H' : Hp} (k : KpT H H') : ∀ {vs : List V} {ss : List Src}, RSs H vs ss → RSs H' vs ss
  | _, _, .nil => .nil
  | _, _, .cons r rs => .cons (r.keep k) (RSs.keep k rs)
mutual
theorem RC.keep {H H' : Hp} (k : KpT H H') : ∀ {v : V} {c : Code}, RC H v c → RC H' v c
  | _, _, .mk h hq rs => .mk (k _ _ h) (k _ _ hq) (RIs.keep k rs)
theorem RI.keep {H H' : Hp} (k : KpT H H') : ∀ {v : V} {i : Ins}, RI H v i → RI H' v i
  | _, _, .int h => .int (k _ _ h)
  | _, _, .prim h => .prim (k _ _ h)
  | _, _, .glob h => .glob (k _ _ h)
  | _, _, .src h => .src (k _ _ h)
  | _, _, .fn h hq r rs => .fn (k _ _ h) (k _ _ hq) (RC.keep k r) (rs.keep k)
  | _, _, .put h => .put (k _ _ h)
  | _, _, .jump h => .jump (k _ _ h)
  | _, _, .unless h => .unless (k _ _ h)
  | _, _, .call h => .call (k _ _ h)
  | _, _, .tail h => .tail (k _ _ h)
  | _, _, .end_ h => .end_ (k _ _ h)
theorem RIs.keep {H H' : Hp} (k : KpT H H') : ∀ {vs : List V} {is : List Ins}, RIs H vs is → RIs H' vs is
  | _, _, .nil => .nil
  | _, _, .cons r rs => .cons (RI.keep k r) (RIs.keep k rs)
end
/-- what one argument a primitive has -/
def arP (p : Str) : Int := if p = "first" ∨ p = "second" then 1 else 2
/-- where the classes of values stand -/
structure Cs where
  pa : Addr
  fu : Addr
  pr : Addr
/-- what stays but for the objects of X, and every tuple -/
structure Fr (X : Addr → Prop) (H H' : Hp) : Prop where
  sm : Sm X H H'
  tup : KpT H H'
theorem Fr.refl (X : Addr → Prop) (H : Hp) : Fr X H H := ⟨Sm.refl _ _, fun _ _ h => h⟩
theorem Fr.trans {X : Addr → Prop} {H H1 H2 : Hp} (a : Fr X H H1) (b : Fr X H1 H2) : Fr X H H2 := ⟨a.sm.trans b.sm, a.tup.trans b.tup⟩
theorem Fr.new {X : Addr → Prop} {H : Hp} {p : Addr} {o : HO} (h : H p = none) : Fr X H (upd H p o) := ⟨Sm.new h, fun a xs e => by rw [upd_ne (ne_of_none e h)]; exact e⟩
def isMut : HO → Bool
  | .tbl _ => false
  | .tup _ => false
  | _ => true
theorem Fr.set {X : Addr → Prop} {H : Hp} {p : Addr} {o u : HO} (h : X p) (e : H p = some u) (m : isMut u = true) : Fr X H (upd H p o) :=
  ⟨Sm.set h (fun ps z => by rw [e] at z; cases z; cases m), fun a xs q => by rw [upd_ne (fun z => by rw [z, e] at q; cases q; cases m)]; exact q⟩
/-- what H did not know may change -/
theorem Fr.mut {X : Addr → Prop} {H H' : Hp} {p : Addr} {o u : HO} (f : Fr X H H') (h : H p = none) (e : H' p = some u) (m : isMut u = true) : Fr X H (upd H' p o) :=
  ⟨f.sm.mut h (fun ps z => by rw [e] at z; cases z; cases m), fun a xs q => by rw [upd_ne (ne_of_none q h)]; exact f.tup _ _ q⟩
theorem Fr.wide {X Y : Addr → Prop} {H H' : Hp} (f : Fr X H H') (h : ∀ b, X b → Y b) : Fr Y H H' := ⟨f.sm.wide h, f.tup⟩
theorem Fr.keep {X : Addr → Prop} {H H' : Hp} {b : Addr} {o : HO} (f : Fr X H H') (n : ¬ X b) (t : isTbl o = false) (e : H b = some o) : H' b = some o := f.sm.keep b o n t e
theorem Fr.dom {X : Addr → Prop} {H H' : Hp} (f : Fr X H H') {b : Addr} (e : H' b = none) : H b = none := f.sm.dom b e
theorem Fr.no {X : Addr → Prop} {H H' : Hp} (f : Fr No H H') : Fr X H H' := f.wide fun _ z => z.elim
theorem Fr.of {H H' : Hp} (s : Sm No H H') : Fr No H H' := ⟨s, fun a xs h => s.keep a _ (fun z => z) rfl h⟩
mutual
inductive RV (C : Cs) (X : Addr → Prop) (H : Hp) : V → Vl → Prop
  | int (i : Int) (h : i.natAbs ≤ 10 ^ 60) : RV C X H (.int i) (.int i)
  | pair {a dx : Addr} {x y : V} {u v : Vl} (h : H a = some (.ins C.pa dx [("first", x), ("second", y)])) (n : ¬ X a) (r : RV C X H x u) (s : RV C X H y v) : RV C X H (.ref a) (.pair u v)
  | prim {a dx : Addr} {p : Str} (h : H a = some (.ins C.pr dx [("parameters", .int (arP p)), ("name", .str p)])) (n : ¬ X a) : RV C X H (.ref a) (.prim p)
  | fnP {a dx e : Addr} {c : V} {ns : List Int} {b : Tr} {kvs : List (Key × V)} {env : List (Int × Vl)} (h : H a = some (.ins C.fu dx [("parameters", .int ns.length), ("body", c), ("kept", .ref e)])) (n : ¬ X a) (rt : RT H c (.fn ns b)) (wt : widT (.fn ns b))
      (he : H e = some (.dK kvs)) (ne : ¬ X e) (re : REv C X H kvs env) : RV C X H (.ref a) (.fnP ns b env)
  | fnM {a dx e : Addr} {cv : V} {c : Code} {vs : List V} {ks : List Vl} (h : H a = some (.ins C.fu dx [("parameters", .int c.params), ("body", cv), ("kept", .ref e)])) (n : ¬ X a) (rc : RC H cv c)
      (he : H e = some (.lst vs)) (ne : ¬ X e) (rs : RVs C X H vs ks) : RV C X H (.ref a) (.fnM c ks)
inductive RVs (C : Cs) (X : Addr → Prop) (H : Hp) : List V → List Vl → Prop
  | nil : RVs C X H [] []
  | cons {v : V} {x : Vl} {vs : List V} {xs : List Vl} (r : RV C X H v x) (rs : RVs C X H vs xs) : RVs C X H (v :: vs) (x :: xs)
inductive REv (C : Cs) (X : Addr → Prop) (H : Hp) : List (Key × V) → List (Int × Vl) → Prop
  | nil : REv C X H [] []
  | cons {n : Int} {v : V} {x : Vl} {kvs : List (Key × V)} {env : List (Int × Vl)} (r : RV C X H v x) (rs : REv C X H kvs env) : REv C X H ((.inl n, v) :: kvs) ((n, x) :: env)
end
section
variable {C : Cs}
mutual
/-- another heap, another X: what a value is made of must stand there and be outside -/
theorem RV.mv {X Y : Addr → Prop} {H H' : Hp} (k : ∀ a o, isTbl o = false → H a = some o → ¬ X a → H' a = some o ∧ ¬ Y a) (t : KpT H H') : ∀ {v : V} {x : Vl}, RV C X H v x → RV C Y H' v x
  | _, _, .int i h => .int i h
  | _, _, .pair h n r s => .pair (k _ _ rfl h n).1 (k _ _ rfl h n).2 (RV.mv k t r) (RV.mv k t s)
  | _, _, .prim h n => .prim (k _ _ rfl h n).1 (k _ _ rfl h n).2
  | _, _, .fnP h n rt wt he ne re => .fnP (k _ _ rfl h n).1 (k _ _ rfl h n).2 (rt.keep t) wt (k _ _ rfl he ne).1 (k _ _ rfl he ne).2 (REv.mv k t re)
  | _, _, .fnM h n rc he ne rs => .fnM (k _ _ rfl h n).1 (k _ _ rfl h n).2 (rc.keep t) (k _ _ rfl he ne).1 (k _ _ rfl he ne).2 (RVs.mv k t rs)
theorem RVs.mv {X Y : Addr → Prop} {H H' : Hp} (k : ∀ a o, isTbl o = false → H a = some o → ¬ X a → H' a = some o ∧ ¬ Y a) (t : KpT H H') : ∀ {vs : List V} {xs : List Vl}, RVs C X H vs xs → RVs C Y H' vs xs
  | _, _, .nil => .nil
  | _, _, .cons r rs => .cons (RV.mv k t r) (RVs.mv k t rs)
theorem REv.mv {X Y : Addr → Prop} {H H' : Hp} (k : ∀ a o, isTbl o = false → H a = some o → ¬ X a → H' a = some o ∧ ¬ Y a) (t : KpT H H') : ∀ {kvs : List (Key × V)} {env : List (Int × Vl)}, REv C X H kvs env → REv C Y H' kvs env
  | _, _, .nil => .nil
  | _, _, .cons r rs => .cons (RV.mv k t r) (REv.mv k t rs)
end
variable {X Y : Addr → Prop} {H H' : Hp}
theorem Fr.kk (f : Fr X H H') : ∀ a o, isTbl o = false → H a = some o → ¬ X a → H' a = some o ∧ ¬ X a := fun a o t e n => ⟨f.keep n t e, n⟩
theorem RV.fr (f : Fr X H H') {v : V} {x : Vl} (r : RV C X H v x) : RV C X H' v x := r.mv f.kk f.tup
theorem RVs.fr (f : Fr X H H') {vs : List V} {xs : List Vl} (r : RVs C X H vs xs) : RVs C X H' vs xs := r.mv f.kk f.tup
theorem REv.fr (f : Fr X H H') {kvs : List (Key × V)} {env : List (Int × Vl)} (r : REv C X H kvs env) : REv C X H' kvs env := r.mv f.kk f.tup
/-- more may change, if it was not there -/
theorem grow_kk (g : ∀ a, Y a → X a ∨ H a = none) : ∀ a o, isTbl o = false → H a = some o → ¬ X a → H a = some o ∧ ¬ Y a := fun a o _ e n => ⟨e, fun z => (g a z).elim n fun q => by rw [e] at q; cases q⟩
theorem RV.grow (g : ∀ a, Y a → X a ∨ H a = none) {v : V} {x : Vl} (r : RV C X H v x) : RV C Y H v x := r.mv (grow_kk g) fun _ _ h => h
theorem RVs.grow (g : ∀ a, Y a → X a ∨ H a = none) {vs : List V} {xs : List Vl} (r : RVs C X H vs xs) : RVs C Y H vs xs := r.mv (grow_kk g) fun _ _ h => h
theorem RVs.len : ∀ {vs : List V} {xs : List Vl}, RVs C X H vs xs → vs.length = xs.length
  | _, _, .nil => rfl
  | _, _, .cons _ r => congrArg (· + 1) (RVs.len r)
theorem RVs.app : ∀ {vs ws : List V} {xs ys : List Vl}, RVs C X H vs xs → RVs C X H ws ys → RVs C X H (vs ++ ws) (xs ++ ys)
  | _, _, _, _, .nil, s => s
  | _, _, _, _, .cons r rs, s => .cons r (RVs.app rs s)
theorem RVs.one {v : V} {x : Vl} (r : RV C X H v x) : RVs C X H [v] [x] := .cons r .nil
theorem RVs.get : ∀ {vs : List V} {xs : List Vl} {i : Nat} {v : V}, RVs C X H vs xs → vs[i]? = some v → ∃ x, xs[i]? = some x ∧ RV C X H v x
  | _, _, _, _, .nil, e => by simp at e
  | _, _, 0, _, .cons r _, e => by cases e; exact ⟨_, rfl, r⟩
  | _, _, i + 1, _, .cons _ rs, e => by
    obtain ⟨t, h1, h2⟩ := RVs.get (i := i) rs (by simpa using e)
    exact ⟨t, by simpa using h1, h2⟩
theorem RVs.get2 : ∀ {vs : List V} {xs : List Vl} {i : Nat} {x : Vl}, RVs C X H vs xs → xs[i]? = some x → ∃ v, vs[i]? = some v ∧ RV C X H v x
  | _, _, _, _, .nil, e => by simp at e
  | _, _, 0, _, .cons r _, e => by cases e; exact ⟨_, rfl, r⟩
  | _, _, i + 1, _, .cons _ rs, e => by
    obtain ⟨t, h1, h2⟩ := RVs.get2 (i := i) rs (by simpa using e)
    exact ⟨t, by simpa using h1, h2⟩
theorem RVs.take : ∀ {vs : List V} {xs : List Vl} (n : Nat), RVs C X H vs xs → RVs C X H (vs.take n) (xs.take n)
  | _, _, 0, _ => .nil
  | _, _, _ + 1, .nil => .nil
  | _, _, n + 1, .cons r rs => .cons r (RVs.take n rs)
theorem RVs.drop : ∀ {vs : List V} {xs : List Vl} (n : Nat), RVs C X H vs xs → RVs C X H (vs.drop n) (xs.drop n)
  | _, _, 0, r => r
  | _, _, _ + 1, .nil => .nil
  | _, _, n + 1, .cons _ rs => RVs.drop n rs
theorem RVs.rev {vs : List V} {xs : List Vl} (r : RVs C X H vs xs) : RVs C X H vs.reverse xs.reverse := by
  induction vs generalizing xs with
  | nil => cases r; exact .nil
  | cons v vs ih =>
    cases r with
    | cons r rs =>
      rw [List.reverse_cons, List.reverse_cons]
      exact (ih rs).app (.one r)
theorem REv.len : ∀ {kvs : List (Key × V)} {env : List (Int × Vl)}, REv C X H kvs env → kvs.length = env.length
  | _, _, .nil => rfl
  | _, _, .cons _ r => congrArg (· + 1) (REv.len r)
/-- a name's value -/
def evGet (n : Int) : List (Int × Vl) → Option Vl
  | [] => none
  | (m, x) :: r => if m = n then some x else evGet n r
def evHas (n : Int) (env : List (Int × Vl)) : Bool := env.any fun p => decide (p.1 = n)
def evPut (n : Int) (y : Vl) (env : List (Int × Vl)) : List (Int × Vl) := if evHas n env = true then env.map (fun p => if p.1 = n then (p.1, y) else p) else env ++ [(n, y)]
def evPuts : List Int → List Vl → List (Int × Vl) → List (Int × Vl)
  | n :: ns, y :: ys, env => evPuts ns ys (evPut n y env)
  | _, _, env => env
theorem REv.app : ∀ {kvs lvs : List (Key × V)} {env env' : List (Int × Vl)}, REv C X H kvs env → REv C X H lvs env' → REv C X H (kvs ++ lvs) (env ++ env')
  | _, _, _, _, .nil, s => s
  | _, _, _, _, .cons r rs, s => .cons r (REv.app rs s)
theorem REv.get {n : Int} : ∀ {kvs : List (Key × V)} {env : List (Int × Vl)} {x : Vl}, REv C X H kvs env → evGet n env = some x → ∃ v, valV kvs (.inl n) = some v ∧ RV C X H v x
  | _, _, _, .nil, e => by cases e
  | _, _, x, .cons (n := m) (v := v) (x := x') (kvs := kvs) (env := env) r rs, e => by
    unfold evGet at e
    by_cases c : m = n
    · rw [if_pos c] at e
      cases e
      exact ⟨v, valV_pos (by rw [c]), r⟩
    · rw [if_neg c] at e
      obtain ⟨u, h1, h2⟩ := REv.get rs e
      exact ⟨u, by rw [valV_neg (fun z => c (Sum.inl.inj z))]; exact h1, h2⟩
theorem REv.has {n : Int} : ∀ {kvs : List (Key × V)} {env : List (Int × Vl)}, REv C X H kvs env → (kvs.any fun kv => decide (kv.1 = .inl n)) = evHas n env
  | _, _, .nil => rfl
  | _, _, .cons (n := m) (v := v) (x := x') (kvs := kvs) (env := env) r rs => by
    unfold evHas
    rw [List.any_cons, List.any_cons, REv.has rs]
    show (decide ((Sum.inl m : Key) = Sum.inl n) || evHas n env) = (decide (m = n) || evHas n env)
    rw [decide_eq_decide.mpr (show (Sum.inl m : Key) = Sum.inl n ↔ m = n from ⟨Sum.inl.inj, fun h => by rw [h]⟩)]
theorem REv.map {n : Int} {w : V} {y : Vl} (rw' : RV C X H w y) : ∀ {kvs : List (Key × V)} {env : List (Int × Vl)}, REv C X H kvs env → REv C X H (kvs.map fun kv => if kv.1 = .inl n then (kv.1, w) else kv) (env.map fun p => if p.1 = n then (p.1, y) else p)
  | _, _, .nil => .nil
  | _, _, .cons (n := m) (v := v) (x := x') (kvs := kvs) (env := env) r rs => by
    rw [List.map_cons, List.map_cons]
    by_cases c : m = n
    · have c2 : (Sum.inl m : Key) = .inl n := by rw [c]
      simp only [c2, c, if_true]
      exact .cons rw' (REv.map rw' rs)
    · have c2 : ¬ (Sum.inl m : Key) = .inl n := fun z => c (Sum.inl.inj z)
      simp only [c2, c, if_false]
      exact .cons r (REv.map rw' rs)
theorem REv.put {n : Int} {w : V} {y : Vl} {kvs : List (Key × V)} {env : List (Int × Vl)} (r : REv C X H kvs env) (rw' : RV C X H w y) : REv C X H (putK kvs (.inl n) w) (evPut n y env) := by
  unfold putK evPut
  rw [r.has]
  by_cases c : evHas n env = true
  · rw [if_pos c, if_pos c]; exact r.map rw'
  · rw [if_neg c, if_neg c]; exact r.app (.cons rw' .nil)
theorem evPut_len (n : Int) (y : Vl) (env : List (Int × Vl)) : (evPut n y env).length ≤ env.length + 1 := by
  unfold evPut
  split
  · rw [List.length_map]; omega
  · rw [List.length_append]; exact Nat.le_refl _
theorem evPuts_snoc : ∀ (ns : List Int) (ys : List Vl) (n : Int) (y : Vl) (env : List (Int × Vl)), ns.length = ys.length → evPuts (ns ++ [n]) (ys ++ [y]) env = evPut n y (evPuts ns ys env)
  | [], [], n, y, env, _ => rfl
  | a :: ns, b :: ys, n, y, env, e => by
    show evPuts (ns ++ [n]) (ys ++ [y]) (evPut a b env) = evPut n y (evPuts ns ys (evPut a b env))
    exact evPuts_snoc ns ys n y _ (by simpa using e)
theorem evPuts_len : ∀ (ns : List Int) (ys : List Vl) (env : List (Int × Vl)), (evPuts ns ys env).length ≤ env.length + ns.length
  | [], _, env => by cases ‹List Vl› <;> exact Nat.le_refl _
  | n :: ns, [], env => by unfold evPuts; omega
  | n :: ns, y :: ys, env => by
    have h1 := evPuts_len ns ys (evPut n y env)
    have h2 := evPut_len n y env
    unfold evPuts
    rw [List.length_cons]
    omega
end
end My
namespace My
open PySem PySem.Spec PyProof.Rows L2 TL
/-! ### the error that ends a program -/
structure BaseC (K : PySem.W.Frag) (mg : Str → Option Value) (F : Addr) : Prop where
  g : mg "FoldError" = some (.ref F)
  rd : PySem.W.readsIn K F (.type "type") = true
  ga : PySem.W.specialIn K (.ref F) "__getattribute__" = some (some (.builtin "type.__getattribute__"))
  ini : PySem.W.findCls K (.ref F) (.type "type") "__init__" = some (.val (.builtin "ValueError.__init__"))
theorem pe_baseInit {X : Cx} {e : Expr} {es : List Expr} {ta : TA} {p1 p2 pos : Pos} {F : Addr} {pl : Sem Bool} (B : BaseC X.K X.mg F) (hg : Gl X "FoldError") (ha : PA X (e :: es) ta)
    (hc : eval (.Call (.Attribute (.Name "FoldError" p1) "__init__" p2) (e :: es) [] pos) X.env = (do
      let ov ← eval (.Name "FoldError" p1) X.env
      standAt p2.atName
      let (f, first) ← holding [ov] (getMethod ov "__init__" pl)
      callWith pos f first (backTo pos (starEach (e :: es) X.env)) (backToKw pos (keywordEach [] X.env))) := by rfl)
    (he : starEach (e :: es) X.env = (false, eval e X.env) :: starEach es X.env := by rfl) (hpl : (backTo pos (starEach es X.env)).any (·.1) = false := by rfl) :
    PE X (.Call (.Attribute (.Name "FoldError" p1) "__init__" p2) (e :: es) [] pos) (tVeI X.K ta) := by
  refine ⟨fun pins s σ H Q I h => PySem.W.methodCall_KW (ld_glob I hg B.g ?_) hc⟩
  refine PySem.W.method_cls I.kIn B.ga (PySem.W.cls_value I.kIn B.rd B.ini rfl ?_)
  show wpAny _ _ (callWith pos (Value.builtin "ValueError.__init__") [] (backTo pos (starEach (e :: es) X.env)) []) _ _ _
  refine PyProof.Rows.callWith_method1 (thn (ha.run pos pins _ σ H _ (I.tok _) h) fun us s1 hh => ?_) he hpl
  obtain ⟨vs, H1, J, rv, a, C, ws, ev, hl, T, ea, q⟩ := hh
  subst ev
  cases rv with
  | @cons _ u0 _ ur r0 rr =>
    have eu : u0 = Value.ref a := r0
    subst eu
    refine oinit_ok T J ea ?_ fun s' J' => ⟨.non, H1, J', rfl, q⟩
    rw [← Paired.length rr]
    exact Nat.le_of_lt (small1000 hl)
/-- Cls.__init__(..) of a class of the program's own -/
structure InitC (P : Program) (w : World) (K : PySem.W.Frag) (mg : Str → Option Value) (base : Heap) (k : Nat) (x : Str) (ps : List Str) (sp : Sp) (R f : Addr) (fd : FuncData) : Prop where
  g : mg x = some (.ref R)
  rd : PySem.W.readsIn K R (.type "type") = true
  ga : PySem.W.specialIn K (.ref R) "__getattribute__" = some (some (.builtin "type.__getattribute__"))
  ini : PySem.W.findCls K (.ref R) (.type "type") "__init__" = some (.val (.ref f))
  ok : FnOk P w K mg base CX0 k f fd ps sp
  k : PySem.W.keepIn K (.ref f) = true
  b : Binds K fd ps []
def tInitC (sp : Sp) (ta : TA) : TE := fun σ H Q => ta σ H fun vs H1 => sp vs H1 Q (fun _ _ _ => False)
theorem pe_initC {X : Cx} {k : Nat} {x : Str} {e : Expr} {es : List Expr} {ta : TA} {p1 p2 pos : Pos} {R f : Addr} {fd : FuncData} {ps : List Str} {sp : Sp} {pl : Sem Bool} (B : InitC X.prog X.w X.K X.mg X.base k x ps sp R f fd) (hr : Room k X.A) (hg : Gl X x) (ha : PA X (e :: es) ta) (hdb : (x == ("__debug__" : Str)) = false := by decide)
    (hc : eval (.Call (.Attribute (.Name x p1) "__init__" p2) (e :: es) [] pos) X.env = (do
      let ov ← eval (.Name x p1) X.env
      standAt p2.atName
      let (f, first) ← holding [ov] (getMethod ov "__init__" pl)
      callWith pos f first (backTo pos (starEach (e :: es) X.env)) (backToKw pos (keywordEach [] X.env))) := by rfl)
    (he : starEach (e :: es) X.env = (false, eval e X.env) :: starEach es X.env := by rfl) (hpl : (backTo pos (starEach es X.env)).any (·.1) = false := by rfl) :
    PE X (.Call (.Attribute (.Name x p1) "__init__" p2) (e :: es) [] pos) (tInitC sp ta) := by
  refine ⟨fun pins s σ H Q I h => PySem.W.methodCall_KW (ld_glob I hg B.g ?_ hdb) hc⟩
  refine PySem.W.method_cls I.kIn B.ga (PySem.W.cls_value I.kIn B.rd B.ini rfl ?_)
  refine PySem.W.callWith_K (first := []) (h₀ := X.base) I.ok.mod.kin B.k (thn (ha.run pos pins _ σ H _ (I.tok _) h) fun us s1 ⟨vs, H1, I1, r, q⟩ => ⟨I1.kIn, ?_⟩) he hpl
  have q2 : sp (vs ++ []) H1 Q (fun _ _ _ => False) := by rw [List.append_nil]; exact q
  exact run_fn (us := us) (vs := vs) (dvs := []) (ds := []) B.ok hr B.b .nil pass0 I1 r q2
/-- __init__(self, outcome) -/
def spIniO (C : Addr) : Sp := fun vs H Q _ => ∃ (a : Addr) (v : V), vs = [.ref a, v] ∧ H a = some (exo a C none) ∧
  ∀ d, H d = none → d ≠ a → Q .non (upd (upd H d (exd d [("outcome", v)])) a (exo a C (some d)))
abbrev sIniE : Stmt := inClass (top 12) 0
theorem scIniE : FnScope ["self", "outcome"] ["self", "outcome"] (defScope sIniE) := ⟨rfl, rfl, rfl, by decide +kernel, rfl, by decide +kernel, by decide +kernel⟩
theorem ok_iniE {P : Program} {w : World} {K : PySem.W.Frag} {mg : Str → Option Value} {base : Heap} {f F C : Addr} {fd : FuncData} (Fn : Fun K "__init__" "Ended.__init__" sIniE f fd) (B : BaseC K mg F) (T : OexC K C) (hno : PySem.W.findIn K (.ref C) "outcome" = some none) :
    FnOk P w K mg base CX0 1 f fd ["self", "outcome"] (spIniO C) := by
  refine Fn.ok scIniE (fun vs H Q E h => ?_) (fun cdv A outer s H vs Q E hr h => ?_)
  · obtain ⟨a, i, rfl, _⟩ := h
    rfl
  obtain ⟨a, z, rfl, ea, q⟩ := h
  refine ⟨_, pss_cons (ps_expr (pe_baseInit B rfl (pa_cons (pv 0) (pa_cons pe_str pa_nil))))
    (pss_one (ps_ost (pv 0) (pv 1))), ?_⟩
  refine ⟨_, rfl, ?_⟩
  refine ⟨a, C, _, rfl, by show 1 ≤ 1000; decide, T, ea, ?_⟩
  refine ⟨_, rfl, _, rfl, a, C, rfl, T, hno, .inl ⟨ea, fun d hd hda => q d hd hda⟩⟩
structure ErrO (P : Program) (w : World) (K : PySem.W.Frag) (mg : Str → Option Value) (base : Heap) (C fI : Addr) (fdI : FuncData) : Prop where
  o : OexC K C
  g : mg "Ended" = some (.ref C)
  iC : PySem.W.findIn K (.ref C) "__init__" = some (some (.ref fI))
  tI : PySem.W.typeIn K (.ref fI) = some (.type "function")
  f : FnOk P w K mg base CX0 1 fI fdI ["self", "outcome"] (spIniO C)
  b : Binds K fdI ["self", "outcome"] []
/-- the program ends with this outcome -/
def erX (X : Addr → Prop) (C : Addr) (ws : List Str) (H : Hp) (E : XK) : Prop := ∀ H' d t, Fr X H H' → H d = none → H' d = some (.xd [("outcome", .ref t)]) → H' t = some (.tup (ws.map .str)) → E (.ref C) (some d) H'
theorem erX.fr {X : Addr → Prop} {C : Addr} {ws : List Str} {H H1 : Hp} {E : XK} (f : Fr X H H1) (h : erX X C ws H E) : erX X C ws H1 E := fun H' d t f2 hd e1 e2 => h H' d t (f.trans f2) (f.dom hd) e1 e2
theorem mkO_er {X : Addr → Prop} {C t : Addr} {H H0 : Hp} {ws : List Str} {Q : XK} {ta : TA} {σ : L2.St} (ht : H t = some (.tup (ws.map .str))) (h : ∀ Q' : List V → Hp → Prop, Q' [.ref t] H → ta σ H0 Q')
    (f : Fr X H0 H) (q : erX X C ws H0 Q) : tMkO C (spIniO C) [] ta σ H0 Q := by
  refine h _ ⟨by show 1 ≤ 1000; decide, fun a ha => ?_⟩
  refine ⟨a, .ref t, rfl, upd_same, fun d hd hda => ⟨rfl, d, [("outcome", .ref t)], upd_same, ?_, ?_, ?_⟩⟩
  · rw [upd_ne hda, upd_same]
  · rw [upd_ne hda] at hd; exact hd
  have hd0 : H d = none := by rw [upd_ne hda] at hd; exact hd
  have ne_a : ∀ {b : Addr} {o : HO}, H b = some o → b ≠ a := fun {b o} e z => by rw [z, ha] at e; cases e
  have ne_d : ∀ {b : Addr} {o : HO}, H b = some o → b ≠ d := fun {b o} e z => by rw [z, hd0] at e; cases e
  have val : ∀ {b : Addr} {o : HO}, H b = some o → (upd (L2.del (upd (upd (upd H a (exo a C none)) d (exd d [("outcome", V.ref t)])) a (exo a C (some d))) a) d (.xd [("outcome", .ref t)])) b = some o := fun {b o} e => by
    rw [upd_ne (ne_d e), del_ne (ne_a e), upd_ne (ne_a e), upd_ne (ne_d e), upd_ne (ne_a e)]
    exact e
  refine q _ d t (f.trans ⟨⟨fun b o _ _ e => val e, fun Z ⟨ps, z1, z2⟩ => ⟨ps, val z1, z2⟩, fun b e => ?_⟩, fun a xs e => val e⟩) (f.dom hd0) upd_same (val ht)
  cases q : H b with
  | none => rfl
  | some o => rw [val q] at e; cases e
/-- .. of an outcome that is written where it is raised -/
theorem mkO_ws {X : Addr → Prop} {C : Addr} {H0 : Hp} {ws : List Str} {Q : XK} {ta : TA} {σ : L2.St} (h : ∀ Q' : List V → Hp → Prop, (∀ t, H0 t = none → Q' [.ref t] (upd H0 t (.tup (ws.map .str)))) → ta σ H0 Q') (q : erX X C ws H0 Q) : tMkO C (spIniO C) [] ta σ H0 Q := by
  refine h _ fun t ht => ?_
  have z := mkO_er (X := X) (C := C) (t := t) (H := upd H0 t (.tup (ws.map .str))) (H0 := H0) (ws := ws) (Q := Q) (ta := fun _ _ Q' => Q' [.ref t] (upd H0 t (.tup (ws.map .str)))) (σ := σ) upd_same (fun _ z => z) (Fr.new ht) q
  exact z
theorem mkO_1 {X : Addr → Prop} {C : Addr} {H0 : Hp} {a : Str} {Q : XK} {σ : L2.St} (q : erX X C [a] H0 Q) : tMkO C (spIniO C) [] (tCons (tTup (tCons (tC (.str a)) tNil)) tNil) σ H0 Q :=
  mkO_ws (ws := [a]) (fun Q' h => ⟨by show 1 ≤ sizeLine; decide, fun t ht => h t ht⟩) q
theorem mkO_2 {X : Addr → Prop} {C : Addr} {H0 : Hp} {a b : Str} {Q : XK} {σ : L2.St} (q : erX X C [a, b] H0 Q) : tMkO C (spIniO C) [] (tCons (tTup (tCons (tC (.str a)) (tCons (tC (.str b)) tNil))) tNil) σ H0 Q :=
  mkO_ws (ws := [a, b]) (fun Q' h => ⟨by show 2 ≤ sizeLine; decide, fun t ht => h t ht⟩) q
/-! ### classes -/
/-- a class whose objects have these fields -/
structure FldC (K : PySem.W.Frag) (C : Addr) (fs : List Str) : Prop where
  c : Cls K C
  n : ∀ f ∈ fs, NoAttr K C f
/-- what an object is to isinstance -/
structure InsC (K : PySem.W.Frag) (C : Addr) : Prop where
  ha : PySem.W.findIn K (.ref C) "__class__" = some (some (.builtin "object.__class__"))
  hm : PySem.W.mroIn K C (.type "object") = some true
structure ObC (K : PySem.W.Frag) : Prop where
  hn : PySem.W.specialIn K (.builtin "object.__class__") "__get__" = some (some (.builtin "getset_descriptor.__get__"))
  ht : PySem.W.takesIn K (.builtin "object.__class__") = some true
theorem ty_ins {K : PySem.W.Frag} {H : Hp} {a C dx : Addr} {fs : List (Str × V)} (O : ObC K) (c : Cls K C) (i : InsC K C) (e : H a = some (.ins C dx fs)) : TyX K H (.ref a) (.ref C) := .base (.ins e c i.ha O.hn O.ht i.hm)
/-- C(..): how an object is made -/
structure MkC (P : Program) (w : World) (K : PySem.W.Frag) (mg : Str → Option Value) (base : Heap) (k : Nat) (x : Str) (ps : List Str) (sp : Sp) (C f : Addr) (fd : FuncData) : Prop where
  m : Mk K C f
  ok : FnOk P w K mg base CX0 k f fd ps sp
  g : mg x = some (.ref C)
  b : Binds K fd ps []
/-- __init__ that only stores: the object then has these fields -/
def spIni (C : Addr) (n : Nat) (mkF : List V → List (Str × V)) : Sp := fun vs H Q _ => ∃ (x dx : Addr) (us : List V), vs = .ref x :: us ∧ us.length = n ∧ H x = some (.ins C dx []) ∧ Q .non (upd H x (.ins C dx (mkF us)))
end My
namespace My
open PySem PySem.Spec PyProof.Rows L2 GxR
theorem ad_lt {b N m : Nat} (e : b = N) (h : N + 1 ≤ m) : b < m := by omega
theorem ad_ltlt {b N m : Nat} (e : b < N) (h : N + 1 ≤ m) : b < m := by omega
theorem ad_no {b N : Nat} (e : b = N) (h : b < N) : False := by omega
theorem ad_no2 {b N m : Nat} (e : b = m) (h : b < N) (h2 : N + 1 ≤ m) : False := by omega
/-- the element of a generator expression over signs, where it may read the module's names -/
def EltG (prog : Program) (w : World) (mg : Str → Option Value) (sc : Scope) (x : Str) (e : Expr) (pb : Nat → Bool) : Prop :=
  ∀ (ce : Env) (A' : Around) (E' : Value → Shared → Prop) (c : Nat) (t : Tok) (z : Shared) (m : Str → Option Value),
    ce.scope = sc → ce.globals = mainGlobals → z.heap.Ns mainGlobals mg → z.heap.Ns ce.locals m → m x = some (.str ⟨#[c]⟩ t) →
    wpAny (model prog w) A' (eval e ce) (fun y z' => y = .bool (pb c) ∧ Keeps z z') E' z
/-- x in NAME, NAME a text of the module -/
theorem elt_inG {prog : Program} {w : World} {mg : Str → Option Value} {sc : Scope} {x g : Str} {k : Str} {tk : Tok} {p1 p2 p3 : Pos} (hk : sc.kind = .function)
    (hl : sc.names.lookup x = some .local) (hgl : sc.names.lookup g = some .globalImplicit) (hm : mg g = some (.str k tk))
    (hd : (x == ("__debug__" : Str)) = false := by decide) (hd2 : (g == ("__debug__" : Str)) = false := by decide) :
    EltG prog w mg sc x (.Compare (.Name x p1) [.In] [.Name g p2] p3) (fun c => decide (c ∈ k.cps.toList)) := by
  intro ce A' E' c t z m hs hg hG hn hx
  refine wpAny_Compare1 ?_
  refine wpAny_Name (wpAny_loadName_local (by rw [hs]; exact hk) (show ce.scope.names.lookup x = some .local by rw [hs]; exact hl) hn hx ?_) hd
  refine Calls.Name_function_global (by rw [hs]; exact hk) (show ce.scope.names.lookup g = some .globalImplicit by rw [hs]; exact hgl) (Calls.loadGlobal_global (by rw [hg]; exact hG) hm ?_) hd2
  exact PyProof.Rows.in_str ⟨congrArg Value.bool (PySem.StrLaws.found_one k c), keeps_refl _⟩
section
variable {X : Cx} {pins : List (Addr × Obj)} {σ : L2.St} {H : Hp} {s : Shared}
theorem genG {c P : Addr} {elt iter : Expr} {x : Str} {px gpos : Pos} {scope : Scope} {pb : Nat → Bool} {te : TE} {k : Nat} {Q' : Value → Shared → Prop} {R : Str → Hp → Prop}
    (hr : Room k X.A) (TB : TabB X.base X.mg c P) (hcode : X.env.code = .ref c) (S : GenS X.env scope x) (hi : PE X iter te)
    (hel : EltG X.prog X.w X.mg scope x elt pb) (hs : ∀ v, genFold iter X.env v = pure v) (I : Inv X pins σ H s)
    (h : te σ H fun v H1 => ∃ a : Str, v = .str a ∧ TabG H1 P ∧ R a H1)
    (hQ : ∀ a H1 g s5, R a H1 → Ready X pins σ H1 P a pb g s5 → Q' (.ref g) s5) :
    wpAny (model X.prog X.w) X.A (eval (.GeneratorExp elt [⟨.Name x px, iter, [], 0⟩] scope gpos) X.env) Q' X.xe s := by
  refine wpAny_GeneratorExp_walksQ hr.hd S.co (closure_ok S.free) S.cell S.dot S.loc S.kind hr.depth ?_ hs
  refine thn (hi.run pins s σ H _ I h) fun xv s1 hx => ?_
  obtain ⟨v, H1, J, rv, a, ev, ⟨ps, tP, tOk⟩, hR⟩ := hx
  subst ev
  obtain ⟨t, et⟩ := (show ∃ t, xv = Value.str a t from rv)
  subst et
  refine wpAny_pyIter_str fun o St W st0 => ?_
  generalize hN : s1.heap.objs.size = N at W st0 ⊢
  have gP : s1.heap.get? P = some { cls := .none, data := .fields ps } := J.hok P _ tP
  have ltP : P < N := by rw [← hN]; exact Heap.lt_size gP
  have szO : (s1.heap.push o).objs.size = N + 1 := by rw [Heap.size_push, hN]
  have kO : ∀ b u, s1.heap.get? b = some u → (s1.heap.push o).get? b = some u := fun b u e => Heap.get?_push_of_some _ e
  have codeO : PySem.W.CodeHd (s1.heap.push o) c P := TB.code.keeps fun b u e => kO b u (J.bk b u e)
  have limO : (s1.heap.push o).NoLimit := J.nolimit.push o
  have statics : cStatics < N := by
    obtain ⟨_, hn, _⟩ := J.nolimit
    rw [← hN]
    exact hn.lt
  have staticsP : cStatics ≠ P := fun e => by
    obtain ⟨_, hn, _⟩ := J.nolimit
    obtain ⟨q, _, _, hq, hqd, _⟩ := hn
    rw [e, gP] at hq
    cases hq
    cases hqd
  refine ⟨limO, ?_⟩
  have main : ∀ (code : Value) (h3 : Heap) (tk : Nat) (ps' : Array Value), Heap.ExtBut P (s1.heap.push o) h3 → N + 1 ≤ h3.objs.size →
      h3.get? P = some { cls := .none, data := .fields ps' } → (∃ more, ps' = ps ++ more) → TriplesOk ps'.toList →
      wpAny (model X.prog X.w) X.A (builtinsFor X.env.globals X.env.builtins) (fun bi s₄ =>
        ∃ Ia fp wr n₀ Pf St₀ pz F, Value.ref N = .ref Ia ∧ (∀ A' : Around, A'.handled = none → Walks X.prog X.w A' Ia fp wr n₀ Pf St₀) ∧ St₀ 0 s₄.heap ∧
          (∀ b ∈ fp, b < s₄.heap.objs.size) ∧ s₄.heap.NoLimit ∧ cStatics ∉ wr ∧
          (∀ href : Heap, (∀ b o, s₄.heap.get? b = some o → href.get? b = some o) →
            QuietGen X.prog X.w (genEnv scope (cloFrom X.env.cells scope.names []) s₄.heap.objs.size code bi X.env) x [] elt (List.range s₄.heap.objs.size) wr Pf pz F href) ∧
          (∀ a h₅ tk gs, gs.bare = true → s₄.heap.objs.size < a → h₅.objs.size = a + 1 → (∀ b o, s₄.heap.get? b = some o → h₅.get? b = some o) →
            WalksS X.prog X.w X.A.in4 a (a :: s₄.heap.objs.size :: List.range s₄.heap.objs.size) (s₄.heap.objs.size :: wr) (GenOnlyQ s₄.gens.size) (passing pz n₀ 0).length
              (fun j y => ∃ i, (passing pz n₀ 0)[j]? = some i ∧ F i y) (GenAt X.prog X.w X.A.in4 a s₄.gens.size s₄.heap.objs.size (List.range s₄.heap.objs.size) wr pz n₀ F) →
            GenAt X.prog X.w X.A.in4 a s₄.gens.size s₄.heap.objs.size (List.range s₄.heap.objs.size) wr pz n₀ F 0 { s₄ with gens := s₄.gens.push gs, toks := tk, heap := h₅ } →
            Q' (.ref a) { s₄ with gens := s₄.gens.push gs, toks := tk, heap := h₅ })) X.xe { s1 with heap := h3, toks := tk } := by
    intro code h3 tk ps' hx hsz hP3 hmore ht3
    have k3 : ∀ b u, b ≠ P → s1.heap.get? b = some u → h3.get? b = some u := fun b u hb e => hx b u hb (kO b u e)
    have glob3 : h3.Ns mainGlobals X.mg := ((J.mod.glob.keeps J.bk).push o).extBut hx TB.gP
    obtain ⟨bm, ob, b1, b2, b3, b4, b5, b6, b7, b8⟩ := TB.bm
    refine wpAny_builtinsFor (m := X.mg) (by rw [J.ok.glob]; exact glob3) b1 b2 (k3 _ _ b4 (J.bk _ _ b5)) b6 b7 b8 ?_
    refine ⟨N, [N], [N], a.cps.size, SignAt a, St, (fun _ => true), (fun i y => ∃ q, a.cps[i]? = some q ∧ y = .bool (pb q)), rfl, W, ?_, ?_, limO.extBut hx staticsP, ?_, ?_, ?_⟩
    · refine (W X.A hr.hd).frame _ _ _ st0 fun b hb u e => hx b u (fun z => ?_) e
      have eb : b = N := by simpa using hb
      exact ad_no (z.symm.trans eb) ltP
    · intro b hb
      have eb : b = N := by simpa using hb
      exact ad_lt eb hsz
    · intro z
      have eb : cStatics = N := by simpa using z
      rw [eb] at statics
      exact Nat.lt_irrefl _ statics
    · intro href keepH
      have ltG : mainGlobals < N := by
        obtain ⟨q, _, _, hq, _⟩ := J.mod.glob.keeps J.bk
        rw [← hN]
        exact Heap.lt_size hq
      refine ⟨fun A' E' i v z m hA hv hn hm hk => ?_, fun A' E' i v z m hA hv hp hn hm hk => ?_⟩
      · simp only [List.forIn_nil]
        exact wpAny_pure ⟨rfl, keeps_refl _⟩
      · obtain ⟨q, u, hq, ev⟩ := hv
        subst ev
        have globZ : z.heap.Ns mainGlobals X.mg := by
          obtain ⟨og, es, ep, ho, hrest⟩ := glob3
          refine ⟨og, es, ep, hk mainGlobals (List.mem_range.mpr ?_) (fun hw => ?_) og (keepH _ _ ho), hrest⟩
          · exact ad_ltlt ltG hsz
          · have eb : mainGlobals = N := by simpa using hw
            exact ad_no eb ltG
        exact wpAny_mono (hel _ A' E' q u z m rfl J.ok.glob globZ hn hm) (fun y z' r => ⟨⟨q, hq, r.1⟩, r.2⟩) fun _ _ e => e
    · intro g h5 tk5 gs hgb hag hsz5 hk5 W5 at0
      simp only [GxR.passing_true, List.length_range] at W5
      refine hQ a H1 g _ hR ⟨_, _, _, _, _, W5.in4_1, at0, ?_, fun s' mv => ?_⟩
      · rintro j y sj Qj Ej ⟨i, hij, q, hq, rfl⟩ hQj
        obtain ⟨hj, ej⟩ := List.getElem?_eq_some_iff.mp hij
        rw [List.getElem_range] at ej
        subst ej
        have e9 : a.cps.toList[j]? = some q := by rw [Array.getElem?_toList]; exact hq
        have hQ2 : Qj (trF pb a.cps.toList j) sj := hQj
        rw [trF_some e9] at hQ2
        exact wpAny_truthy_bool hQ2
      · obtain ⟨more, em⟩ := hmore
        have nwr : ∀ b u, s1.heap.get? b = some u → b ∉ h3.objs.size :: [N] := fun b u e hb => by
          have hl : b < N := by rw [← hN]; exact Heap.lt_size e
          rcases List.mem_cons.mp hb with z | z
          · exact ad_no2 z hl hsz
          · have eb : b = N := by simpa using z
            exact ad_no eb hl
        have K2 := inv_tab (more := more) (h' := s'.heap) (g' := s'.gens) (d' := s'.drawn) (t' := s'.toks) J tP
          (fun b u hb e => mv.heap b u (nwr b u e) (hk5 b u (k3 b u hb e))) (by rw [← em]; exact mv.heap P _ (nwr P _ gP) (hk5 P _ hP3)) (AllBare.movedS (J.bare.push hgb) mv)
        rw [sh_eta s1 s' mv.os] at K2
        exact ⟨upd H1 P (.tbl (ps ++ more)), ⟨⟨ps ++ more, upd_same, by rw [← em]; exact ht3⟩, fun b hb => upd_ne hb⟩, K2⟩
  cases hf : codeAmong gpos ps.toList with
  | none =>
    refine wpAny_genexprCodeX hcode (codeO.code (kO _ _ gP) tOk) (codeO.tab (kO _ _ gP)) hf fun c' h' tk hx hge hlt hco' _ htab' _ => ?_
    obtain ⟨o1, vs, f1, tf, fl, tg, inF, tx, tt, op, _, _, _, _, _, _, _, _, _, htr, _⟩ := hco'
    refine main _ h' tk _ hx ?_ htab'.2 ⟨_, rfl⟩ htr
    rw [szO] at hge
    exact Nat.le_trans hge (Nat.le_of_lt hlt)
  | some cv =>
    refine wpAny_genexprCode_hit hcode (codeO.code (kO _ _ gP) tOk) hf ?_
    exact main cv (s1.heap.push o) s1.toks ps (Heap.ExtBut.refl _ _) (Nat.le_of_eq szO.symm) (kO _ _ gP) ⟨#[], by simp⟩ tOk
/-- all(test for x in e), e a text -/
theorem pe_allG {c P : Addr} {elt iter : Expr} {x : Str} {px p pos gpos : Pos} {scope : Scope} {pb : Nat → Bool} {te : TE} {k : Nat}
    (hr : Room k X.A) (hg : Gl X "all") (hm : X.mg "all" = none) (hb : bootBuiltins "all" = some (.builtin "all")) (TB : TabB X.base X.mg c P) (hcode : X.env.code = .ref c) (S : GenS X.env scope x)
    (hi : PE X iter te) (hel : EltG X.prog X.w X.mg scope x elt pb) (hs : ∀ v, genFold iter X.env v = pure v)
    (he : starEach [.GeneratorExp elt [⟨.Name x px, iter, [], 0⟩] scope gpos] X.env = (false, eval (.GeneratorExp elt [⟨.Name x px, iter, [], 0⟩] scope gpos) X.env) :: starEach [] X.env := by rfl) :
    PE X (.Call (.Name "all" p) [.GeneratorExp elt [⟨.Name x px, iter, [], 0⟩] scope gpos] [] pos) (tAllS P pb te) := by
  refine ⟨fun pins s σ H Q I h => wpAny_Call_Name_kw (ld_blt I hg hm hb (PyProof.Rows.callWith_builtin1 ?_ he (by rfl)))⟩
  rw [he]
  show wpAny _ _ (spliced ((false, eval (.GeneratorExp elt [⟨.Name x px, iter, [], 0⟩] scope gpos) X.env) :: backTo pos (starEach [] X.env))) _ _ s
  refine Calls.spliced_cons (genG (R := fun a H1 => ∀ H2, Tabbed P H1 H2 → Q (.bl (a.cps.toList.all pb)) H2) hr TB hcode S hi hel hs I h fun a H1 g z hR rdy => Calls.spliced_nil ?_)
  obtain ⟨fp, wr, G, F, St, W, st0, tru, back⟩ := rdy
  refine call_all_walkS (W.self 0 _ _ _ st0 ⟨g, fp, wr, G, _, F, St, _, rfl, W, st0, tru, fun z' mv => ?_⟩)
  obtain ⟨H2, tb, K2⟩ := back z' mv
  have q := hR H2 tb
  rw [← all_signs a pb] at q
  exact ⟨.bl _, H2, K2, rfl, q⟩
end
end My
namespace My
open PySem PySem.Spec PyProof.Rows L2 TL GxR
/-! ### all(isinstance(x, int) for x in xs): xs a list of ints and of objects of own classes -/
def KU (K : PySem.W.Frag) (h : Heap) (u : Value) (b : Bool) : Prop := ∃ (t : Value) (Z : Heap → Prop), PySem.W.KitX K u t Z ∧ Z h ∧ u ≠ .builtin "__main__.__loader__#opaque" ∧ PySem.W.kitOne K t (.type "int") = some b
def KI (K : PySem.W.Frag) (H : Hp) (v : V) (b : Bool) : Prop := (∃ i, v = .int i ∧ b = true) ∨ (∃ (a C dx : Addr) (fs : List (Str × V)), v = .ref a ∧ H a = some (.ins C dx fs) ∧ Cls K C ∧ InsC K C ∧ ObC K ∧ PySem.W.kitOne K (.ref C) (.type "int") = some false ∧ b = false)
def KIs (K : PySem.W.Frag) (H : Hp) (vs : List V) (bs : List Bool) : Prop := bs.length = vs.length ∧ ∀ (i : Nat) (v : V), vs[i]? = some v → ∃ b, bs[i]? = some b ∧ KI K H v b
theorem ku_of {X : Cx} {pins : List (Addr × Obj)} {σ : L2.St} {H : Hp} {s : Shared} {v : V} {u : Value} {b : Bool} {P : Addr} {ps : Array Value} (I : Inv X pins σ H s) (r : RelV v u) (q : KI X.K H v b) (tP : H P = some (.tbl ps)) {z : Heap} (old : ∀ q u, q ≠ P → s.heap.get? q = some u → z.get? q = some u) : KU X.K z u b := by
  rcases q with ⟨i, rfl, rfl⟩ | ⟨a, C, dx, fs, rfl, ea, cl, ic, O', hk, rfl⟩
  · obtain ⟨t, e⟩ := (show ∃ t, u = Value.int i t from r)
    cases e
    exact ⟨_, _, PySem.W.kitx_int, True.intro, (fun z => nomatch z), kit_ty (show kitB "int" "int" = some true by decide +kernel)⟩
  · cases (show u = Value.ref a from r)
    obtain ⟨mA, O, _, _, _, hdx⟩ := ins_get I.hok ea
    obtain ⟨od, J, _⟩ := O.look
    refine ⟨_, _, PySem.W.kitx_own (ox := PySem.W.instObj C dx) (od := od) (cl.get _) cl.hd ic.ha O'.hn O'.ht ic.hm, ⟨old _ _ (fun z => ?_) J.at_, rfl, rfl, old _ _ (fun z => ?_) J.dict⟩, (fun z => nomatch z), hk⟩
    · rw [z, tP] at ea; cases ea
    · rw [z, tP] at hdx; cases hdx
theorem vals_at {xs : List V} {us : List Value} (r : Vals xs us) {i : Nat} {u : Value} (e : us[i]? = some u) : ∃ v, xs[i]? = some v ∧ RelV v u := by
  cases h : xs[i]? with
  | none => rw [r.none_of h] at e; cases e
  | some v =>
    obtain ⟨u', e', q⟩ := r.get h
    rw [e] at e'
    cases e'
    exact ⟨v, rfl, q⟩
/-- the element, where what s1 held but P is held -/
def EltI (X : Cx) (sc : Scope) (x : Str) (e : Expr) (D U : Nat) (P : Addr) (s1 : Shared) : Prop :=
  ∀ (ce : Env) (A' : Around) (E' : Value → Shared → Prop) (v : Value) (b : Bool) (z : Shared) (m : Str → Option Value), ce.scope = sc → ce.globals = mainGlobals → ce.builtins = builtinsNs → ce.cells = cloFrom X.env.cells sc.names [] → A'.handled = none → A'.depth ≤ D → A'.units ≤ U →
    (∀ q o, q ≠ P → s1.heap.get? q = some o → z.heap.get? q = some o) → z.heap.Ns ce.locals m → m x = some v → KU X.K z.heap v b → wpAny (model X.prog X.w) A' (eval e ce) (fun y z' => y = .bool b ∧ Keeps z z') E' z
def trB (bs : List Bool) (j : Nat) : Bool := trF (fun n => n == 1) (bs.map fun b => if b = true then 1 else 0) j
theorem trB_some {bs : List Bool} {j : Nat} {b : Bool} (h : bs[j]? = some b) : trB bs j = b := by
  unfold trB
  rw [trF_some (b := if b = true then 1 else 0) (by rw [List.getElem?_map, h]; rfl)]
  cases b <;> rfl
theorem all_trB (bs : List Bool) : (List.range bs.length).all (trB bs) = bs.all id := by
  have := all_trF (bs.map fun b => if b = true then 1 else 0) (fun n => n == 1)
  rw [List.length_map] at this
  show (List.range bs.length).all (trF _ _) = _
  rw [this, List.all_map]
  congr 1
  funext b
  cases b <;> rfl
theorem any_trB (bs : List Bool) : (List.range bs.length).any (trB bs) = bs.any id := by
  have := any_trF (bs.map fun b => if b = true then 1 else 0) (fun n => n == 1)
  rw [List.length_map] at this
  show (List.range bs.length).any (trF _ _) = _
  rw [this, List.any_map]
  congr 1
  funext b
  cases b <;> rfl
def ReadyB (X : Cx) (pins : List (Addr × Obj)) (σ : L2.St) (H1 : Hp) (P : Addr) (bs : List Bool) (g : Addr) (s5 : Shared) : Prop :=
  ∃ (fp wr : List Addr) (G : Array GenState → Array GenState → Prop) (F : Nat → Value → Prop) (St : Nat → Shared → Prop), WalksS X.prog X.w X.A.in1 g fp wr G bs.length F St ∧ St 0 s5 ∧ TruthOf X.prog X.w X.A.in1 F (trB bs) ∧
    ∀ s', Moved wr G s5 s' → ∃ H2, Tabbed P H1 H2 ∧ Inv X pins σ H2 s'
section
variable {X : Cx} {pins : List (Addr × Obj)} {σ : L2.St} {H : Hp} {s : Shared}
theorem genI {c P : Addr} {elt iter : Expr} {x : Str} {px gpos : Pos} {scope : Scope} {te : TE} {k : Nat} {Q' : Value → Shared → Prop} {R : List Bool → Hp → Prop} {G0 : L2.St → Hp → Prop}
    (hr : Room k X.A) (TB : TabB X.base X.mg c P) (hcode : X.env.code = .ref c) (S : GenS X.env scope x) (hi : PE X iter te)
    (hel : ∀ (pins : List (Addr × Obj)) (s1 : Shared) (H1 : Hp), Inv X pins σ H1 s1 → G0 σ H1 → TabG H1 P → EltI X scope x elt (X.A.depth + 1) (X.A.units + 8) P s1) (hs : ∀ v, genFold iter X.env v = pure v) (I : Inv X pins σ H s)
    (h : te σ H fun v H1 => ∃ (l : Addr) (vs : List V) (bs : List Bool), v = .ref l ∧ H1 l = some (.lst vs) ∧ KIs X.K H1 vs bs ∧ TabG H1 P ∧ G0 σ H1 ∧ R bs H1)
    (hQ : ∀ bs H1 g s5, R bs H1 → ReadyB X pins σ H1 P bs g s5 → Q' (.ref g) s5) :
    wpAny (model X.prog X.w) X.A (eval (.GeneratorExp elt [⟨.Name x px, iter, [], 0⟩] scope gpos) X.env) Q' X.xe s := by
  refine wpAny_GeneratorExp_walksQD hr.hd S.co (closure_ok S.free) S.cell S.dot S.loc S.kind hr.depth (thn (hi.run pins s σ H _ I h) fun xv s1 hx => ?_) hs
  obtain ⟨v, H1, J, rv, l, vs, bs, ev, hl, ⟨lbs, al⟩, ⟨ps, tP, tOk⟩, hG, hR⟩ := hx
  subst ev
  obtain rfl : xv = Value.ref l := rv
  have EL := hel pins s1 H1 J hG ⟨ps, tP, tOk⟩
  obtain ⟨its, rits, pl, _⟩ := J.list (SqL.of hl)
  have isl := pl.isList
  have szI : its.toArray.size = bs.length := by rw [List.size_toArray, ← rits.length, lbs]
  refine wpAny_pyIter_list isl ?_
  generalize hN : s1.heap.objs.size = N
  generalize ho : ({ cls := .type "list_iterator", data := .fields #[.ref l, .int 0 0] } : Obj) = o
  have isit : (s1.heap.push o).IsListIter N l 0 := by rw [← ho, ← hN]; exact ⟨_, Heap.get?_push_size _ rfl, rfl, rfl⟩
  have gP : s1.heap.get? P = some { cls := .none, data := .fields ps } := J.hok P _ tP
  have ltP : P < N := by rw [← hN]; exact Heap.lt_size gP
  have ltl : l < N := by rw [← hN]; obtain ⟨q, e, _⟩ := isl; exact Heap.lt_size e
  have szO : (s1.heap.push o).objs.size = N + 1 := by rw [Heap.size_push, hN]
  have kO : ∀ b u, s1.heap.get? b = some u → (s1.heap.push o).get? b = some u := fun b u e => Heap.get?_push_of_some _ e
  have codeO : PySem.W.CodeHd (s1.heap.push o) c P := TB.code.keeps fun b u e => kO b u (J.bk b u e)
  have limO : (s1.heap.push o).NoLimit := J.nolimit.push o
  have nPl : l ≠ P := fun e => by rw [e, tP] at hl; cases hl
  have stLt : cStatics < N := by
    obtain ⟨_, hn, _⟩ := J.nolimit
    rw [← hN]
    exact hn.lt
  have stP : cStatics ≠ P := fun e => by
    obtain ⟨_, hn, _⟩ := J.nolimit
    obtain ⟨q, _, _, hq, hqd, _⟩ := hn
    rw [e, gP] at hq
    cases hq
    cases hqd
  refine ⟨limO, ?_⟩
  have main : ∀ (code : Value) (h3 : Heap) (tk : Nat) (ps' : Array Value), Heap.ExtBut P (s1.heap.push o) h3 → N + 1 ≤ h3.objs.size →
      h3.get? P = some { cls := .none, data := .fields ps' } → (∃ more, ps' = ps ++ more) → TriplesOk ps'.toList →
      wpAny (model X.prog X.w) X.A (builtinsFor X.env.globals X.env.builtins) (fun bi s₄ =>
        ∃ Ia fp wr n₀ Pf St₀ pz F, Value.ref N = .ref Ia ∧ (∀ A' : Around, A'.handled = none → Walks X.prog X.w A' Ia fp wr n₀ Pf St₀) ∧ St₀ 0 s₄.heap ∧
          (∀ b ∈ fp, b < s₄.heap.objs.size) ∧ s₄.heap.NoLimit ∧ cStatics ∉ wr ∧
          (∀ href : Heap, (∀ b o, s₄.heap.get? b = some o → href.get? b = some o) →
            QuietGenD X.prog X.w (genEnv scope (cloFrom X.env.cells scope.names []) s₄.heap.objs.size code bi X.env) x [] elt (List.range s₄.heap.objs.size) wr Pf pz F href (X.A.depth + 1) (X.A.units + 8)) ∧
          (∀ a h₅ tk gs, gs.bare = true → s₄.heap.objs.size < a → h₅.objs.size = a + 1 → (∀ b o, s₄.heap.get? b = some o → h₅.get? b = some o) →
            WalksS X.prog X.w X.A.in4 a (a :: s₄.heap.objs.size :: List.range s₄.heap.objs.size) (s₄.heap.objs.size :: wr) (GenOnlyQ s₄.gens.size) (passing pz n₀ 0).length
              (fun j y => ∃ i, (passing pz n₀ 0)[j]? = some i ∧ F i y) (GenAt X.prog X.w X.A.in4 a s₄.gens.size s₄.heap.objs.size (List.range s₄.heap.objs.size) wr pz n₀ F) →
            GenAt X.prog X.w X.A.in4 a s₄.gens.size s₄.heap.objs.size (List.range s₄.heap.objs.size) wr pz n₀ F 0 { s₄ with gens := s₄.gens.push gs, toks := tk, heap := h₅ } →
            Q' (.ref a) { s₄ with gens := s₄.gens.push gs, toks := tk, heap := h₅ })) X.xe { s1 with heap := h3, toks := tk } := by
    intro code h3 tk ps' hx hsz hP3 hmore ht3
    have k3 : ∀ b u, b ≠ P → s1.heap.get? b = some u → h3.get? b = some u := fun b u hb e => hx b u hb (kO b u e)
    have glob3 : h3.Ns mainGlobals X.mg := ((J.mod.glob.keeps J.bk).push o).extBut hx TB.gP
    obtain ⟨bm, ob, b1, b2, b3, b4, b5, b6, b7, b8⟩ := TB.bm
    refine wpAny_builtinsFor (m := X.mg) (by rw [J.ok.glob]; exact glob3) b1 b2 (k3 _ _ b4 (J.bk _ _ b5)) b6 b7 b8 ?_
    have isl3 : h3.IsList l its.toArray := by
      obtain ⟨q, e, r⟩ := isl
      exact ⟨q, k3 _ _ nPl e, r⟩
    have isit3 : h3.IsListIter N l 0 := by
      obtain ⟨q, e, r⟩ := isit
      exact ⟨q, hx _ _ (fun z => Nat.lt_irrefl _ (z ▸ ltP)) e, r⟩
    refine ⟨N, [N, l], [N], its.toArray.size, _, _, (fun _ => true), (fun i y => ∃ b, bs[i]? = some b ∧ y = .bool b), rfl, (fun A' hA => Walks.list hA N l (Nat.ne_of_lt ltl) its.toArray), ⟨isit3, isl3⟩, ?_, limO.extBut hx stP, ?_, ?_, ?_⟩
    · intro b hb
      rcases List.mem_cons.mp hb with e | e
      · exact ad_lt e hsz
      · exact ad_ltlt ((List.mem_singleton.mp e) ▸ ltl) hsz
    · intro z
      have eb : cStatics = N := by simpa using z
      rw [eb] at stLt
      exact Nat.lt_irrefl _ stLt
    · intro href keepH
      refine ⟨fun A' E' i v z m hA hD hU hv hn hm hk => ?_, fun A' E' i v z m hA hD hU hv hp hn hm hk => ?_⟩
      · simp only [List.forIn_nil]
        exact wpAny_pure ⟨rfl, keeps_refl _⟩
      · have hv2 : its[i]? = some v := by simpa using hv
        obtain ⟨vv, hvv, q1⟩ := vals_at rits hv2
        obtain ⟨b, hd, rd⟩ := al i vv hvv
        have old : ∀ q u, q ≠ P → s1.heap.get? q = some u → z.heap.get? q = some u := fun q u hq e => by
          have lq : q < N := by rw [← hN]; exact Heap.lt_size e
          refine hk q (List.mem_range.mpr (ad_ltlt lq hsz)) (fun hw => ?_) u (keepH _ _ (k3 q u hq e))
          have eb : q = N := by simpa using hw
          exact Nat.lt_irrefl _ (eb ▸ lq)
        have nvz : KU X.K z.heap v b := ku_of J q1 rd tP old
        exact wpAny_mono (EL _ A' E' v _ z m rfl J.ok.glob rfl rfl hA hD hU old hn hm nvz) (fun y z' r => ⟨⟨_, hd, r.1⟩, r.2⟩) fun _ _ e => e
    · intro g h5 tk5 gs hgb hag hsz5 hk5 W5 at0
      rw [szI] at W5 at0
      simp only [GxR.passing_true, List.length_range] at W5
      refine hQ bs H1 g _ hR ⟨_, _, _, _, _, W5.in4_1, at0, ?_, fun s' mv => ?_⟩
      · rintro j y sj Qj Ej ⟨i, hij, b, hb, rfl⟩ hQj
        obtain ⟨hj, ej⟩ := List.getElem?_eq_some_iff.mp hij
        rw [List.getElem_range] at ej
        subst ej
        have hQ2 : Qj (trB bs j) sj := hQj
        rw [trB_some hb] at hQ2
        exact wpAny_truthy_bool hQ2
      · obtain ⟨more, em⟩ := hmore
        have nwr : ∀ b u, s1.heap.get? b = some u → b ∉ h3.objs.size :: [N] := fun b u e hb => by
          have hl : b < N := by rw [← hN]; exact Heap.lt_size e
          rcases List.mem_cons.mp hb with z | z
          · exact ad_no2 z hl hsz
          · have eb : b = N := by simpa using z
            exact ad_no eb hl
        have K2 := inv_tab (more := more) (h' := s'.heap) (g' := s'.gens) (d' := s'.drawn) (t' := s'.toks) J tP
          (fun b u hb e => mv.heap b u (nwr b u e) (hk5 b u (k3 b u hb e))) (by rw [← em]; exact mv.heap P _ (nwr P _ gP) (hk5 P _ hP3)) (AllBare.movedS (J.bare.push hgb) mv)
        rw [sh_eta s1 s' mv.os] at K2
        exact ⟨upd H1 P (.tbl (ps ++ more)), ⟨⟨ps ++ more, upd_same, by rw [← em]; exact ht3⟩, fun b hb => upd_ne hb⟩, K2⟩
  cases hf : codeAmong gpos ps.toList with
  | none =>
    refine wpAny_genexprCodeX hcode (codeO.code (kO _ _ gP) tOk) (codeO.tab (kO _ _ gP)) hf fun c' h' tk hx hge hlt hco' _ htab' _ => ?_
    obtain ⟨o1, vs1, f1, tf, fl, tg, inF, tx, tt, op, _, _, _, _, _, _, _, _, _, htr, _⟩ := hco'
    refine main _ h' tk _ hx ?_ htab'.2 ⟨_, rfl⟩ htr
    rw [szO] at hge
    exact Nat.le_trans hge (Nat.le_of_lt hlt)
  | some cv =>
    refine wpAny_genexprCode_hit hcode (codeO.code (kO _ _ gP) tOk) hf ?_
    exact main cv (s1.heap.push o) s1.toks ps (Heap.ExtBut.refl _ _) (Nat.le_of_eq szO.symm) (kO _ _ gP) ⟨#[], by simp⟩ tOk
def tGenI (K : PySem.W.Frag) (P : Addr) (G0 : L2.St → Hp → Prop) (te : TE) (f : List Bool → Bool) : TE := fun σ H Q => te σ H fun v H1 => ∃ (l : Addr) (vs : List V) (bs : List Bool), v = .ref l ∧ H1 l = some (.lst vs) ∧ KIs K H1 vs bs ∧ TabG H1 P ∧ G0 σ H1 ∧ ∀ H2, Tabbed P H1 H2 → Q (.bl (f bs)) H2
/-- all(test for x in e), e a list -/
theorem pe_allI {c P : Addr} {elt iter : Expr} {x : Str} {px p pos gpos : Pos} {scope : Scope} {te : TE} {k : Nat} {G0 : L2.St → Hp → Prop}
    (hr : Room k X.A) (hg : Gl X "all") (hm : X.mg "all" = none) (hb : bootBuiltins "all" = some (.builtin "all")) (TB : TabB X.base X.mg c P) (hcode : X.env.code = .ref c) (S : GenS X.env scope x)
    (hi : PE X iter te) (hel : ∀ (σ : L2.St) (pins : List (Addr × Obj)) (s1 : Shared) (H1 : Hp), Inv X pins σ H1 s1 → G0 σ H1 → TabG H1 P → EltI X scope x elt (X.A.depth + 1) (X.A.units + 8) P s1) (hs : ∀ v, genFold iter X.env v = pure v)
    (he : starEach [.GeneratorExp elt [⟨.Name x px, iter, [], 0⟩] scope gpos] X.env = (false, eval (.GeneratorExp elt [⟨.Name x px, iter, [], 0⟩] scope gpos) X.env) :: starEach [] X.env := by rfl) :
    PE X (.Call (.Name "all" p) [.GeneratorExp elt [⟨.Name x px, iter, [], 0⟩] scope gpos] [] pos) (tGenI X.K P G0 te fun bs => bs.all id) := by
  refine ⟨fun pins s σ H Q I h => wpAny_Call_Name_kw (ld_blt I hg hm hb (PyProof.Rows.callWith_builtin1 ?_ he (by rfl)))⟩
  rw [he]
  show wpAny _ _ (spliced ((false, eval (.GeneratorExp elt [⟨.Name x px, iter, [], 0⟩] scope gpos) X.env) :: backTo pos (starEach [] X.env))) _ _ s
  refine Calls.spliced_cons (genI (R := fun bs H1 => ∀ H2, Tabbed P H1 H2 → Q (.bl (bs.all id)) H2) hr TB hcode S hi (hel σ) hs I h fun bs H1 g z hR rdy => Calls.spliced_nil ?_)
  obtain ⟨fp, wr, G, F, St, W, st0, tru, back⟩ := rdy
  refine call_all_walkS (W.self 0 _ _ _ st0 ⟨g, fp, wr, G, _, F, St, _, rfl, W, st0, tru, fun z' mv => ?_⟩)
  obtain ⟨H2, tb, K2⟩ := back z' mv
  have q := hR H2 tb
  rw [← all_trB] at q
  exact ⟨.bl _, H2, K2, rfl, q⟩
/-- isinstance(x, int) -/
theorem elt_int {pins : List (Addr × Obj)} {s1 : Shared} {H1 : Hp} {sc : Scope} {x : Str} {p1 p2 p3 p4 : Pos} {P : Addr} {D U : Nat} (J : Inv X pins σ H1 s1) (tg : TabG H1 P) (mI : X.mg "isinstance" = none) (mN : X.mg "int" = none) (hk : sc.kind = .function)
    (hl : sc.names.lookup x = some .local) (hgi : sc.names.lookup ("isinstance" : Str) = some .globalImplicit) (hgn : sc.names.lookup ("int" : Str) = some .globalImplicit) (hd : (x == ("__debug__" : Str)) = false := by decide) :
    EltI X sc x (.Call (.Name "isinstance" p1) [.Name x p2, .Name "int" p3] [] p4) D U P s1 := by
  intro ce A' E' v b z m hs hg hbi hc hA hDA hUA old hn hx nv
  have M := J.mod
  obtain ⟨ps, tP, _⟩ := tg
  have bk : ∀ b o, X.base.get? b = some o → z.heap.get? b = some o := fun b o e => old b o (fun q => by
    have := (J.bs b o e).2
    rw [q, tP] at this
    cases this) (J.bk b o e)
  have gl : z.heap.Ns ce.globals X.mg := by rw [hg]; exact M.glob.keeps bk
  obtain ⟨mb, m1, m2⟩ := M.blt
  have bl : z.heap.Ns ce.builtins mb := by rw [hbi]; exact m1.keeps bk
  have kd : ce.scope.kind = .function := by rw [hs]; exact hk
  have kx : ce.kindOf x = some .local := by show ce.scope.names.lookup x = some .local; rw [hs]; exact hl
  have ki : ce.kindOf "isinstance" = some .globalImplicit := by show ce.scope.names.lookup _ = some .globalImplicit; rw [hs]; exact hgi
  have kn : ce.kindOf "int" = some .globalImplicit := by show ce.scope.names.lookup _ = some .globalImplicit; rw [hs]; exact hgn
  have isbI : bootBuiltins "isinstance" = some (.builtin "isinstance") := by decide +kernel
  have isbN : bootBuiltins "int" = some (.type "int") := by decide +kernel
  obtain ⟨t, Z, hZ, hz, nop, hc2⟩ := nv
  refine wpAny_Call_Name_kw (Calls.Name_function_global kd ki (Calls.loadGlobal_builtin gl mI bl ((m2 "isinstance" (by decide)).trans isbI) ?_))
  refine PyProof.Rows.callWith_builtin1 (PyProof.Rows.args_cons (wpAny_Name (wpAny_loadName_local kd kx hn hx (PyProof.Rows.args_cons ?_)) hd)) rfl rfl
  refine Calls.Name_function_global kd kn (Calls.loadGlobal_builtin gl mN bl ((m2 "int" (by decide)).trans isbN) ?_)
  refine PyProof.Rows.args_nil ?_
  exact PySem.W.kia_one hZ (M.kin.keeps bk) hz hc2 nop fun tk2 => ⟨rfl, keeps_tok _ _⟩
end
end My
namespace My
open PySem PySem.Spec PyProof.Rows L2 TL
theorem inV_strs (x : Str) : ∀ l : List Str, inV (.str x) (l.map V.str) = decide (x ∈ l)
  | [] => rfl
  | y :: r => by
    have ih := inV_strs x r
    unfold inV at ih ⊢
    rw [List.map_cons, List.any_cons, ih]
    show (decide (y = x) || decide (x ∈ r)) = _
    by_cases h : y = x
    · rw [decide_eq_true h, Bool.true_or, decide_eq_true (by rw [h]; exact List.mem_cons_self)]
    · rw [decide_eq_false h, Bool.false_or]
      exact decide_eq_decide.mpr ⟨fun z => List.mem_cons_of_mem _ z, fun z => (List.mem_cons.mp z).resolve_left fun e => h e.symm⟩
/-- the classes of values -/
structure ValC (K : PySem.W.Frag) (mg : Str → Option Value) (C : Cs) : Prop where
  gp : mg "Pair" = some (.ref C.pa)
  gf : mg "Function" = some (.ref C.fu)
  gr : mg "Primitive" = some (.ref C.pr)
  fp : FldC K C.pa ["first", "second"]
  ff : FldC K C.fu ["parameters", "body", "kept"]
  fr : FldC K C.pr ["parameters", "name"]
  ip : InsC K C.pa
  if_ : InsC K C.fu
  ir : InsC K C.pr
  O : ObC K
  kip : PySem.W.kitOne K (.type "int") (.ref C.pa) = some false
  kif : PySem.W.kitOne K (.type "int") (.ref C.fu) = some false
  kir : PySem.W.kitOne K (.type "int") (.ref C.pr) = some false
  kpi : PySem.W.kitOne K (.ref C.pa) (.type "int") = some false
  kfi : PySem.W.kitOne K (.ref C.fu) (.type "int") = some false
  kri : PySem.W.kitOne K (.ref C.pr) (.type "int") = some false
  kpp : PySem.W.kitOne K (.ref C.pa) (.ref C.pa) = some true
  kpf : PySem.W.kitOne K (.ref C.pa) (.ref C.fu) = some false
  kpr : PySem.W.kitOne K (.ref C.pa) (.ref C.pr) = some false
  kfp : PySem.W.kitOne K (.ref C.fu) (.ref C.pa) = some false
  kff : PySem.W.kitOne K (.ref C.fu) (.ref C.fu) = some true
  kfr : PySem.W.kitOne K (.ref C.fu) (.ref C.pr) = some false
  krp : PySem.W.kitOne K (.ref C.pr) (.ref C.pa) = some false
  krf : PySem.W.kitOne K (.ref C.pr) (.ref C.fu) = some false
  krr : PySem.W.kitOne K (.ref C.pr) (.ref C.pr) = some true
def tyVl (C : Cs) : Vl → Value
  | .int _ => .type "int"
  | .pair _ _ => .ref C.pa
  | .prim _ => .ref C.pr
  | .fnP _ _ _ => .ref C.fu
  | .fnM _ _ => .ref C.fu
theorem RV.ty {K : PySem.W.Frag} {mg : Str → Option Value} {C : Cs} {X : Addr → Prop} {H : Hp} {v : V} {x : Vl} (c : ValC K mg C) (r : RV C X H v x) : TyX K H v (tyVl C x) := by
  cases r with
  | int i _ => exact .base (.int i)
  | pair h => exact ty_ins c.O c.fp.c c.ip h
  | prim h => exact ty_ins c.O c.fr.c c.ir h
  | fnP h => exact ty_ins c.O c.ff.c c.if_ h
  | fnM h => exact ty_ins c.O c.ff.c c.if_ h
def isI : Vl → Bool
  | .int _ => true
  | _ => false
def isP : Vl → Bool
  | .pair _ _ => true
  | _ => false
def isR : Vl → Bool
  | .prim _ => true
  | _ => false
def isF : Vl → Bool
  | .fnP _ _ _ => true
  | .fnM _ _ => true
  | _ => false
section
variable {K : PySem.W.Frag} {mg : Str → Option Value} {C : Cs}
theorem ValC.int (c : ValC K mg C) (x : Vl) : PySem.W.kitOne K (tyVl C x) (.type "int") = some (isI x) := by
  cases x with
  | int i => exact kit_ty (show kitB "int" "int" = some true by decide +kernel)
  | pair a b => exact c.kpi
  | prim p => exact c.kri
  | fnP _ _ _ => exact c.kfi
  | fnM _ _ => exact c.kfi
theorem ValC.pair (c : ValC K mg C) (x : Vl) : PySem.W.kitOne K (tyVl C x) (.ref C.pa) = some (isP x) := by
  cases x with
  | int i => exact c.kip
  | pair a b => exact c.kpp
  | prim p => exact c.krp
  | fnP _ _ _ => exact c.kfp
  | fnM _ _ => exact c.kfp
theorem ValC.prim (c : ValC K mg C) (x : Vl) : PySem.W.kitOne K (tyVl C x) (.ref C.pr) = some (isR x) := by
  cases x with
  | int i => exact c.kir
  | pair a b => exact c.kpr
  | prim p => exact c.krr
  | fnP _ _ _ => exact c.kfr
  | fnM _ _ => exact c.kfr
theorem ValC.fn (c : ValC K mg C) (x : Vl) : PySem.W.kitOne K (tyVl C x) (.ref C.fu) = some (isF x) := by
  cases x with
  | int i => exact c.kif
  | pair a b => exact c.kpf
  | prim p => exact c.krf
  | fnP _ _ _ => exact c.kff
  | fnM _ _ => exact c.kff
theorem ValC.call (c : ValC K mg C) (x : Vl) : PySem.W.kitAny K (tyVl C x) [.ref C.fu, .ref C.pr] = some (isF x || isR x) := by
  refine kitAny_cons (c.fn x) (fun h => kitAny_cons (c.prim x) (fun h2 => ?_) fun h2 => ?_) fun h => ?_
  · rw [h, h2]; rfl
  · rw [h2]; simp
  · rw [h]; rfl
end
def two (a b : Str) : List V → List (Str × V)
  | [x, y] => [(a, x), (b, y)]
  | _ => []
def three (a b c : Str) : List V → List (Str × V)
  | [x, y, z] => [(a, x), (b, y), (c, z)]
  | _ => []
abbrev sPai : Stmt := inClass (top 5) 0
abbrev sFun : Stmt := inClass (top 6) 0
abbrev sPri : Stmt := inClass (top 7) 0
/-- Primitive.__init__ -/
def spPri (C : Addr) : Sp := fun vs H Q _ => ∃ (x dx : Addr) (p : Str), vs = [.ref x, .str p] ∧ H x = some (.ins C dx []) ∧ ∀ H', Fr No H H' → Q .non (upd H' x (.ins C dx [("parameters", .int (arP p)), ("name", .str p)]))
section
variable {P : Program} {w : World} {K : PySem.W.Frag} {mg : Str → Option Value} {base : Heap}
theorem scPai : FnScope ["self", "first", "second"] ["self", "first", "second"] (defScope sPai) := ⟨rfl, rfl, rfl, by decide +kernel, rfl, by decide +kernel, by decide +kernel⟩
theorem scFun : FnScope ["self", "parameters", "body", "kept"] ["self", "parameters", "body", "kept"] (defScope sFun) := ⟨rfl, rfl, rfl, by decide +kernel, rfl, by decide +kernel, by decide +kernel⟩
theorem scPri : FnScope ["self", "name"] ["self", "name"] (defScope sPri) := ⟨rfl, rfl, rfl, by decide +kernel, rfl, by decide +kernel, by decide +kernel⟩
theorem ok_pai {f C : Addr} {fd : FuncData} (F : Fun K "__init__" "Pair.__init__" sPai f fd) (U : FldC K C ["first", "second"]) : FnOk P w K mg base CX0 1 f fd ["self", "first", "second"] (spIni C 2 (two "first" "second")) := by
  refine F.ok scPai (fun vs H Q E h => ?_) (fun cdv A outer s H vs Q E hr h => ?_)
  · obtain ⟨x, dx, us, rfl, lu, _⟩ := h
    exact congrArg (· + 1) lu
  obtain ⟨x, dx, us, rfl, lu, hx, q⟩ := h
  obtain ⟨a, b, rfl⟩ : ∃ a b, us = [a, b] := by
    match us, lu with
    | [a, b], _ => exact ⟨a, b, rfl⟩
  have nd := scPai.nd
  refine ⟨_, (pss_cons (ps_fld (pv 0) (pv 1) rfl)
    (pss_one (ps_fld (pv 0) (pv 2) rfl))), ?_⟩
  refine ⟨_, rfl, _, rfl, x, C, dx, _, rfl, hx, U.c, U.n _ (by simp), by decide, ?_⟩
  refine ⟨_, rfl, _, rfl, x, C, dx, _, rfl, upd_same, U.c, U.n _ (by simp), by show 1 < 1000; decide, ?_⟩
  rw [upd_upd]
  exact q
theorem ok_fun {f C : Addr} {fd : FuncData} (F : Fun K "__init__" "Function.__init__" sFun f fd) (U : FldC K C ["parameters", "body", "kept"]) : FnOk P w K mg base CX0 1 f fd ["self", "parameters", "body", "kept"] (spIni C 3 (three "parameters" "body" "kept")) := by
  refine F.ok scFun (fun vs H Q E h => ?_) (fun cdv A outer s H vs Q E hr h => ?_)
  · obtain ⟨x, dx, us, rfl, lu, _⟩ := h
    exact congrArg (· + 1) lu
  obtain ⟨x, dx, us, rfl, lu, hx, q⟩ := h
  obtain ⟨a, b, c, rfl⟩ : ∃ a b c, us = [a, b, c] := by
    match us, lu with
    | [a, b, c], _ => exact ⟨a, b, c, rfl⟩
  have nd := scFun.nd
  refine ⟨_, (pss_cons (ps_fld (pv 0) (pv 1) rfl)
    (pss_cons (ps_fld (pv 0) (pv 2) rfl)
    (pss_one (ps_fld (pv 0) (pv 3) rfl)))), ?_⟩
  refine ⟨_, rfl, _, rfl, x, C, dx, _, rfl, hx, U.c, U.n _ (by simp), by decide, ?_⟩
  refine ⟨_, rfl, _, rfl, x, C, dx, _, rfl, upd_same, U.c, U.n _ (by simp), by show 1 < 1000; decide, ?_⟩
  refine ⟨_, rfl, _, rfl, x, C, dx, _, rfl, upd_same, U.c, U.n _ (by simp), by show 2 < 1000; decide, ?_⟩
  rw [upd_upd, upd_upd]
  exact q
theorem ok_pri {f C : Addr} {fd : FuncData} (F : Fun K "__init__" "Primitive.__init__" sPri f fd) (U : FldC K C ["parameters", "name"]) : FnOk P w K mg base CX0 1 f fd ["self", "name"] (spPri C) := by
  refine F.ok scPri (fun vs H Q E h => ?_) (fun cdv A outer s H vs Q E hr h => ?_)
  · obtain ⟨x, dx, p, rfl, _⟩ := h
    rfl
  obtain ⟨x, dx, p, rfl, hx, q⟩ := h
  have nd := scPri.nd
  refine ⟨_, (pss_cons (ps_fld (pv 0) (pe_ifExp (pt_cmpR op_in_seq (pv 1) (pe_tup (pa_cons pe_str (pa_cons pe_str pa_nil))) (by rfl)) pe_int pe_int) rfl)
    (pss_one (ps_fld (pv 0) (pv 1) rfl))), ?_⟩
  refine ⟨_, rfl, by show 2 ≤ sizeLine; decide, fun t ht => ?_⟩
  refine ⟨t, _, rfl, .inr (SqT.of upd_same), rfl, rfl, _, rfl, ?_⟩
  have f : Fr No H (upd H t (.tup [.str "first", .str "second"])) := Fr.new ht
  have hx1 := f.keep (fun z => z) rfl hx
  have ein : inV (.str p) [.str "first", .str "second"] = decide (p ∈ (["first", "second"] : List Str)) := inV_strs p ["first", "second"]
  rw [if_neg Bool.false_ne_true, ein]
  have ar : arP p = if decide (p ∈ (["first", "second"] : List Str)) = true then 1 else 2 := by
    unfold arP
    simp only [decide_eq_true_eq, List.mem_cons, List.mem_nil_iff, or_false]
  by_cases c : p ∈ (["first", "second"] : List Str)
  · rw [decide_eq_true c] at ar ⊢
    rw [if_pos rfl] at ar
    refine iteT ?_
    refine ⟨_, rfl, x, C, dx, _, rfl, hx1, U.c, U.n _ (by simp), by decide, ?_⟩
    refine ⟨_, rfl, _, rfl, x, C, dx, _, rfl, upd_same, U.c, U.n _ (by simp), by show 1 < 1000; decide, ?_⟩
    rw [upd_upd]
    have := q _ f
    rw [ar] at this
    exact this
  · rw [decide_eq_false c] at ar ⊢
    rw [if_neg Bool.false_ne_true] at ar
    refine iteF ?_
    refine ⟨_, rfl, x, C, dx, _, rfl, hx1, U.c, U.n _ (by simp), by decide, ?_⟩
    refine ⟨_, rfl, _, rfl, x, C, dx, _, rfl, upd_same, U.c, U.n _ (by simp), by show 1 < 1000; decide, ?_⟩
    rw [upd_upd]
    have := q _ f
    rw [ar] at this
    exact this
end
end My
namespace My
open PySem PySem.Spec PyProof.Rows L2 TL
theorem v_str {a b : Str} (h : decide (V.str a = V.str b) = true) : a = b := V.str.inj (of_decide_eq_true h)
theorem v_int {a b : Int} (h : decide (V.int a = V.int b) = true) : a = b := V.int.inj (of_decide_eq_true h)
theorem cut_lo {xs : List V} {k : Nat} (h : k ≤ xs.length) : cutV xs (some (k : Int)) none = xs.drop k := by
  unfold cutV
  rw [HT.sIx_nat, HT.sIx_none, Nat.min_eq_left h, List.take_of_length_le]
  rw [List.length_drop]
  exact Nat.le_refl _
/-! ### steps, stacks, calls -/
abbrev sCnt : Stmt := inClass (top 13) 1
/-- count_step: R a run at the class C with `steps` and `most` -/
def spCnt (C En : Addr) : Sp := fun vs H Q E => ∃ (R dx : Addr) (fs : List (Str × V)) (n m : Nat), vs = [.ref R] ∧ H R = some (.ins C dx fs) ∧ fs.lookup ("steps" : Str) = some (V.int n) ∧ fs.lookup ("most" : Str) = some (V.int m) ∧ fs.length < 1000 ∧
  (n < m → Q .non (upd H R (.ins C dx (putF "steps" (.int (n + 1 : Nat)) fs)))) ∧ (m ≤ n → erX No En ["steps"] H E)
abbrev sTak : Stmt := top 14
def spTak : Sp := fun vs H Q _ => ∃ (a : Addr) (xs : List V) (n : Nat), vs = [.ref a, .int n] ∧ H a = some (.lst xs) ∧ n ≤ xs.length ∧
  ∀ p, H p = none → Q (.ref p) (upd (upd H p (.lst (xs.drop (xs.length - n)))) a (.lst (xs.take (xs.length - n))))
abbrev sChk : Stmt := top 15
def parN : Vl → Int
  | .prim p => arP p
  | .fnP ns _ _ => ns.length
  | .fnM c _ => c.params
  | _ => 0
def chkF (f : Vl) (n : Nat) : Option (List Str) := if (isF f || isR f) = true then (if parN f = n then none else some ["error", "count"]) else some ["error", "kind"]
theorem chk_par {f : Vl} {n : Nat} (h : chkF f n = none) : parN f = (n : Int) := by
  unfold chkF at h
  split at h
  · split at h
    · assumption
    · cases h
  · cases h
def spChk (C : Cs) (En : Addr) : Sp := fun vs H Q E => ∃ (X : Addr → Prop) (v : V) (x : Vl) (a : Addr) (xs : List V), vs = [v, .ref a] ∧ RV C X H v x ∧ H a = some (.lst xs) ∧
  (chkF x xs.length = none → ∀ H', Fr No H H' → Q .non H') ∧ (∀ ws, chkF x xs.length = some ws → erX No En ws H E)
abbrev sHal : Stmt := top 16
def halF (p : Str) : Vl → Except (List Str) Vl
  | .pair a b => .ok (if p = "first" then a else b)
  | _ => .error ["error", "kind"]
def spHal (C : Cs) (En : Addr) : Sp := fun vs H Q E => ∃ (X : Addr → Prop) (p : Str) (v : V) (x : Vl), vs = [.str p, v] ∧ RV C X H v x ∧
  (∀ y, halF p x = .ok y → ∀ u, RV C X H u y → Q u H) ∧ (∀ ws, halF p x = .error ws → erX No En ws H E)
section
variable {P : Program} {w : World} {K : PySem.W.Frag} {mg : Str → Option Value} {base : Heap}
theorem scCnt : FnScope ["self"] ["self"] (defScope sCnt) := ⟨rfl, rfl, rfl, by decide +kernel, rfl, by decide +kernel, by decide +kernel⟩
theorem ok_cnt {f C En fE : Addr} {fd dE : FuncData} (F : Fun K "count_step" "Run.count_step" sCnt f fd) (U : FldC K C ["steps", "most"]) (XE : ErrO P w K mg base En fE dE) : FnOk P w K mg base (L2.CX P w) 3 f fd ["self"] (spCnt C En) := by
  refine F.okX scCnt (fun vs H Q E h => ?_) (fun cdv A outer s H vs Q E hr h => ?_)
  · obtain ⟨R, dx, fs, n, m, rfl, _⟩ := h
    rfl
  obtain ⟨R, dx, fs, n, m, rfl, hR, ls, lm, lf, q, qe⟩ := h
  have nd := scCnt.nd
  refine ⟨_, (pss_cons (ps_if (pt_cmpR op_ge (pe_fld (pv 0) rfl) (pe_fld (pv 0) rfl) (nomark _)) (pss_one (ps_raise rfl (takes_of rfl rfl rfl rfl) (pmk_oex XE.o XE.iC XE.tI XE.f hr XE.b .nil pass0 rfl XE.g (pa_cons (pe_tup (pa_cons pe_str pa_nil)) pa_nil)))) pss_nil)
    (pss_one (ps_fldaug (pv 0) pe_int in_add))), ?_⟩
  refine ⟨_, rfl, R, C, dx, _, _, rfl, hR, U.c, U.n _ (by simp), ls, _, rfl, R, C, dx, _, _, rfl, hR, U.c, U.n _ (by simp), lm, _, _, rfl, rfl, _, rfl, ?_⟩
  refine ite2 (fun c => ?_) (fun c => ?_)
  · have hle : m ≤ n := by have := of_decide_eq_true c; omega
    exact mkO_1 (qe hle)
  · have hlt : n < m := by
      rcases Nat.lt_or_ge n m with h | h
      · exact h
      · exact absurd (decide_eq_true (show (m : Int) ≤ (n : Int) by omega)) c
    refine ⟨_, rfl, R, C, dx, _, _, rfl, hR, U.c, U.n _ (by simp), ls, _, _, rfl, rfl, _, _, hR, lf, ?_⟩
    exact q hlt
theorem scTak : FnScope ["stack", "many", "at", "taken"] ["stack", "many"] (defScope sTak) := ⟨rfl, rfl, rfl, by decide +kernel, rfl, by decide +kernel, by decide +kernel⟩
theorem ok_tak {f : Addr} {fd : FuncData} (F : Fun K "take_last" "take_last" sTak f fd) (B : Blt mg) : FnOk P w K mg base CX0 1 f fd ["stack", "many"] spTak := by
  refine F.ok scTak (fun vs H Q E h => ?_) (fun cdv A outer s H vs Q E hr h => ?_)
  · obtain ⟨a, xs, n, rfl, _⟩ := h
    rfl
  obtain ⟨a, xs, n, rfl, ha, hn, q⟩ := h
  have nd := scTak.nd
  refine ⟨_, (pss_cons (ps_set (i := 2) nd rfl (Or.inl rfl) (pe_op op_sub (pe_callB call_len_seq (by rfl) B.len PySem.boot_len (pa_cons (pv 0) pa_nil)) (pv 1)))
    (pss_cons (ps_set (i := 3) nd rfl (Or.inl rfl) (pe_slice sl_list (pv 0) (po_some (pv 2)) po_none))
    (pss_cons (ps_delF (pv 0) (pv 2))
    (pss_one (ps_ret (pv 3)))))), ?_⟩
  have e : ((xs.length : Int) - (n : Int)) = ((xs.length - n : Nat) : Int) := by omega
  refine ⟨_, rfl, a, _, rfl, .inl (SqL.of ha), _, rfl, _, _, rfl, rfl, ?_⟩
  dsimp only
  rw [e]
  refine ⟨_, rfl, _, rfl, _, rfl, a, xs, rfl, SqL.of ha, fun p hp => ?_⟩
  rw [cut_lo (Nat.sub_le _ _)]
  refine ⟨_, rfl, _, rfl, _, rfl, a, xs, xs.length - n, rfl, rfl, ?_, Nat.sub_le _ _, _, rfl, q p hp⟩
  rw [upd_ne (ne_of_none ha hp)]
  exact ha
theorem scChk : FnScope ["called", "parts"] ["called", "parts"] (defScope sChk) := ⟨rfl, rfl, rfl, by decide +kernel, rfl, by decide +kernel, by decide +kernel⟩
theorem ok_chk {f En fE : Addr} {C : Cs} {fd dE : FuncData} (F : Fun K "check_call" "check_call" sChk f fd) (B : Blt mg) (VC : ValC K mg C) (XE : ErrO P w K mg base En fE dE) : FnOk P w K mg base (L2.CX P w) 3 f fd ["called", "parts"] (spChk C En) := by
  refine F.okX scChk (fun vs H Q E h => ?_) (fun cdv A outer s H vs Q E hr h => ?_)
  · obtain ⟨X, v, x, a, xs, rfl, _⟩ := h
    rfl
  obtain ⟨X, v, x, a, xs, rfl, rv, ha, q, qe⟩ := h
  have nd := scChk.nd
  refine ⟨_, (pss_cons (ps_if (pt_not (pt_val (pe_callB call_isiT (by rfl) B.isinstance (by decide +kernel) (pa_cons (pv 0) (pa_cons (pe_tup (pa_cons (pe_glob (v := .ref C.fu) rfl VC.gf rfl) (pa_cons (pe_glob (v := .ref C.pr) rfl VC.gr rfl) pa_nil))) pa_nil))))) (pss_one (ps_raise rfl (takes_of rfl rfl rfl rfl) (pmk_oex XE.o XE.iC XE.tI XE.f hr XE.b .nil pass0 rfl XE.g (pa_cons (pe_tup (pa_cons pe_str (pa_cons pe_str pa_nil))) pa_nil)))) pss_nil)
    (pss_one (ps_if (pt_cmpR op_ne (pe_fld (pv 0) rfl) (pe_callB call_len_seq (by rfl) B.len PySem.boot_len (pa_cons (pv 1) pa_nil)) (nomark _)) (pss_one (ps_raise rfl (takes_of rfl rfl rfl rfl) (pmk_oex XE.o XE.iC XE.tI XE.f hr XE.b .nil pass0 rfl XE.g (pa_cons (pe_tup (pa_cons pe_str (pa_cons pe_str pa_nil))) pa_nil)))) pss_nil))), ?_⟩
  refine ⟨_, rfl, by show 2 ≤ sizeLine; decide, fun t ht => ?_⟩
  have f : Fr No H (upd H t (.tup [.ref C.fu, .ref C.pr])) := Fr.new ht
  have ha1 : (upd H t (.tup [.ref C.fu, .ref C.pr])) a = some (.lst xs) := by rw [upd_ne (ne_of_none ha ht)]; exact ha
  have rv1 := rv.fr f.no
  generalize hH1 : upd H t (.tup [.ref C.fu, .ref C.pr]) = H1 at f ha1 rv1
  have et : H1 t = some (.tup [.ref C.fu, .ref C.pr]) := by rw [← hH1]; exact upd_same
  refine ⟨v, t, _, _, _, _, rfl, et, .cons (.own _) (.cons (.own _) .nil), rv1.ty VC, VC.call x, ?_⟩
  unfold chkF at q qe
  cases c : (isF x || isR x) with
  | false =>
    rw [c, if_neg Bool.false_ne_true] at q qe
    refine ⟨_, rfl, iteT ?_⟩
    exact mkO_2 ((qe _ rfl).fr f)
  | true =>
    rw [c, if_pos rfl] at q qe
    refine ⟨_, rfl, iteF ?_⟩
    obtain ⟨b, C', dx, fs, rfl, eb, cl, na, lp⟩ : ∃ (b C' dx : Addr) (fs : List (Str × L2.V)), v = .ref b ∧ H1 b = some (.ins C' dx fs) ∧ Cls K C' ∧ NoAttr K C' "parameters" ∧ fs.lookup ("parameters" : Str) = some (.int (parN x)) := by
      cases rv1 with
      | int i _ => cases c
      | pair h => cases c
      | prim h => exact ⟨_, _, _, _, rfl, h, VC.fr.c, VC.fr.n _ (by simp), rfl⟩
      | fnP h => exact ⟨_, _, _, _, rfl, h, VC.ff.c, VC.ff.n _ (by simp), rfl⟩
      | fnM h => exact ⟨_, _, _, _, rfl, h, VC.ff.c, VC.ff.n _ (by simp), rfl⟩
    refine ⟨_, rfl, b, C', dx, fs, _, rfl, eb, cl, na, lp, _, rfl, a, _, rfl, .inl (SqL.of ha1), rfl, _, rfl, ?_⟩
    refine ite2 (fun c => ?_) (fun c => ?_)
    · have ne : ¬ parN x = (xs.length : Int) := fun z => by rw [z, decide_eq_true rfl] at c; cases c
      exact mkO_2 ((qe _ (if_neg ne)).fr f)
    · have e : parN x = (xs.length : Int) := by
        by_cases z : parN x = (xs.length : Int)
        · exact z
        · exact absurd (by rw [decide_eq_false (fun h => z (V.int.inj h))]; rfl) c
      exact q (if_pos e) _ f
theorem scHal : FnScope ["name", "value"] ["name", "value"] (defScope sHal) := ⟨rfl, rfl, rfl, by decide +kernel, rfl, by decide +kernel, by decide +kernel⟩
theorem ok_hal {f En fE : Addr} {C : Cs} {fd dE : FuncData} (F : Fun K "half" "half" sHal f fd) (B : Blt mg) (VC : ValC K mg C) (XE : ErrO P w K mg base En fE dE) : FnOk P w K mg base (L2.CX P w) 3 f fd ["name", "value"] (spHal C En) := by
  refine F.okX scHal (fun vs H Q E h => ?_) (fun cdv A outer s H vs Q E hr h => ?_)
  · obtain ⟨X, p, v, x, rfl, _⟩ := h
    rfl
  obtain ⟨X, p, v, x, rfl, rv, q, qe⟩ := h
  have nd := scHal.nd
  refine ⟨_, (pss_cons (ps_if (pt_not (pt_val (pe_callB call_isi (by rfl) B.isinstance (by decide +kernel) (pa_cons (pv 1) (pa_cons (pe_glob (v := .ref C.pa) rfl VC.gp rfl) pa_nil))))) (pss_one (ps_raise rfl (takes_of rfl rfl rfl rfl) (pmk_oex XE.o XE.iC XE.tI XE.f hr XE.b .nil pass0 rfl XE.g (pa_cons (pe_tup (pa_cons pe_str (pa_cons pe_str pa_nil))) pa_nil)))) pss_nil)
    (pss_one (ps_ret (pe_ifExp (pt_cmpR op_eq (pv 0) pe_str (nomark _)) (pe_fld (pv 1) rfl) (pe_fld (pv 1) rfl))))), ?_⟩
  refine ⟨_, rfl, _, _, _, _, _, rfl, .own _, rv.ty VC, VC.pair x, ?_⟩
  cases rv with
  | pair h n r1 r2 =>
    refine ⟨_, rfl, iteF ?_⟩
    refine ⟨_, rfl, rfl, _, rfl, ?_⟩
    refine ite2 (fun c => ?_) (fun c => ?_)
    · exact ⟨_, rfl, _, C.pa, _, _, _, rfl, h, VC.fp.c, VC.fp.n _ (by simp), rfl, q _ rfl _ (by rw [if_pos (v_str c)]; exact r1)⟩
    · exact ⟨_, rfl, _, C.pa, _, _, _, rfl, h, VC.fp.c, VC.fp.n _ (by simp), rfl, q _ rfl _ (by rw [if_neg fun z => c (decide_eq_true (congrArg L2.V.str z))]; exact r2)⟩
  | int i _ => exact ⟨_, rfl, iteT (mkO_2 (qe _ rfl))⟩
  | prim h => exact ⟨_, rfl, iteT (mkO_2 (qe _ rfl))⟩
  | fnP h => exact ⟨_, rfl, iteT (mkO_2 (qe _ rfl))⟩
  | fnM h => exact ⟨_, rfl, iteT (mkO_2 (qe _ rfl))⟩
end
end My
namespace My
open PySem PySem.Spec PyProof.Rows L2 TL GxR
structure FunC (K : PySem.W.Frag) (x : Str) (st : Stmt) (f : Addr) (fd : FuncData) (c : Addr) : Prop where
  ex : ∃ (oc : Value) (od : Option Addr) (kV doc pm : Value) (an : Option Addr) (ct : Value) (osl : Array (Option Value)),
    fd = PySem.W.fnOf x x (defArgs st) (defBody st) (defScope st) .none kV doc pm an (.ref c) ct ∧ K.lookup f = some ⟨oc, od, .func fd, osl⟩ ∧ PySem.W.codeIn K (.ref c) x = true
  kp : PySem.W.keepIn K (.ref f) = true
section
variable {P : Program} {w : World} {K : PySem.W.Frag} {mg : Str → Option Value} {base : Heap}
theorem FunC.okX {x : Str} {st : Stmt} {f c : Addr} {fd : FuncData} {N ps : List Str} {k : Nat} {sp : Sp} (F : FunC K x st f fd c) (S : FnScope N ps (defScope st)) (len : ∀ vs H Q E, sp vs H Q E → vs.length = ps.length)
    (hb : ∀ (A : Around) (outer : List Env) (s : Shared) (H : Hp) (vs : List V) (Q : VK) (E : XK), Room k (A.deeper (PyProof.Rows.envOfC x (defScope st) s.heap.objs.size f (.ref c))) → sp vs H Q E →
      ∃ t, PSs (cxOf (L2.CX P w) P w K mg base N x (defScope st) f (.ref c) A outer s H E) (defBody st) t ∧ t { nx := fun _ H' => Q .non H', rt := Q } (start N vs) H) : FnOk P w K mg base (L2.CX P w) (k + 1) f fd ps sp := by
  obtain ⟨oc, od, kV, doc, pm, an, ct, osl, e, lk, hcd⟩ := F.ex
  subst e
  exact fn_of lk hcd S len fun A outer s H vs Q E hr hsp => hb A outer s H vs Q E hr hsp
end
theorem genS_of {env : Env} {sc : Scope} {x : Str} (a : sc.kind = .function) (b : sc.isCoroutine = false) (c : ∀ y ∈ sc.names, y.2 ≠ .cell) (d : sc.names.lookup (".0" : Str) = some NameKind.local) (e : sc.names.lookup x = some .local)
    (n : ∀ y ∈ sc.names, y.2 ≠ .free) : GxR.GenS env sc x := ⟨a, b, c, d, e, fun y hy z => absurd z (n y hy)⟩
/-! ### primitives -/
abbrev sRck : Stmt := top 17
abbrev big60 : Int := 10 ^ 60
def opF (p : Str) (l r : Int) : Int := if p = "+" then l + r else if p = "-" then l - r else l * r
def reckF (p : Str) (l r : Int) : Except (List Str) Int :=
  if p = "<" then .ok (if l < r then 1 else 0) else if p = "=" then .ok (if l = r then 1 else 0) else if (if opF p l r < 0 then -(opF p l r) else opF p l r) > big60 then .error ["error", "size"] else .ok (opF p l r)
theorem reckF_le {p : Str} {l r z : Int} (h : reckF p l r = .ok z) : z.natAbs ≤ 10 ^ 60 := by
  unfold reckF at h
  have b60 : (big60 : Int) = ((10 ^ 60 : Nat) : Int) := by decide +kernel
  split at h
  · cases h
    split <;> decide +kernel
  split at h
  · cases h
    split <;> decide +kernel
  generalize opF p l r = o at h
  by_cases c : (if o < 0 then -o else o) > big60
  · rw [if_pos c] at h; cases h
  · rw [if_neg c] at h
    cases h
    rw [b60] at c
    generalize (10 ^ 60 : Nat) = B at c ⊢
    split at c <;> omega
def spRck (En : Addr) : Sp := fun vs H Q E => ∃ (p : Str) (l r : Int), vs = [.str p, .int l, .int r] ∧ l.natAbs ≤ 10 ^ 60 ∧ r.natAbs ≤ 10 ^ 60 ∧
  (∀ z, reckF p l r = .ok z → Q (.int z) H) ∧ (∀ ws, reckF p l r = .error ws → erX No En ws H E)
abbrev sPrm : Stmt := top 18
def primF (p : Str) (ys : List Vl) : Except (List Str) Vl :=
  if p = "pair" then (match ys with | [x, y] => .ok (.pair x y) | _ => .error []) else if p = "first" ∨ p = "second" then (match ys with | [x] => halF p x | _ => .error []) else
  if ys.all isI = true then (match ys with | [.int l, .int r] => (match reckF p l r with | .ok z => .ok (.int z) | .error ws => .error ws) | _ => .error []) else .error ["error", "kind"]
def spPrm (C : Cs) (En P1 : Addr) : Sp := fun vs H Q E => ∃ (X : Addr → Prop) (p : Str) (a : Addr) (xs : List V) (ys : List Vl), vs = [.str p, .ref a] ∧ H a = some (.lst xs) ∧ RVs C X H xs ys ∧ (ys.length : Int) = arP p ∧ TabG H P1 ∧ (∀ b, X b → H b ≠ none) ∧
  (∀ y, primF p ys = .ok y → ∀ u H', Fr No H H' → RV C X H' u y → Q u H') ∧ (∀ ws, primF p ys = .error ws → erX No En ws H E)
theorem mk_fr {X : Addr → Prop} {H : Hp} {x dx : Addr} {o : HO} (hx : H x = none) (hd : H dx = none) (ne : dx ≠ x) : Fr X H (upd (upd H dx (.own x)) x o) :=
  (Fr.new hd).trans (Fr.new (by rw [upd_ne (Ne.symm ne)]; exact hx))
section
variable {P : Program} {w : World} {K : PySem.W.Frag} {mg : Str → Option Value} {base : Heap}
theorem scRck : FnScope ["name", "left", "right", "result"] ["name", "left", "right"] (defScope sRck) := ⟨rfl, rfl, rfl, by decide +kernel, rfl, by decide +kernel, by decide +kernel⟩
theorem ok_rck {f En fE : Addr} {fd dE : FuncData} (F : Fun K "reckon" "reckon" sRck f fd) (B : Blt mg) (gG : ∃ t, mg "GREATEST_RESULT" = some (.int big60 t)) (XE : ErrO P w K mg base En fE dE) : FnOk P w K mg base (L2.CX P w) 3 f fd ["name", "left", "right"] (spRck En) := by
  refine F.okX scRck (fun vs H Q E h => ?_) (fun cdv A outer s H vs Q E hr h => ?_)
  · obtain ⟨p, l, r, rfl, _⟩ := h
    rfl
  obtain ⟨p, l, r, rfl, hl, hrr, q, qe⟩ := h
  have nd := scRck.nd
  obtain ⟨tG, gG⟩ := gG
  refine ⟨_, (pss_cons (ps_if (pt_cmpR op_eq (pv 0) pe_str (nomark _)) (pss_one (ps_ret (pe_ifExp (pt_cmpR op_lt (pv 1) (pv 2) (nomark _)) pe_int pe_int))) pss_nil)
    (pss_cons (ps_if (pt_cmpR op_eq (pv 0) pe_str (nomark _)) (pss_one (ps_ret (pe_ifExp (pt_cmpR op_eq (pv 1) (pv 2) (nomark _)) pe_int pe_int))) pss_nil)
    (C8.pss_cut (ps_if (pt_cmpR op_eq (pv 0) pe_str (nomark _)) (pss_one (ps_set (i := 3) nd rfl (Or.inl rfl) (pe_op op_add (pv 1) (pv 2)))) (pss_one (ps_if (pt_cmpR op_eq (pv 0) pe_str (nomark _)) (pss_one (ps_set (i := 3) nd rfl (Or.inl rfl) (pe_op op_sub (pv 1) (pv 2)))) (pss_one (ps_set (i := 3) nd rfl (Or.inl rfl) (pe_op op_mulW (pv 1) (pv 2)))))))
    (pss_cons (ps_if (pt_cmpR op_gt (pe_callB call_abs (by rfl) B.abs (by decide +kernel) (pa_cons (pv 3) pa_nil)) (pe_glob (v := .int big60) rfl gG ⟨_, rfl⟩) (nomark _)) (pss_one (ps_raise rfl (takes_of rfl rfl rfl rfl) (pmk_oex XE.o XE.iC XE.tI XE.f hr XE.b .nil pass0 rfl XE.g (pa_cons (pe_tup (pa_cons pe_str (pa_cons pe_str pa_nil))) pa_nil)))) pss_nil)
    (pss_one (ps_ret (pv 3))))))), ?_⟩
  unfold reckF at q qe
  refine ⟨_, rfl, rfl, _, rfl, ?_⟩
  refine ite2 (fun c => ?_) (fun c => ?_)
  · rw [if_pos (v_str c)] at q
    refine ⟨_, rfl, _, rfl, _, _, rfl, rfl, _, rfl, ?_⟩
    exact ite2 (fun d => q _ (by rw [if_pos (of_decide_eq_true d)])) (fun d => q _ (by rw [if_neg (fun z => d (decide_eq_true z))]))
  have c1 : ¬ p = "<" := fun z => c (decide_eq_true (congrArg V.str z))
  rw [if_neg c1] at q qe
  refine ⟨_, rfl, rfl, _, rfl, ?_⟩
  refine ite2 (fun c => ?_) (fun c => ?_)
  · rw [if_pos (v_str c)] at q
    refine ⟨_, rfl, _, rfl, rfl, _, rfl, ?_⟩
    exact ite2 (fun d => q _ (by rw [if_pos (v_int d)])) (fun d => q _ (by rw [if_neg (fun z => d (decide_eq_true (congrArg V.int z)))]))
  have c2 : ¬ p = "=" := fun z => c (decide_eq_true (congrArg V.str z))
  rw [if_neg c2] at q qe
  refine ⟨fun σ H' => σ = [some (.str p), some (.int l), some (.int r), some (.int (opF p l r))] ∧ H' = H, ?_, ?_⟩
  · refine ⟨_, rfl, rfl, _, rfl, ?_⟩
    refine ite2 (fun c => ?_) (fun c => ?_)
    · have e := v_str c
      refine ⟨_, rfl, _, rfl, _, _, rfl, rfl, ?_, rfl⟩
      unfold opF
      rw [if_pos e]
      rfl
    have c3 : ¬ p = "+" := fun z => c (decide_eq_true (congrArg V.str z))
    refine ⟨_, rfl, rfl, _, rfl, ?_⟩
    refine ite2 (fun c => ?_) (fun c => ?_)
    · have e := v_str c
      refine ⟨_, rfl, _, rfl, _, _, rfl, rfl, ?_, rfl⟩
      unfold opF
      rw [if_neg c3, if_pos e]
      rfl
    have c4 : ¬ p = "-" := fun z => c (decide_eq_true (congrArg V.str z))
    have b200 : ∀ {n : Nat}, n ≤ 10 ^ 60 → n < 2 ^ 200 := fun {n} h => Nat.lt_of_le_of_lt h (by decide +kernel)
    refine ⟨_, rfl, _, rfl, _, _, rfl, rfl, wide_mul (b200 hl) (b200 hrr) (by decide) (by decide) (by decide), ?_, rfl⟩
    unfold opF
    rw [if_neg c3, if_neg c4]
    rfl
  rintro σ H' ⟨rfl, rfl⟩
  refine ⟨_, rfl, _, rfl, _, _, rfl, rfl, _, rfl, ?_⟩
  refine ite2 (fun c => ?_) (fun c => ?_)
  · have c5 := of_decide_eq_true c
    exact mkO_2 (qe _ (if_pos c5))
  · exact ⟨_, rfl, q _ (if_neg fun z => c (decide_eq_true z))⟩
theorem scPrm : FnScope ["name", "parts"] ["name", "parts"] (defScope sPrm) := ⟨rfl, rfl, rfl, by decide +kernel, rfl, by decide +kernel, by decide +kernel⟩
theorem ok_prm {f c fH fR fP fE P1 En : Addr} {C : Cs} {fd dH dR dP dE : FuncData} (F : FunC K "call_primitive" sPrm f fd c) (B : Blt mg) (VC : ValC K mg C) (XE : ErrO P w K mg base En fE dE) (MP : MkC P w K mg base 1 "Pair" ["self", "first", "second"] (spIni C.pa 2 (two "first" "second")) C.pa fP dP)
    (GH : Cal P w K mg base (L2.CX P w) 3 "half" ["name", "value"] (spHal C En) fH dH) (GR : Cal P w K mg base (L2.CX P w) 3 "reckon" ["name", "left", "right"] (spRck En) fR dR) (TB : TabB base mg c P1) : FnOk P w K mg base (L2.CX P w) 4 f fd ["name", "parts"] (spPrm C En P1) := by
  refine F.okX scPrm (fun vs H Q E h => ?_) (fun A outer s H vs Q E hr h => ?_)
  · obtain ⟨X, p, a, xs, ys, rfl, _⟩ := h
    rfl
  obtain ⟨X, p, a, xs, ys, rfl, ha, rs, ly, tg, hX, q, qe⟩ := h
  have nd := scPrm.nd
  have r2 := hr.mono (show 2 ≤ 3 by decide)
  refine ⟨_, (pss_cons (ps_if (pt_cmpR op_eq (pv 0) pe_str (nomark _)) (pss_one (ps_ret (pe_make (E := fun _ _ _ => False) MP.m MP.ok r2 rfl MP.g MP.b .nil pass0 (pa_cons (pe_ix (r := rIxL K) ix_list (pv 1) pe_int (fun _ _ => rfl)) (pa_cons (pe_ix (r := rIxL K) ix_list (pv 1) pe_int (fun _ _ => rfl)) pa_nil))))) pss_nil)
    (pss_cons (ps_if (pt_cmpR op_in_seq (pv 0) (pe_tup (pa_cons pe_str (pa_cons pe_str pa_nil))) (by rfl)) (pss_one (ps_ret (pe_call GH.ok hr rfl GH.g GH.k GH.b .nil (passes_call (takes_of rfl rfl rfl rfl) fun _ _ _ _ h => h) (pa_cons (pv 0) (pa_cons (pe_ix (r := rIxL K) ix_list (pv 1) pe_int (fun _ _ => rfl)) pa_nil))))) pss_nil)
    (pss_cons (ps_if (pt_not (pt_val (pe_allI (P := P1) (G0 := fun _ _ => True) hr rfl B.all (by decide +kernel) TB rfl (genS_of rfl rfl (by decide +kernel) rfl rfl (by decide +kernel)) (pv 1) (fun σ pins s1 H1 J _ tg => elt_int J tg B.isinstance B.int rfl rfl rfl rfl) (fun _ => rfl)))) (pss_one (ps_raise rfl (takes_of rfl rfl rfl rfl) (pmk_oex XE.o XE.iC XE.tI XE.f r2 XE.b .nil pass0 rfl XE.g (pa_cons (pe_tup (pa_cons pe_str (pa_cons pe_str pa_nil))) pa_nil)))) pss_nil)
    (pss_one (ps_ret (pe_call GR.ok hr rfl GR.g GR.k GR.b .nil (passes_call (takes_of rfl rfl rfl rfl) fun _ _ _ _ h => h) (pa_cons (pv 0) (pa_cons (pe_ix (r := rIxL K) ix_list (pv 1) pe_int (fun _ _ => rfl)) (pa_cons (pe_ix (r := rIxL K) ix_list (pv 1) pe_int (fun _ _ => rfl)) pa_nil))))))))), ?_⟩
  unfold primF at q qe
  have ein : inV (.str p) [.str "first", .str "second"] = decide (p ∈ (["first", "second"] : List Str)) := inV_strs p ["first", "second"]
  refine ⟨_, rfl, rfl, _, rfl, ?_⟩
  refine ite2 (fun c => ?_) (fun c => ?_)
  · have e := v_str c
    rw [if_pos e] at q qe
    have l2 : ys.length = 2 := by
      have : arP p = 2 := by rw [e]; rfl
      omega
    match ys, l2, rs with
    | [y1, y2], _, .cons (v := x1) r1 (.cons (v := x2) r2' .nil) =>
    refine ⟨_, rfl, a, _, 0, _, rfl, rfl, SqL.of ha, rfl, ?_⟩
    refine ⟨_, rfl, a, _, 1, _, rfl, rfl, SqL.of ha, rfl, ?_⟩
    refine fun x dx hx hd ne => ⟨x, dx, _, rfl, rfl, upd_same, rfl, ?_⟩
    rw [upd_upd]
    exact q _ rfl _ _ (mk_fr hx hd ne) (.pair upd_same (fun z => hX x z hx) (r1.fr (mk_fr hx hd ne)) (r2'.fr (mk_fr hx hd ne)))
  have c1 : ¬ p = "pair" := fun z => c (decide_eq_true (congrArg V.str z))
  rw [if_neg c1] at q qe
  refine ⟨_, rfl, by show 2 ≤ sizeLine; decide, fun t ht => ?_⟩
  refine ⟨t, _, rfl, .inr (SqT.of upd_same), rfl, rfl, _, rfl, ?_⟩
  have f : Fr No H (upd H t (.tup [.str "first", .str "second"])) := Fr.new ht
  have ha1 : (upd H t (.tup [.str "first", .str "second"])) a = some (.lst xs) := by rw [upd_ne (ne_of_none ha ht)]; exact ha
  have tg1 := f.sm.tab _ tg
  have rs1 := rs.fr f.no
  rw [if_neg Bool.false_ne_true, ein]
  generalize upd H t (.tup [.str "first", .str "second"]) = H1 at f ha1 tg1 rs1 ⊢
  refine ite2 (fun c => ?_) (fun c => ?_)
  · have m : p = "first" ∨ p = "second" := by simpa using of_decide_eq_true c
    rw [if_pos m] at q qe
    have l1 : ys.length = 1 := by
      have : arP p = 1 := by unfold arP; rw [if_pos m]
      omega
    match ys, l1, rs1 with
    | [y1], _, .cons (v := x1) r1 .nil =>
    refine ⟨_, rfl, _, rfl, a, _, 0, _, rfl, rfl, SqL.of ha1, rfl, ?_⟩
    refine ⟨X, p, x1, y1, rfl, r1, fun y e u ru => q y e u H1 f ru, fun ws e => (qe ws e).fr f⟩
  have m : ¬ (p = "first" ∨ p = "second") := fun z => c (decide_eq_true (by simpa using z))
  rw [if_neg m] at q qe
  have kis : KIs K H1 xs (ys.map isI) := by
    refine ⟨by rw [List.length_map, rs1.len], fun i v hv => ?_⟩
    obtain ⟨x, hx, rx⟩ := rs1.get hv
    refine ⟨isI x, by rw [List.getElem?_map, hx]; rfl, ?_⟩
    cases rx with
    | int i _ => exact .inl ⟨i, rfl, rfl⟩
    | pair h => exact .inr ⟨_, _, _, _, rfl, h, VC.fp.c, VC.ip, VC.O, VC.kpi, rfl⟩
    | prim h => exact .inr ⟨_, _, _, _, rfl, h, VC.fr.c, VC.ir, VC.O, VC.kri, rfl⟩
    | fnP h => exact .inr ⟨_, _, _, _, rfl, h, VC.ff.c, VC.if_, VC.O, VC.kfi, rfl⟩
    | fnM h => exact .inr ⟨_, _, _, _, rfl, h, VC.ff.c, VC.if_, VC.O, VC.kfi, rfl⟩
  refine ⟨_, rfl, a, xs, _, rfl, ha1, kis, tg1, True.intro, fun H2 tb => ?_⟩
  have f2 : Fr No H1 H2 := ⟨Sm.tabbed tg1 tb, fun b zs e => by
    obtain ⟨ps, tP, _⟩ := tg1
    rw [tb.2 b (fun z => by rw [z, tP] at e; cases e)]
    exact e⟩
  have ff := f.trans f2
  have nXa : H2 a = some (.lst xs) := by
    obtain ⟨ps, tP, _⟩ := tg1
    rw [tb.2 a (fun z => by rw [z, tP] at ha1; cases ha1)]
    exact ha1
  refine ⟨ys.all isI, congrArg V.bl (by show (ys.map isI).all id = ys.all isI; rw [List.all_map]; rfl), ?_⟩
  cases ca : ys.all isI with
  | false =>
    rw [ca, if_neg Bool.false_ne_true] at qe
    exact iteT (mkO_2 ((qe _ rfl).fr ff))
  | true =>
    rw [ca, if_pos rfl] at q qe
    refine iteF ?_
    have l2 : ys.length = 2 := by
      have : arP p = 2 := by unfold arP; rw [if_neg m]
      omega
    have rs2 := rs1.fr f2.no
    match ys, l2, ca, rs2 with
    | [.int l, .int r], _, _, .cons (.int _ hl) (.cons (.int _ hr') .nil) =>
    refine ⟨_, rfl, _, rfl, a, _, 0, _, rfl, rfl, SqL.of nXa, rfl, ?_⟩
    refine ⟨_, rfl, a, _, 1, _, rfl, rfl, SqL.of nXa, rfl, ?_⟩
    refine ⟨p, l, r, rfl, hl, hr', fun z e => ?_, fun ws e => ?_⟩
    · refine q (.int z) (by simp only [e]) _ H2 ff (.int z (reckF_le e))
    · exact (qe ws (by simp only [e])).fr ff
end
end My
namespace My
open PySem PySem.Spec PyProof.Rows L2 TL
abbrev sBn : Stmt := top 36
abbrev NBn : List Str := ["core", "number", "part"]
/-! which tree it is, by its word -/
theorem word_int {t : Tr} (h : word t = "int") : ∃ i, t = .int i := by
  cases t with
  | int i => exact ⟨i, rfl⟩
  | loc n => exact absurd (show ("local" : Str) = "int" from h) (by decide +kernel)
  | glob m x => exact absurd (show ("global" : Str) = "int" from h) (by decide +kernel)
  | prim p => exact absurd (show ("prim" : Str) = "int" from h) (by decide +kernel)
  | fn ns b => exact absurd (show ("fn" : Str) = "int" from h) (by decide +kernel)
  | let_ ns ts b => exact absurd (show ("let" : Str) = "int" from h) (by decide +kernel)
  | if_ a b c => exact absurd (show ("if" : Str) = "int" from h) (by decide +kernel)
  | call f ts => exact absurd (show ("call" : Str) = "int" from h) (by decide +kernel)
theorem word_local {t : Tr} (h : word t = "local") : ∃ n, t = .loc n := by
  cases t with
  | int i => exact absurd (show ("int" : Str) = "local" from h) (by decide +kernel)
  | loc n => exact ⟨n, rfl⟩
  | glob m x => exact absurd (show ("global" : Str) = "local" from h) (by decide +kernel)
  | prim p => exact absurd (show ("prim" : Str) = "local" from h) (by decide +kernel)
  | fn ns b => exact absurd (show ("fn" : Str) = "local" from h) (by decide +kernel)
  | let_ ns ts b => exact absurd (show ("let" : Str) = "local" from h) (by decide +kernel)
  | if_ a b c => exact absurd (show ("if" : Str) = "local" from h) (by decide +kernel)
  | call f ts => exact absurd (show ("call" : Str) = "local" from h) (by decide +kernel)
theorem word_global {t : Tr} (h : word t = "global") : ∃ m x, t = .glob m x := by
  cases t with
  | int i => exact absurd (show ("int" : Str) = "global" from h) (by decide +kernel)
  | loc n => exact absurd (show ("local" : Str) = "global" from h) (by decide +kernel)
  | glob m x => exact ⟨m, x, rfl⟩
  | prim p => exact absurd (show ("prim" : Str) = "global" from h) (by decide +kernel)
  | fn ns b => exact absurd (show ("fn" : Str) = "global" from h) (by decide +kernel)
  | let_ ns ts b => exact absurd (show ("let" : Str) = "global" from h) (by decide +kernel)
  | if_ a b c => exact absurd (show ("if" : Str) = "global" from h) (by decide +kernel)
  | call f ts => exact absurd (show ("call" : Str) = "global" from h) (by decide +kernel)
theorem word_prim {t : Tr} (h : word t = "prim") : ∃ p, t = .prim p := by
  cases t with
  | int i => exact absurd (show ("int" : Str) = "prim" from h) (by decide +kernel)
  | loc n => exact absurd (show ("local" : Str) = "prim" from h) (by decide +kernel)
  | glob m x => exact absurd (show ("global" : Str) = "prim" from h) (by decide +kernel)
  | prim p => exact ⟨p, rfl⟩
  | fn ns b => exact absurd (show ("fn" : Str) = "prim" from h) (by decide +kernel)
  | let_ ns ts b => exact absurd (show ("let" : Str) = "prim" from h) (by decide +kernel)
  | if_ a b c => exact absurd (show ("if" : Str) = "prim" from h) (by decide +kernel)
  | call f ts => exact absurd (show ("call" : Str) = "prim" from h) (by decide +kernel)
theorem word_fn {t : Tr} (h : word t = "fn") : ∃ ns b, t = .fn ns b := by
  cases t with
  | int i => exact absurd (show ("int" : Str) = "fn" from h) (by decide +kernel)
  | loc n => exact absurd (show ("local" : Str) = "fn" from h) (by decide +kernel)
  | glob m x => exact absurd (show ("global" : Str) = "fn" from h) (by decide +kernel)
  | prim p => exact absurd (show ("prim" : Str) = "fn" from h) (by decide +kernel)
  | fn ns b => exact ⟨ns, b, rfl⟩
  | let_ ns ts b => exact absurd (show ("let" : Str) = "fn" from h) (by decide +kernel)
  | if_ a b c => exact absurd (show ("if" : Str) = "fn" from h) (by decide +kernel)
  | call f ts => exact absurd (show ("call" : Str) = "fn" from h) (by decide +kernel)
theorem word_let {t : Tr} (h : word t = "let") : ∃ ns ts b, t = .let_ ns ts b := by
  cases t with
  | int i => exact absurd (show ("int" : Str) = "let" from h) (by decide +kernel)
  | loc n => exact absurd (show ("local" : Str) = "let" from h) (by decide +kernel)
  | glob m x => exact absurd (show ("global" : Str) = "let" from h) (by decide +kernel)
  | prim p => exact absurd (show ("prim" : Str) = "let" from h) (by decide +kernel)
  | fn ns b => exact absurd (show ("fn" : Str) = "let" from h) (by decide +kernel)
  | let_ ns ts b => exact ⟨ns, ts, b, rfl⟩
  | if_ a b c => exact absurd (show ("if" : Str) = "let" from h) (by decide +kernel)
  | call f ts => exact absurd (show ("call" : Str) = "let" from h) (by decide +kernel)
theorem word_if {t : Tr} (h : word t = "if") : ∃ a b c, t = .if_ a b c := by
  cases t with
  | int i => exact absurd (show ("int" : Str) = "if" from h) (by decide +kernel)
  | loc n => exact absurd (show ("local" : Str) = "if" from h) (by decide +kernel)
  | glob m x => exact absurd (show ("global" : Str) = "if" from h) (by decide +kernel)
  | prim p => exact absurd (show ("prim" : Str) = "if" from h) (by decide +kernel)
  | fn ns b => exact absurd (show ("fn" : Str) = "if" from h) (by decide +kernel)
  | let_ ns ts b => exact absurd (show ("let" : Str) = "if" from h) (by decide +kernel)
  | if_ a b c => exact ⟨a, b, c, rfl⟩
  | call f ts => exact absurd (show ("call" : Str) = "if" from h) (by decide +kernel)
theorem word_call {t : Tr} (h : word t = "call") : ∃ f ts, t = .call f ts := by
  cases t with
  | int i => exact absurd (show ("int" : Str) = "call" from h) (by decide +kernel)
  | loc n => exact absurd (show ("local" : Str) = "call" from h) (by decide +kernel)
  | glob m x => exact absurd (show ("global" : Str) = "call" from h) (by decide +kernel)
  | prim p => exact absurd (show ("prim" : Str) = "call" from h) (by decide +kernel)
  | fn ns b => exact absurd (show ("fn" : Str) = "call" from h) (by decide +kernel)
  | let_ ns ts b => exact absurd (show ("let" : Str) = "call" from h) (by decide +kernel)
  | if_ a b c => exact absurd (show ("if" : Str) = "call" from h) (by decide +kernel)
  | call f ts => exact ⟨f, ts, rfl⟩
theorem bnd_nil {t : Tr} (h1 : word t ≠ "fn") (h2 : word t ≠ "let") : bnd t = [] := by
  cases t with
  | fn ns b => exact absurd rfl h1
  | let_ ns ts b => exact absurd rfl h2
  | _ => rfl
theorem ev_head {K : PySem.W.Frag} {σ : L2.St} {H : Hp} {i : Nat} {v : V} {t : Tr} {w : Str} {Q : Bool → Hp → Prop} (h : σ[i]? = some (some v)) (r : RT H v t) (q : Q (decide (word t = w)) H) : tTest (tOp rEq (tOp (rIxT K) (tVar i) (tC (.int 0))) (tC (.str w))) σ H Q := by
  obtain ⟨a, xs, rfl, ha, _⟩ := r.head
  refine ⟨_, h, a, _, 0, _, rfl, rfl, SqT.of ha, at0 _ _, rfl, _, rfl, ?_⟩
  have e : decide (V.str (word t) = V.str w) = decide (word t = w) := decide_eq_decide.mpr ⟨fun z => V.str.inj z, fun z => by rw [z]⟩
  rw [e]
  exact q
theorem ev_eqs {σ : L2.St} {H : Hp} {i : Nat} {x w : Str} {Q : Bool → Hp → Prop} (h : σ[i]? = some (some (.str x))) (q : Q (decide (x = w)) H) : tTest (tOp rEq (tVar i) (tC (.str w))) σ H Q := by
  refine ⟨_, h, rfl, _, rfl, ?_⟩
  have e : decide (V.str x = V.str w) = decide (x = w) := decide_eq_decide.mpr ⟨fun z => V.str.inj z, fun z => by rw [z]⟩
  rw [e]
  exact q
theorem inV_ints (x : Int) : ∀ l : List Int, inV (.int x) (l.map V.int) = decide (x ∈ l)
  | [] => rfl
  | y :: r => by
    have ih := inV_ints x r
    unfold inV at ih ⊢
    rw [List.map_cons, List.any_cons, ih]
    show (decide (y = x) || decide (x ∈ r)) = _
    by_cases h : y = x
    · rw [decide_eq_true h, Bool.true_or, decide_eq_true (by rw [h]; exact List.mem_cons_self)]
    · rw [decide_eq_false h, Bool.false_or]
      exact decide_eq_decide.mpr ⟨fun z => List.mem_cons_of_mem _ z, fun z => (List.mem_cons.mp z).resolve_left fun e => h e.symm⟩
theorem flat_map {α : Type} (f : α → V) (h : ∀ a, flatV (f a) = true) (l : List α) : (l.map f).all flatV = true := by
  rw [List.all_map, List.all_eq_true]
  exact fun a _ => h a
theorem bnd_len {t : Tr} (h : widT t) : (bnd t).length ≤ 1000 := by
  cases t with
  | fn ns b => unfold widT at h; exact h.1
  | let_ ns ts b => unfold widT at h; exact h.1
  | _ => exact Nat.zero_le _
def spBn : Sp := fun vs H Q _ => ∃ (v : V) (t : Tr), vs = [v] ∧ RT H v t ∧ widT t ∧ ∀ L H', H L = none → H' L = some (.lst ((bnd t).map V.int)) → Sm No H H' → Q (.ref L) H'
section
variable {P : Program} {w : World} {K : PySem.W.Frag} {mg : Str → Option Value} {base : Heap}
theorem scBn : FnScope NBn ["core"] (defScope sBn) := ⟨rfl, rfl, rfl, by decide +kernel, rfl, by decide +kernel, by decide +kernel⟩
theorem ok_bn {f : Addr} {fd : FuncData} (F : Fun K "bound_numbers" "bound_numbers" sBn f fd) (B : Blt mg) : FnOk P w K mg base CX0 1 f fd ["core"] spBn := by
  refine F.ok scBn (fun vs H Q E h => ?_) (fun cdv A outer s H vs Q E hr h => ?_)
  · obtain ⟨v, t, rfl, _⟩ := h
    rfl
  obtain ⟨v, t, rfl, rt, wt, q⟩ := h
  have nd := scBn.nd
  refine ⟨_, (pss_cons (ps_if (pt_cmpR op_eq (pe_ix (r := rIxT K) ix_tup (pv 0) pe_int (fun _ _ => rfl)) pe_str (nomark _)) (pss_one (ps_ret (pe_callTy call_list_of (by rfl) B.list (by decide +kernel) (pa_cons (pe_ix (r := rIxT K) ix_tup (pv 0) pe_int (fun _ _ => rfl)) pa_nil)))) pss_nil)
    (pss_cons (ps_if (pt_cmpR op_eq (pe_ix (r := rIxT K) ix_tup (pv 0) pe_int (fun _ _ => rfl)) pe_str (nomark _)) (pss_one (ps_ret (pe_lc (own := [("number", 1), ("part", 2)]) (g := gTup K 2 (gCons (gName 1) (gCons (gName 2) gNil))) (tt := tYes) rfl nd (pi_tup (pe_ix (r := rIxT K) ix_tup (pv 0) pe_int (fun _ _ => rfl))) (blkOk_by (N := NBn) (sc := defScope sBn) (by decide +kernel)) (fun _ _ _ _ _ => (pg_tup rfl (pgs_cons (pg_name (i := 1) nd rfl (Or.inl rfl) (hf := Or.inr rfl)) (pgs_cons (pg_name (i := 2) nd rfl (Or.inl rfl) (hf := Or.inr rfl)) pgs_nil)))) (fun _ _ _ _ _ => pts_nil) (fun _ _ _ _ _ => (pv 1))))) pss_nil)
    (pss_one (ps_ret (pe_lst pa_nil))))), ?_⟩
  refine ev_head rfl rt ?_
  refine ite2 (fun c => ?_) (fun c => ?_)
  · obtain ⟨ns, b, rfl⟩ := word_fn (of_decide_eq_true c)
    cases rt with
    | @fn a p x _ _ ha hp rb =>
    refine ⟨_, rfl, a, _, 1, _, rfl, rfl, SqT.of ha, at1 _ _ _, p, _, rfl, .inr (SqT.of hp), fun L hL => ?_⟩
    exact q L _ hL upd_same (Sm.new hL)
  · refine ev_head rfl rt ?_
    refine ite2 (fun c2 => ?_) (fun c2 => ?_)
    · obtain ⟨ns, ts, b, rfl⟩ := word_let (of_decide_eq_true c2)
      cases rt with
      | @let_ a p x vs _ _ _ ha hp rp rb =>
      have ⟨l1, l2⟩ := rp.len
      unfold widT at wt
      refine ⟨_, rfl, a, _, 1, _, rfl, rfl, SqT.of ha, at1 _ _ _, p, rfl, ⟨_, SqT.of hp⟩, fun D hD => ?_⟩
      refine lc_tup (xs := vs) (fun i H' => H' D = some (.lst ((ns.take i).map V.int)) ∧ Sm No H H') ⟨upd_same, Sm.new hD⟩ (fun i H' _ h => SqT.of (h.2.kpT _ _ hp)) ?_ ?_
      · rintro i y H' hi ⟨h1, h2⟩
        obtain ⟨e, x1, n, t1, rfl, he, hn, ht1, _⟩ := rp.get hi
        have he' := h2.kpT _ _ he
        have il : i < ns.length := (List.getElem?_eq_some_iff.mp hn).1
        refine ⟨e, _, rfl, SqT.of he', rfl, _, _, rfl, ?_⟩
        refine ⟨_, _, rfl, rfl, rfl, ?_⟩
        refine ⟨_, rfl, _, h1, ?_, ?_, h2.mut hD (ntbl_l h1)⟩
        · rw [List.length_map, List.length_take]
          exact line_of (by omega)
        · rw [upd_same, take_more hn, List.map_append]; rfl
      · rintro H' ⟨h1, h2⟩
        rw [l1, List.take_length] at h1
        exact q D H' hD h1 h2
    · refine ⟨by show 0 ≤ sizeLine; decide, fun L hL => ?_⟩
      refine q L _ hL ?_ (Sm.new hL)
      rw [bnd_nil (fun z => c (decide_eq_true z)) (fun z => c2 (decide_eq_true z)), upd_same]
      rfl
end
end My
namespace My
open PySem PySem.Spec PyProof.Rows L2 TL
/-- a dict of variables that are known: kn; no more than M -/
def DK (H : Hp) (d : Addr) (kn : List Int) (M : Nat) : Prop := ∃ kvs : List (Key × V), H d = some (.dK kvs) ∧ kvs.length ≤ M ∧ ∀ n : Int, (valV kvs (Sum.inl n)).isSome = decide (n ∈ kn)
theorem DK.sm {H H' : Hp} {d : Addr} {kn : List Int} {M : Nat} (h : DK H d kn M) (s : Sm No H H') : DK H' d kn M := by
  obtain ⟨kvs, h1, h2, h3⟩ := h
  exact ⟨kvs, s.keep _ _ (fun z => z) rfl h1, h2, h3⟩
theorem DK.wide {H : Hp} {d : Addr} {kn : List Int} {M N : Nat} (h : DK H d kn M) (l : M ≤ N) : DK H d kn N := by
  obtain ⟨kvs, h1, h2, h3⟩ := h
  exact ⟨kvs, h1, Nat.le_trans h2 l, h3⟩
theorem merge_mem (n : Int) : ∀ (ls ks : List (Key × V)), (valV (mergeK ks ls) (Sum.inl n)).isSome = ((valV ks (Sum.inl n)).isSome || (valV ls (Sum.inl n)).isSome)
  | [], ks => by show (valV ks _).isSome = _; rw [valV_nil]; simp
  | p :: r, ks => by
    show (valV (mergeK (putK ks p.1 p.2) r) (Sum.inl n)).isSome = _
    rw [merge_mem n r, valV_put]
    by_cases h : (Sum.inl n : Key) = p.1
    · rw [if_pos h, valV_pos h.symm]
      simp
    · rw [if_neg h, valV_neg fun z => h z.symm]
theorem put_mem (n k : Int) (v : V) (ks : List (Key × V)) (kn : List Int) (h : ∀ m : Int, (valV ks (Sum.inl m)).isSome = decide (m ∈ kn)) : (valV (putK ks (Sum.inl k) v) (Sum.inl n)).isSome = decide (n ∈ kn ++ [k]) := by
  rw [valV_put]
  by_cases e : (Sum.inl n : Key) = Sum.inl k
  · rw [if_pos e]
    have e2 : n = k := Sum.inl.inj e
    rw [e2]
    exact (decide_eq_true (List.mem_append_right _ (List.mem_singleton.mpr rfl))).symm
  · rw [if_neg e, h]
    refine decide_eq_decide.mpr ⟨fun z => List.mem_append_left _ z, fun z => ?_⟩
    rcases List.mem_append.mp z with z | z
    · exact z
    · exact absurd (congrArg Sum.inl (List.mem_singleton.mp z)) e
/-- one part with its dict -/
def PairR (N : Addr → Prop) (H : Hp) (M : Nat) (v : V) (p : Tr × List Int) : Prop := ∃ q x d, v = .ref q ∧ H q = some (.tup [x, .ref d]) ∧ RT H x p.1 ∧ DK H d p.2 M ∧ N d
inductive PairsR (N : Addr → Prop) (H : Hp) (M : Nat) : List V → List (Tr × List Int) → Prop
  | nil : PairsR N H M [] []
  | cons {v : V} {p : Tr × List Int} {vs : List V} {ps : List (Tr × List Int)} (h : PairR N H M v p) (r : PairsR N H M vs ps) : PairsR N H M (v :: vs) (p :: ps)
theorem PairR.sm {N : Addr → Prop} {H H' : Hp} {M : Nat} {v : V} {p : Tr × List Int} (h : PairR N H M v p) (s : Sm No H H') : PairR N H' M v p := by
  obtain ⟨q, x, d, h1, h2, h3, h4, h5⟩ := h
  exact ⟨q, x, d, h1, s.kpT _ _ h2, h3.keep s.kpT, h4.sm s, h5⟩
theorem PairR.wide {N : Addr → Prop} {H : Hp} {M M2 : Nat} {v : V} {p : Tr × List Int} (h : PairR N H M v p) (l : M ≤ M2) : PairR N H M2 v p := by
  obtain ⟨q, x, d, h1, h2, h3, h4, h5⟩ := h
  exact ⟨q, x, d, h1, h2, h3, h4.wide l, h5⟩
theorem PairsR.sm {N : Addr → Prop} {H H' : Hp} {M : Nat} (s : Sm No H H') : ∀ {vs : List V} {ps : List (Tr × List Int)}, PairsR N H M vs ps → PairsR N H' M vs ps
  | _, _, .nil => .nil
  | _, _, .cons h r => .cons (h.sm s) (PairsR.sm s r)
theorem PairsR.wide {N : Addr → Prop} {H : Hp} {M M2 : Nat} (l : M ≤ M2) : ∀ {vs : List V} {ps : List (Tr × List Int)}, PairsR N H M vs ps → PairsR N H M2 vs ps
  | _, _, .nil => .nil
  | _, _, .cons h r => .cons (h.wide l) (PairsR.wide l r)
theorem PairsR.snoc {N : Addr → Prop} {H : Hp} {M : Nat} : ∀ {vs : List V} {ps : List (Tr × List Int)} {v : V} {p : Tr × List Int}, PairsR N H M vs ps → PairR N H M v p → PairsR N H M (vs ++ [v]) (ps ++ [p])
  | _, _, _, _, .nil, h => .cons h .nil
  | _, _, _, _, .cons g r, h => .cons g (PairsR.snoc r h)
theorem PairsR.len {N : Addr → Prop} {H : Hp} {M : Nat} : ∀ {vs : List V} {ps : List (Tr × List Int)}, PairsR N H M vs ps → vs.length = ps.length
  | _, _, .nil => rfl
  | _, _, .cons _ r => congrArg (· + 1) (PairsR.len r)
theorem PairsR.get {N : Addr → Prop} {H : Hp} {M : Nat} : ∀ {vs : List V} {ps : List (Tr × List Int)} {i : Nat} {v : V}, PairsR N H M vs ps → vs[i]? = some v → ∃ p, ps[i]? = some p ∧ PairR N H M v p
  | _, _, _, _, .nil, e => by simp at e
  | _, _, 0, _, .cons h _, e => by cases e; exact ⟨_, rfl, h⟩
  | _, _, i + 1, _, .cons _ r, e => by
    obtain ⟨p, h1, h2⟩ := PairsR.get (i := i) r (by simpa using e)
    exact ⟨p, by simpa using h1, h2⟩
/-- a dict comprehension over a list that stays -/
theorem dc_lst {K : PySem.W.Frag} {a : Addr} {xs : List V} {g : TG} {tt : TT} {tk tv : TE} {vs : List Nat} {σ : L2.St} {H1 : Hp} {D : Addr} {Qd : Hp → Prop} (Pv : Nat → Hp → Prop) (h0 : Pv 0 (upd H1 D (.dK []))) (hl : ∀ i H, i ≤ xs.length → Pv i H → SqL K H a xs)
    (hs : ∀ i x H, xs[i]? = some x → Pv i H → g x (wipe σ vs) H fun σ2 H2 => wipe σ2 vs = wipe σ vs ∧ tt σ2 H2 fun b H3 =>
      if b = true then tk σ2 H3 fun y H4 => tv σ2 H4 fun z H5 => ∃ kvs k, y = kV k ∧ H5 D = some (.dK kvs) ∧ kvs.length < sizeLine ∧ Pv (i + 1) (upd H5 D (.dK (putK kvs k z))) else Pv (i + 1) H3) (hd : ∀ H, Pv xs.length H → Qd H) :
    ∃ W : Nat → Nat → Hp → Prop, (∃ m, W 0 m (upd H1 D (.dK []))) ∧ ∀ i m H, W i m H →
      ((Itl K a).stop i H ∧ Qd H) ∨ ((Itl K a).go i H ∧ ∃ Nx : Hp → Prop, (∀ H', Nx H' → ∃ m', m' < m ∧ W (i + 1) m' H') ∧ ∀ x H', (Itl K a).yld i H x H' → g x (wipe σ vs) H' fun σ2 H2 => wipe σ2 vs = wipe σ vs ∧ tt σ2 H2 fun b H3 =>
        if b = true then tk σ2 H3 fun y H4 => tv σ2 H4 fun z H5 => ∃ kvs k, y = kV k ∧ H5 D = some (.dK kvs) ∧ kvs.length < sizeLine ∧ Nx (upd H5 D (.dK (putK kvs k z))) else Nx H3) := by
  refine ⟨fun i m H => m + i = xs.length ∧ Pv i H, ⟨xs.length, rfl, h0⟩, fun i m H w => ?_⟩
  obtain ⟨em, p⟩ := w
  have sq := hl i H (by omega) p
  by_cases lt : i < xs.length
  · refine .inr ⟨⟨xs, xs[i], sq, by simp [lt]⟩, Pv (i + 1), fun H' p' => ⟨m - 1, by omega, by omega, p'⟩, fun x H' y => ?_⟩
    obtain ⟨eH, y⟩ := y
    subst eH
    exact hs i x _ (y xs sq) p
  · have e : i = xs.length := by omega
    subst e
    exact .inl ⟨⟨xs, sq, Nat.le_refl _⟩, hd H p⟩
abbrev sInner : Stmt := top 37
abbrev NIn : List Str := ["core", "known", "word", "inside", "outer", "part", "number"]
def spInner : Sp := fun vs H Q _ => ∃ (v : V) (t : Tr) (d : Addr) (kn : List Int) (M : Nat) (N : Addr → Prop), vs = [v, .ref d] ∧ N d ∧ (∀ b, H b = none → N b) ∧ RT H v t ∧ widT t ∧ DK H d kn M ∧ M ≤ 1000000 ∧
  ∀ L us H', H L = none → H' L = some (.lst us) → PairsR N H' (M + 1000) us (kids t kn) → Sm No H H' → Q (.ref L) H'
section
variable {P : Program} {w : World} {K : PySem.W.Frag} {mg : Str → Option Value} {base : Heap}
theorem scInner : FnScope NIn ["core", "known"] (defScope sInner) := ⟨rfl, rfl, rfl, by decide +kernel, rfl, by decide +kernel, by decide +kernel⟩
theorem ok_inner {f fB : Addr} {fd dB : FuncData} (F : Fun K "inner_trees" "inner_trees" sInner f fd) (B : Blt mg) (GB : Cal P w K mg base CX0 1 "bound_numbers" ["core"] spBn fB dB) : FnOk P w K mg base CX0 2 f fd ["core", "known"] spInner := by
  refine F.ok scInner (fun vs H Q E h => ?_) (fun cdv A outer s H vs Q E hr h => ?_)
  · obtain ⟨v, t, d, kn, M, N, rfl, _⟩ := h
    rfl
  obtain ⟨v, t, d, kn, M, N, rfl, Nd, Nn, rt, wt, dk, hM, q⟩ := h
  have nd := scInner.nd
  refine ⟨_, (pss_cons (ps_set (i := 2) nd rfl (Or.inl rfl) (pe_ix (r := rIxT K) ix_tup (pv 0) pe_int (fun _ _ => rfl)))
    (pss_cons (ps_if (pt_cmpR op_eq (pv 2) pe_str (nomark _)) (pss_one (ps_ret (pe_lc (own := [("part", 5)]) (g := gName 5) (tt := tYes) rfl nd (pi_tup (pe_slice sl_tup (pv 0) (po_some pe_int) po_none)) (blkOk_by (N := NIn) (sc := defScope sInner) (by decide +kernel)) (fun _ _ _ _ _ => (pg_name (i := 5) nd rfl (Or.inl rfl) (hf := Or.inr rfl))) (fun _ _ _ _ _ => pts_nil) (fun _ _ _ _ _ => (pe_tup (pa_cons (pv 5) (pa_cons (pv 1) pa_nil))))))) pss_nil)
    (pss_cons (ps_if (pt_cmpR op_eq (pv 2) pe_str (nomark _)) (pss_one (ps_ret (pe_lc (own := [("part", 5)]) (g := gName 5) (tt := tYes) rfl nd (pi_tup (pe_tup (pa_cons (pe_ix (r := rIxT K) ix_tup (pv 0) pe_int (fun _ _ => rfl)) (StX.pa_star (pe_ix (r := rIxT K) ix_tup (pv 0) pe_int (fun _ _ => rfl)) pa_nil)))) (blkOk_by (N := NIn) (sc := defScope sInner) (by decide +kernel)) (fun _ _ _ _ _ => (pg_name (i := 5) nd rfl (Or.inl rfl) (hf := Or.inr rfl))) (fun _ _ _ _ _ => pts_nil) (fun _ _ _ _ _ => (pe_tup (pa_cons (pv 5) (pa_cons (pv 1) pa_nil))))))) pss_nil)
    (pss_cons (ps_if (pt_cmpR op_notIn_seq (pv 2) (pe_tup (pa_cons pe_str (pa_cons pe_str pa_nil))) (by rfl)) (pss_one (ps_ret (pe_lst pa_nil))) pss_nil)
    (pss_cons (ps_set (i := 3) nd rfl (Or.inl rfl) (pe_dmerge (pv 1) (pe_dc (own := [("number", 6)]) (g := gName 6) (tt := tYes) rfl nd (pi_list (pe_call GB.ok hr rfl GB.g GB.k GB.b .nil pass0 (pa_cons (pv 0) pa_nil))) (blkOk_by (N := NIn) (sc := defScope sInner) (by decide +kernel)) (fun _ _ _ _ _ => (pg_name (i := 6) nd rfl (Or.inl rfl) (hf := Or.inr rfl))) (fun _ _ _ _ _ => pts_nil) (fun _ _ _ _ _ => (pv 6)) (fun _ _ _ _ _ => pe_bl))))
    (pss_cons (ps_set (i := 4) nd rfl (Or.inl rfl) (pe_ifExp (pt_cmpR op_eq (pv 2) pe_str (nomark _)) (pe_lc (own := [("number", 6), ("part", 5)]) (g := gTup K 2 (gCons (gName 6) (gCons (gName 5) gNil))) (tt := tYes) rfl nd (pi_tup (pe_ix (r := rIxT K) ix_tup (pv 0) pe_int (fun _ _ => rfl))) (blkOk_by (N := NIn) (sc := defScope sInner) (by decide +kernel)) (fun _ _ _ _ _ => (pg_tup rfl (pgs_cons (pg_name (i := 6) nd rfl (Or.inl rfl) (hf := Or.inr rfl)) (pgs_cons (pg_name (i := 5) nd rfl (Or.inl rfl) (hf := Or.inr rfl)) pgs_nil)))) (fun _ _ _ _ _ => pts_nil) (fun _ _ _ _ _ => (pe_tup (pa_cons (pv 5) (pa_cons (pv 1) pa_nil))))) (pe_lst pa_nil)))
    (pss_one (ps_ret (pe_op op_cat (pv 4) (pe_lst (pa_cons (pe_tup (pa_cons (pe_ix (r := rIxT K) ix_tup (pv 0) pe_int (fun _ _ => rfl)) (pa_cons (pv 3) pa_nil))) pa_nil))))))))))), ?_⟩
  obtain ⟨a0, xs0, rfl, ha0, _⟩ := rt.head
  obtain ⟨kvs, hdk, lkv, memk⟩ := dk
  have dk : DK H d kn M := ⟨kvs, hdk, lkv, memk⟩
  -- a row of parts, each with the known variables
  have step : ∀ {Hb H' : Hp} {D q : Addr} {x : V} {t1 : Tr} {us : List V} {ps : List (Tr × List Int)}, Sm No H H' → Sm No Hb H' → H' D = some (.lst us) → Hb D = none → PairsR N H' M us ps → RT H x t1 → H' q = none →
      PairsR N (upd (upd H' q (.tup [x, .ref d])) D (.lst (us ++ [.ref q]))) M (us ++ [.ref q]) (ps ++ [(t1, kn)]) ∧ Sm No Hb (upd (upd H' q (.tup [x, .ref d])) D (.lst (us ++ [.ref q]))) := by
    intro Hb H' D q x t1 us ps sm smb hD' hD pr rx hq
    have nqD : D ≠ q := fun z => by rw [z, hq] at hD'; cases hD'
    have s1 : Sm No H' (upd H' q (.tup [x, .ref d])) := Sm.new hq
    have hD1 : upd H' q (.tup [x, .ref d]) D = some (.lst us) := by rw [upd_ne nqD]; exact hD'
    have s2 : Sm (fun b => b = D) (upd H' q (.tup [x, .ref d])) (upd (upd H' q (.tup [x, .ref d])) D (.lst (us ++ [.ref q]))) := Sm.set rfl (ntbl_l hD1)
    have kt : ∀ {b : Addr} {o : HO}, b ≠ D → isTbl o = false → upd H' q (.tup [x, .ref d]) b = some o → upd (upd H' q (.tup [x, .ref d])) D (.lst (us ++ [.ref q])) b = some o := fun {b o} n t e => by rw [upd_ne n]; exact e
    have kT : KpT H' (upd (upd H' q (.tup [x, .ref d])) D (.lst (us ++ [.ref q]))) := fun b ys e => kt (fun z => by rw [z, hD'] at e; cases e) rfl (s1.kpT _ _ e)
    have keepD : ∀ {e : Addr} {kn' : List Int} {M' : Nat}, DK H' e kn' M' → DK (upd (upd H' q (.tup [x, .ref d])) D (.lst (us ++ [.ref q]))) e kn' M' := fun {e kn' M'} k => by
      obtain ⟨ks, k1, k2, k3⟩ := k
      exact ⟨ks, kt (fun z => by rw [z, hD'] at k1; cases k1) rfl (s1.keep _ _ (fun z => z) rfl k1), k2, k3⟩
    have keepP : ∀ {vs : List V} {qs : List (Tr × List Int)}, PairsR N H' M vs qs → PairsR N (upd (upd H' q (.tup [x, .ref d])) D (.lst (us ++ [.ref q]))) M vs qs := fun {vs qs} r => by
      induction r with
      | nil => exact .nil
      | cons h r ih =>
        obtain ⟨q', x', d', e1, e2, e3, e4, e5⟩ := h
        exact .cons ⟨q', x', d', e1, kT _ _ e2, e3.keep kT, keepD e4, e5⟩ ih
    refine ⟨(keepP pr).snoc ⟨q, x, d, rfl, kt (fun z => nqD z.symm) rfl upd_same, (rx.keep sm.kpT).keep kT, keepD (dk.sm sm), Nd⟩, ?_⟩
    exact (smb.trans s1).mut hD (ntbl_l hD1)
  refine ⟨_, rfl, a0, _, 0, _, rfl, rfl, SqT.of ha0, at0 _ _, ?_⟩
  refine ev_eqs rfl ?_
  refine ite2 (fun c => ?_) (fun c => ?_)
  · obtain ⟨ta, tb, tc, rfl⟩ := word_if (of_decide_eq_true c)
    cases rt with
    | @if_ _ x y z _ _ _ ha rx ry rz =>
    refine ⟨_, rfl, _, rfl, a0, _, rfl, SqT.of ha, (fun z => absurd (show HT.sIx 4 0 (some 1) = 0 from z.1) (by decide)), fun T hT => ?_⟩
    have ec : cutV [V.str "if", x, y, z] (some 1) none = [x, y, z] := rfl
    rw [ec]
    have sT : Sm No H (upd H T (.tup [x, y, z])) := Sm.new hT
    have hT1 : upd H T (.tup [x, y, z]) T = some (.tup [x, y, z]) := upd_same
    generalize upd H T (.tup [x, y, z]) = H1 at sT hT1 ⊢
    refine ⟨T, rfl, ⟨_, SqT.of hT1⟩, fun D hD => ?_⟩
    have hD0 : H D = none := sT.dom D hD
    have rs : RTs H [x, y, z] [ta, tb, tc] := .cons rx (.cons ry (.cons rz .nil))
    refine lc_tup (xs := [x, y, z]) (fun i H' => ∃ us, H' D = some (.lst us) ∧ us.length = i ∧ H' T = some (.tup [x, y, z]) ∧ PairsR N H' M us (([ta, tb, tc].take i).map fun t => (t, kn)) ∧ Sm No H H') ⟨[], upd_same, rfl, (Sm.new (X := No) hD).kpT _ _ hT1, .nil, sT.trans (Sm.new hD)⟩ (fun i H' _ ⟨us, _, _, h, _⟩ => SqT.of h) ?_ ?_
    · rintro i x1 H' hi ⟨us, h1, h2, h3, h4, h5⟩
      obtain ⟨t1, e1, r1⟩ := rs.get hi
      refine ⟨rfl, _, rfl, _, rfl, by show 2 ≤ sizeLine; decide, fun q1 hq1 => ?_⟩
      have nqD : D ≠ q1 := fun z => by rw [z, hq1] at h1; cases h1
      obtain ⟨g1, g2⟩ := step (Hb := H) h5 h5 h1 hD0 h4 r1 hq1
      have il : i < 3 := (List.getElem?_eq_some_iff.mp hi).1
      refine ⟨us, by rw [upd_ne nqD]; exact h1, by rw [h2]; exact line_of (by omega), us ++ [.ref q1], upd_same, by simp [h2], ?_, ?_, g2⟩
      · have nTD : T ≠ D := fun z => by rw [z, h1] at h3; cases h3
        have nTq : T ≠ q1 := fun z => by rw [z, hq1] at h3; cases h3
        rw [upd_ne nTD, upd_ne nTq]; exact h3
      · rw [take_more e1, List.map_append]
        exact g1
    · rintro H' ⟨us, h1, h2, h3, h4, h5⟩
      exact q D us H' hD0 h1 (h4.wide (by omega)) h5
  refine ev_eqs rfl ?_
  refine ite2 (fun c2 => ?_) (fun c2 => ?_)
  · obtain ⟨tf, ts, rfl⟩ := word_call (of_decide_eq_true c2)
    unfold widT at wt
    cases rt with
    | @call _ p x vs _ _ ha hp rf rs0 =>
    refine ⟨_, rfl, a0, _, 1, _, rfl, rfl, SqT.of ha, at1 _ _ _, _, rfl, a0, _, 2, _, rfl, rfl, SqT.of ha, atI_nat (j := 2) rfl, p, _, rfl, .inl (SqT.of hp), ?_, fun T hT => ?_⟩
    · show (x :: (vs ++ [])).length ≤ sizeLine
      rw [List.append_nil, List.length_cons, rs0.len]
      exact Nat.le_trans (show ts.length + 1 ≤ 1001 by omega) (by decide)
    have ec : (x :: (vs ++ [])) = x :: vs := by rw [List.append_nil]
    rw [ec]
    have sT : Sm No H (upd H T (.tup (x :: vs))) := Sm.new hT
    have hT1 : upd H T (.tup (x :: vs)) T = some (.tup (x :: vs)) := upd_same
    generalize upd H T (.tup (x :: vs)) = H1 at sT hT1 ⊢
    refine ⟨T, rfl, ⟨_, SqT.of hT1⟩, fun D hD => ?_⟩
    have hD0 : H D = none := sT.dom D hD
    have rs : RTs H (x :: vs) (tf :: ts) := .cons rf rs0
    have lrs := rs.len
    refine lc_tup (xs := x :: vs) (fun i H' => ∃ us, H' D = some (.lst us) ∧ us.length = i ∧ H' T = some (.tup (x :: vs)) ∧ PairsR N H' M us (((tf :: ts).take i).map fun t => (t, kn)) ∧ Sm No H H') ⟨[], upd_same, rfl, (Sm.new (X := No) hD).kpT _ _ hT1, .nil, sT.trans (Sm.new hD)⟩ (fun i H' _ ⟨us, _, _, h, _⟩ => SqT.of h) ?_ ?_
    · rintro i x1 H' hi ⟨us, h1, h2, h3, h4, h5⟩
      obtain ⟨t1, e1, r1⟩ := rs.get hi
      refine ⟨rfl, _, rfl, _, rfl, by show 2 ≤ sizeLine; decide, fun q1 hq1 => ?_⟩
      have nqD : D ≠ q1 := fun z => by rw [z, hq1] at h1; cases h1
      obtain ⟨g1, g2⟩ := step (Hb := H) h5 h5 h1 hD0 h4 r1 hq1
      have il : i < (tf :: ts).length := (List.getElem?_eq_some_iff.mp e1).1
      rw [List.length_cons] at il
      refine ⟨us, by rw [upd_ne nqD]; exact h1, by rw [h2]; exact Nat.lt_of_lt_of_le (show i < 1001 by omega) (by decide), us ++ [.ref q1], upd_same, by simp [h2], ?_, ?_, g2⟩
      · have nTD : T ≠ D := fun z => by rw [z, h1] at h3; cases h3
        have nTq : T ≠ q1 := fun z => by rw [z, hq1] at h3; cases h3
        rw [upd_ne nTD, upd_ne nTq]; exact h3
      · rw [take_more e1, List.map_append]
        exact g1
    · rintro H' ⟨us, h1, h2, h3, h4, h5⟩
      rw [lrs, List.take_length] at h4
      exact q D us H' hD0 h1 (h4.wide (by omega)) h5
  refine ⟨_, rfl, by show 2 ≤ sizeLine; decide, fun p0 hp0 => ?_⟩
  refine ⟨p0, _, rfl, .inr (SqT.of upd_same), rfl, rfl, _, rfl, ?_⟩
  have s0 : Sm No H (upd H p0 (.tup [.str "fn", .str "let"])) := Sm.new hp0
  generalize upd H p0 (.tup [.str "fn", .str "let"]) = H0 at s0 ⊢
  have ein : inV (.str (word t)) [.str "fn", .str "let"] = decide (word t ∈ (["fn", "let"] : List Str)) := inV_strs (word t) ["fn", "let"]
  rw [if_pos rfl, ein]
  refine ite2 (fun c3 => ?_) (fun c3 => ?_)
  · have n3 : ¬ word t ∈ (["fn", "let"] : List Str) := by simpa using c3
    refine ⟨by show 0 ≤ sizeLine; decide, fun L hL => ?_⟩
    have ek : kids t kn = [] := by
      cases t with
      | int i => rfl
      | loc i => rfl
      | glob i j => rfl
      | prim i => rfl
      | fn ns b => exact absurd (List.mem_cons_self) n3
      | let_ ns ts b => exact absurd (List.mem_cons_of_mem _ List.mem_cons_self) n3
      | if_ a b c' => exact absurd (decide_eq_true rfl) c
      | call f ts => exact absurd (decide_eq_true rfl) c2
    refine q L [] _ (s0.dom L hL) upd_same (by rw [ek]; exact .nil) (s0.trans (Sm.new hL))
  have n3 : word t ∈ (["fn", "let"] : List Str) := by
    by_cases hx : word t ∈ (["fn", "let"] : List Str)
    · exact hx
    · exact absurd (by rw [decide_eq_false hx]; rfl) c3
  intro D0 hD0
  have hdk0 := s0.keep d _ (fun z => z) rfl hdk
  have ndD : d ≠ D0 := ne_of_none hdk0 hD0
  have s1 : Sm No H0 (upd H0 D0 (.dK [])) := Sm.new hD0
  refine ⟨_, rfl, d, kvs, rfl, ndD, s1.keep d _ (fun z => z) rfl hdk0, upd_same, ?_⟩
  have hD1 : upd (upd H0 D0 (.dK [])) D0 (.dK (mergeK [] kvs)) D0 = some (.dK (mergeK [] kvs)) := upd_same
  have s2 : Sm No H (upd (upd H0 D0 (.dK [])) D0 (.dK (mergeK [] kvs))) := (s0.trans s1).mut (s0.dom D0 hD0) (fun ps z => by rw [upd_same] at z; cases z)
  generalize upd (upd H0 D0 (.dK [])) D0 (.dK (mergeK [] kvs)) = H2 at hD1 s2 ⊢
  have hD00 : H D0 = none := s0.dom D0 hD0
  refine ⟨_, rfl, _, t, rfl, rt.keep s2.kpT, wt, fun L H3 hL hL3 s3 => ?_⟩
  refine ⟨L, rfl, ⟨_, SqL.of hL3⟩, fun D hD => ?_⟩
  have lb := bnd_len wt
  refine dc_lst (xs := (bnd t).map V.int) (fun i H' => ∃ ls, H' D = some (.dK ls) ∧ ls.length ≤ i ∧ (∀ n : Int, (valV ls (Sum.inl n)).isSome = decide (n ∈ (bnd t).take i)) ∧ Sm No H3 H') ⟨[], upd_same, Nat.le_refl _, (fun n => by rw [valV_nil]; rfl), Sm.new hD⟩ (fun i H' _ ⟨ls, _, _, _, k⟩ => SqL.of (k.lst0 hL3)) ?_ ?_
  · rintro i x H' hi ⟨ls, h1, h2, h3, h4⟩
    obtain ⟨n, hn, rfl⟩ := map_at hi
    have il : i < (bnd t).length := (List.getElem?_eq_some_iff.mp hn).1
    refine ⟨rfl, _, rfl, ls, Sum.inl n, rfl, h1, Nat.lt_of_le_of_lt h2 (line_of (by omega)), putK ls (Sum.inl n) (.bl true), upd_same, ?_, fun m => ?_, ?_⟩
    · have := length_putK ls (Sum.inl n) (.bl true)
      omega
    · rw [take_more hn]
      exact put_mem m n _ ls _ h3
    · exact h4.mut hD (fun ps z => by rw [h1] at z; cases z)
  rintro H4 ⟨ls, h1, h2, h3, h4⟩
  rw [List.length_map] at h2 h3
  rw [List.take_length] at h3
  have s24 : Sm No H2 H4 := s3.trans h4
  have hD4 := s24.keep D0 _ (fun z => z) rfl hD1
  have nDD : D ≠ D0 := fun z => by
    have : H3 D = some (.dK (mergeK [] kvs)) := by rw [z]; exact s3.keep D0 _ (fun z => z) rfl hD1
    rw [hD] at this
    cases this
  have lm : (mergeK [] kvs).length ≤ M := by
    have := length_mergeK kvs []
    simp at this
    omega
  refine ⟨D, ls, mergeK [] kvs, rfl, nDD, h1, hD4, Nat.le_trans (show (mergeK [] kvs).length + ls.length ≤ 1001000 by omega) (by decide), ?_⟩
  have s5 : Sm No H (upd H4 D0 (.dK (mergeK (mergeK [] kvs) ls))) := (s2.trans s24).mut hD00 (fun ps z => by rw [hD4] at z; cases z)
  have dkI : DK (upd H4 D0 (.dK (mergeK (mergeK [] kvs) ls))) D0 (bnd t ++ kn) (M + 1000) := by
    refine ⟨_, upd_same, ?_, fun n => ?_⟩
    · have := length_mergeK ls (mergeK [] kvs)
      omega
    · rw [merge_mem, merge_mem, valV_nil, memk, h3]
      show (false || decide (n ∈ kn) || decide (n ∈ bnd t)) = _
      rw [Bool.false_or]
      by_cases a : n ∈ kn
      · rw [decide_eq_true a, Bool.true_or, decide_eq_true (List.mem_append_right _ a)]
      · by_cases b : n ∈ bnd t
        · rw [decide_eq_true b, Bool.or_true, decide_eq_true (List.mem_append_left _ b)]
        · rw [decide_eq_false a, decide_eq_false b, decide_eq_false fun z => (List.mem_append.mp z).elim b a]; rfl
  generalize upd H4 D0 (.dK (mergeK (mergeK [] kvs) ls)) = H5 at s5 dkI ⊢
  clear h1 h2 h3 h4 hD4 lm hD hL3 s24 s3 hD1 hdk0 ndD s1
  refine ev_eqs rfl ?_
  refine ite2 (fun c4 => ?_) (fun c4 => ?_)
  · obtain ⟨ns, ts, tb, rfl⟩ := word_let (of_decide_eq_true c4)
    cases rt with
    | @let_ _ p x vs _ _ _ ha hp rp rb =>
    unfold widT at wt
    have ⟨l1, l2⟩ := rp.len
    have ha5 := s5.kpT _ _ ha
    refine ⟨_, rfl, a0, _, 1, _, rfl, rfl, SqT.of ha5, at1 _ _ _, p, rfl, ⟨_, SqT.of (s5.kpT _ _ hp)⟩, fun O hO => ?_⟩
    have hO0 : H O = none := s5.dom O hO
    refine lc_tup (xs := vs) (fun i H' => ∃ us, H' O = some (.lst us) ∧ us.length = i ∧ PairsR N H' M us ((ts.take i).map fun t => (t, kn)) ∧ Sm No H5 H') ⟨[], upd_same, rfl, .nil, Sm.new hO⟩ (fun i H' _ ⟨us, _, _, _, k⟩ => SqT.of ((s5.trans k).kpT _ _ hp)) ?_ ?_
    · rintro i y H' hi ⟨us, h1, h2, h3, h4⟩
      obtain ⟨e, x1, n, t1, rfl, he, hn, ht1, r1⟩ := rp.get hi
      have il : i < ns.length := (List.getElem?_eq_some_iff.mp hn).1
      refine ⟨e, _, rfl, SqT.of ((s5.trans h4).kpT _ _ he), rfl, _, _, rfl, ?_⟩
      refine ⟨_, _, rfl, rfl, rfl, ?_⟩
      refine ⟨_, rfl, _, rfl, by show 2 ≤ sizeLine; decide, fun q1 hq1 => ?_⟩
      have nqO : O ≠ q1 := fun z => by rw [z, hq1] at h1; cases h1
      obtain ⟨g1, g2⟩ := step (Hb := H5) (s5.trans h4) h4 h1 hO h3 r1 hq1
      refine ⟨us, by rw [upd_ne nqO]; exact h1, by rw [h2]; exact line_of (by omega), us ++ [.ref q1], upd_same, by simp [h2], ?_, g2⟩
      rw [take_more ht1, List.map_append]
      exact g1
    · rintro H6 ⟨us, h1, h2, h3, h4⟩
      rw [l1, ← l2, List.take_length] at h3
      have s6 := s5.trans h4
      refine ⟨_, rfl, _, rfl, a0, _, 2, _, rfl, rfl, SqT.of (s6.kpT _ _ ha), atI_nat (j := 2) rfl, _, rfl, by show 2 ≤ sizeLine; decide, fun q2 hq2 => ⟨by show 1 ≤ sizeLine; decide, fun l3 hl3 => ?_⟩⟩
      have s7 : Sm No H6 (upd H6 q2 (.tup [x, .ref D0])) := Sm.new hq2
      have s8 := s7.trans (Sm.new (X := No) (o := .lst [V.ref q2]) hl3)
      refine ⟨O, l3, _, _, rfl, rfl, s8.lst0 h1, upd_same, ?_, fun l5 hl5 => ?_⟩
      · show us.length + 1 ≤ sizeLine
        rw [h2, l1]
        exact Nat.le_trans (show ns.length + 1 ≤ 1001 by omega) (by decide)
      · have s9 := s8.trans (Sm.new (X := No) (o := .lst (us ++ [V.ref q2])) hl5)
        have s29 := (Sm.new (X := No) (o := .lst [V.ref q2]) hl3).trans (Sm.new (X := No) (o := .lst (us ++ [V.ref q2])) hl5)
        exact q l5 _ _ ((s6.trans s8).dom l5 hl5) upd_same (((h3.sm s9).wide (by omega)).snoc ⟨q2, x, D0, rfl, s29.kpT _ _ upd_same, rb.keep (s6.trans s9).kpT, dkI.sm (h4.trans s9), Nn D0 hD00⟩) (s6.trans s9)
  · obtain ⟨ns, tb, rfl⟩ : ∃ ns b, t = .fn ns b := by
      rcases List.mem_cons.mp n3 with e | e
      · exact word_fn e
      · exact absurd (decide_eq_true (List.mem_singleton.mp e)) c4
    cases rt with
    | @fn _ p x _ _ ha hp rb =>
    refine ⟨by show 0 ≤ sizeLine; decide, fun O hO => ?_⟩
    have h4 : Sm No H5 (upd H5 O (.lst [])) := Sm.new hO
    have h1 : upd H5 O (.lst []) O = some (.lst []) := upd_same
    generalize upd H5 O (.lst []) = H6 at h4 h1 ⊢
    have s6 := s5.trans h4
    refine ⟨_, rfl, _, rfl, a0, _, 2, _, rfl, rfl, SqT.of (s6.kpT _ _ ha), atI_nat (j := 2) rfl, _, rfl, by show 2 ≤ sizeLine; decide, fun q2 hq2 => ⟨by show 1 ≤ sizeLine; decide, fun l3 hl3 => ?_⟩⟩
    have s7 : Sm No H6 (upd H6 q2 (.tup [x, .ref D0])) := Sm.new hq2
    have s8 := s7.trans (Sm.new (X := No) (o := .lst [V.ref q2]) hl3)
    refine ⟨O, l3, _, _, rfl, rfl, s8.lst0 h1, upd_same, by show 1 ≤ sizeLine; decide, fun l5 hl5 => ?_⟩
    have s9 := s8.trans (Sm.new (X := No) (o := .lst ([] ++ [V.ref q2])) hl5)
    have s29 := (Sm.new (X := No) (o := .lst [V.ref q2]) hl3).trans (Sm.new (X := No) (o := .lst ([] ++ [V.ref q2])) hl5)
    exact q l5 _ _ ((s6.trans s8).dom l5 hl5) upd_same (.cons ⟨q2, x, D0, rfl, s29.kpT _ _ upd_same, rb.keep (s6.trans s9).kpT, dkI.sm (h4.trans s9), Nn D0 hD00⟩ .nil) (s6.trans s9)
end
end My
namespace My
open PySem PySem.Spec PyProof.Rows L2 TL
/-! ### with_variables -/
abbrev sWv : Stmt := top 52
abbrev NWv : List Str := ["variables", "numbers", "results", "inside", "number", "result"]
def spWv (C : Cs) : Sp := fun vs H Q _ => ∃ (X : Addr → Prop) (e a b : Addr) (kvs : List (Key × V)) (env : List (Int × Vl)) (ns : List Int) (us : List V) (ys : List Vl), vs = [.ref e, .ref a, .ref b] ∧ H e = some (.dK kvs) ∧ REv C X H kvs env ∧ H a = some (.lst (ns.map V.int)) ∧
  H b = some (.lst us) ∧ RVs C X H us ys ∧ ns.length = ys.length ∧ ns.length ≤ 1000 ∧ env.length ≤ 1000000 ∧
  ∀ p H' lvs, Fr No H H' → H p = none → H' p = some (.dK lvs) → REv C X H' lvs (evPuts ns ys env) → Q (.ref p) H'
section
variable {P : Program} {w : World} {K : PySem.W.Frag} {mg : Str → Option Value} {base : Heap}
theorem scWv : FnScope NWv ["variables", "numbers", "results"] (defScope sWv) := ⟨rfl, rfl, rfl, by decide +kernel, rfl, by decide +kernel, by decide +kernel⟩
theorem ok_wv {f : Addr} {C : Cs} {fd : FuncData} (F : Fun K "with_variables" "with_variables" sWv f fd) (B2 : Bl2 mg) : FnOk P w K mg base CX0 1 f fd ["variables", "numbers", "results"] (spWv C) := by
  refine F.ok scWv (fun vs H Q E h => ?_) (fun cdv A outer s H vs Q E hr h => ?_)
  · obtain ⟨X, e, a, b, kvs, env, ns, us, ys, rfl, _⟩ := h
    rfl
  obtain ⟨X, e, a, b, kvs, env, ns, us, ys, rfl, he, re, ha, hb, ru, ln, l1, l2, q⟩ := h
  have nd := scWv.nd
  have hu := hu_of hr
  refine ⟨_, (pss_cons (ps_set (i := 3) nd rfl (Or.inl rfl) (pe_callTy call_dictD (by rfl) B2.dict (by decide +kernel) (pa_cons (pv 0) pa_nil)))
    (pss_cons (ps_for PassesOwn.never rfl (pi_zip (by rfl) B2.zip (pa_cons (pv 1) (pa_cons (pv 2) pa_nil))) (pg_tup rfl (pgs_cons (pg_name (i := 4) nd rfl (Or.inl rfl)) (pgs_cons (pg_name (i := 5) nd rfl (Or.inl rfl)) pgs_nil)))
      (pss_one (ps_dput hu (pv 3) (pv 4) (pv 5) rfl)))
    (pss_one (ps_ret (pv 3))))), ?_⟩
  refine ⟨_, rfl, e, kvs, rfl, .inl he, fun p hp => ?_⟩
  have f1 : Fr No H (upd H p (.dK kvs)) := Fr.new hp
  have ha1 := f1.keep (fun z => z) rfl ha
  have hb1 := f1.keep (fun z => z) rfl hb
  refine ⟨_, rfl, _, rfl, a, b, _, _, rfl, SqL.of ha1, SqL.of hb1, ?_⟩
  have lu := ru.len
  refine RZ.for_zipL (xs := ns.map V.int) (ys := us) (by rw [List.length_map, lu, ln]) (fun i σ H' => ∃ (v4 v5 : Option V) (lvs : List (Key × V)), σ = [some (.ref e), some (.ref a), some (.ref b), some (.ref p), v4, v5] ∧ H' p = some (.dK lvs) ∧ REv C X H lvs (evPuts (ns.take i) (ys.take i) env) ∧ Fr No H H')
    ⟨none, none, kvs, rfl, upd_same, by rw [List.take_zero, List.take_zero]; exact re, f1⟩ (fun i σ H' ⟨_, _, _, _, _, _, g⟩ => ⟨SqL.of (g.keep (fun z => z) rfl ha), SqL.of (g.keep (fun z => z) rfl hb)⟩) ?_ ?_
  · rintro i x y T σ H' hx hy ⟨v4, v5, lvs, rfl, hp', rp, g⟩ hT
    obtain ⟨n, hn, rfl⟩ := map_at hx
    obtain ⟨yy, hyy, ry⟩ := ru.get hy
    have g2 : Fr No H' (upd H' T (.tup [.int n, y])) := Fr.new hT
    have hp2 := g2.keep (fun z => z) rfl hp'
    have hTH : H T = none := g.dom hT
    have il : i < ns.length := (List.getElem?_eq_some_iff.mp hn).1
    have iy : i < ys.length := by omega
    have ll : lvs.length < sizeLine := by
      rw [rp.len]
      have h1 := evPuts_len (ns.take i) (ys.take i) env
      rw [List.length_take] at h1
      exact Nat.lt_of_le_of_lt (show _ ≤ 1001000 by omega) (by decide)
    refine ⟨T, _, rfl, SqT.of upd_same, rfl, _, _, rfl, ?_⟩
    refine ⟨_, _, rfl, rfl, ?_⟩
    refine ⟨_, rfl, _, rfl, _, rfl, p, _, rfl, DPut.k (k := .inl n) hp2 ll, ?_⟩
    have g3 := (g.trans g2).mut (o := .dK (putK lvs (.inl n) y)) hp hp2 rfl
    have t1 : ns.take (i + 1) = ns.take i ++ [n] := take_more hn
    have t2 : ys.take (i + 1) = ys.take i ++ [yy] := take_more hyy
    refine ⟨_, _, _, rfl, upd_same, ?_, g3⟩
    rw [t1, t2, evPuts_snoc _ _ _ _ _ (by rw [List.length_take, List.length_take]; omega)]
    exact rp.put ry
  · rintro σ H' ⟨v4, v5, lvs, rfl, hp', rp, g⟩
    rw [List.length_map, List.take_length] at rp
    rw [ln, List.take_length] at rp
    exact ⟨_, rfl, q p H' lvs g hp hp' (rp.fr g.no)⟩
end
end My
namespace My
open PySem PySem.Spec PyProof.Rows L2 TL
/-! ### lists, item by item -/
inductive Als {α : Type} (R : V → α → Prop) : List V → List α → Prop
  | nil : Als R [] []
  | cons {v : V} {x : α} {vs : List V} {xs : List α} (r : R v x) (rs : Als R vs xs) : Als R (v :: vs) (x :: xs)
section
variable {α : Type} {R S : V → α → Prop}
theorem Als.mono (h : ∀ v x, R v x → S v x) : ∀ {vs : List V} {xs : List α}, Als R vs xs → Als S vs xs
  | _, _, .nil => .nil
  | _, _, .cons r rs => .cons (h _ _ r) (Als.mono h rs)
theorem Als.app : ∀ {vs ws : List V} {xs ys : List α}, Als R vs xs → Als R ws ys → Als R (vs ++ ws) (xs ++ ys)
  | _, _, _, _, .nil, s => s
  | _, _, _, _, .cons r rs, s => .cons r (Als.app rs s)
theorem Als.one {v : V} {x : α} (r : R v x) : Als R [v] [x] := .cons r .nil
theorem Als.len : ∀ {vs : List V} {xs : List α}, Als R vs xs → vs.length = xs.length
  | _, _, .nil => rfl
  | _, _, .cons _ r => congrArg (· + 1) (Als.len r)
theorem Als.split : ∀ {vs : List V} {xs ys : List α}, Als R vs (xs ++ ys) → ∃ v1 v2, vs = v1 ++ v2 ∧ Als R v1 xs ∧ Als R v2 ys
  | vs, [], ys, h => ⟨[], vs, rfl, .nil, h⟩
  | _, _ :: xs, ys, .cons r rs => by
    obtain ⟨v1, v2, e, h1, h2⟩ := Als.split (xs := xs) rs
    exact ⟨_ :: v1, v2, by rw [e]; rfl, .cons r h1, h2⟩
theorem Als.last {vs : List V} {xs : List α} {x : α} (h : Als R vs (x :: xs).reverse) : ∃ v ws, vs = ws ++ [v] ∧ R v x ∧ Als R ws xs.reverse := by
  rw [List.reverse_cons] at h
  obtain ⟨v1, v2, e, h1, h2⟩ := h.split
  cases h2 with
  | cons r h3 =>
    cases h3
    exact ⟨_, v1, e, r, h1⟩
end
theorem RVs.split {C : Cs} {X : Addr → Prop} {H : Hp} : ∀ {vs : List V} {xs ys : List Vl}, RVs C X H vs (xs ++ ys) → ∃ v1 v2, vs = v1 ++ v2 ∧ RVs C X H v1 xs ∧ RVs C X H v2 ys
  | vs, [], ys, h => ⟨[], vs, rfl, .nil, h⟩
  | _, _ :: xs, ys, .cons r rs => by
    obtain ⟨v1, v2, e, h1, h2⟩ := RVs.split (xs := xs) rs
    exact ⟨_ :: v1, v2, by rw [e]; rfl, .cons r h1, h2⟩
theorem RVs.last {C : Cs} {X : Addr → Prop} {H : Hp} {vs : List V} {xs : List Vl} {x : Vl} (h : RVs C X H vs (x :: xs).reverse) : ∃ v ws, vs = ws ++ [v] ∧ RV C X H v x ∧ RVs C X H ws xs.reverse := by
  rw [List.reverse_cons] at h
  obtain ⟨v1, v2, e, h1, h2⟩ := h.split
  cases h2 with
  | cons r h3 =>
    cases h3
    exact ⟨_, v1, e, r, h1⟩
/-! ### the plain run -/
inductive Act where
  | begin | endLet | endIf | endCall
structure Tk where
  act : Act
  t : Tr
  env : List (Int × Vl)
/-- where the actions stand -/
structure Acts where
  bg : Addr
  el : Addr
  ei : Addr
  ec : Addr
def Acts.at (F : Acts) : Act → Addr
  | .begin => F.bg
  | .endLet => F.el
  | .endIf => F.ei
  | .endCall => F.ec
structure Pn where
  R : Addr
  dx : Addr
  T : Addr
  S : Addr
  D : Addr
/-- the greatest number of steps, and the definitions -/
abbrev Gl := List ((Str × Str) × Vl)
structure Wd where
  m : Nat
  gl : Gl
def glGet (k : Str × Str) : Gl → Option Vl
  | [] => none
  | (j, x) :: r => if j = k then some x else glGet k r
def glHas (k : Str × Str) (gl : Gl) : Bool := gl.any fun p => decide (p.1 = k)
def glPut (k : Str × Str) (y : Vl) (gl : Gl) : Gl := if glHas k gl = true then gl.map (fun p => if p.1 = k then (p.1, y) else p) else gl ++ [(k, y)]
def glK (k : Str × Str) : List Key := [.inr k.1, .inr k.2]
theorem glK_inj {j k : Str × Str} : glK j = glK k ↔ j = k := by
  constructor
  · intro h
    obtain ⟨a, b⟩ := j
    obtain ⟨c, d⟩ := k
    injection h with h1 h2
    injection h2 with h2 _
    have e1 : a = c := Sum.inr.inj h1
    have e2 : b = d := Sum.inr.inj h2
    rw [e1, e2]
  · intro h; rw [h]
inductive RGl (C : Cs) (X : Addr → Prop) (H : Hp) : List (List Key × V) → Gl → Prop
  | nil : RGl C X H [] []
  | cons {k : Str × Str} {v : V} {x : Vl} {kvs : List (List Key × V)} {gl : Gl} (r : RV C X H v x) (rs : RGl C X H kvs gl) : RGl C X H ((glK k, v) :: kvs) ((k, x) :: gl)
section
variable {C : Cs} {X Y : Addr → Prop} {H H' : Hp}
theorem RGl.mv (k : ∀ a o, isTbl o = false → H a = some o → ¬ X a → H' a = some o ∧ ¬ Y a) (t : KpT H H') : ∀ {kvs : List (List Key × V)} {gl : Gl}, RGl C X H kvs gl → RGl C Y H' kvs gl
  | _, _, .nil => .nil
  | _, _, .cons r rs => .cons (r.mv k t) (RGl.mv k t rs)
theorem RGl.fr (f : Fr X H H') {kvs : List (List Key × V)} {gl : Gl} (r : RGl C X H kvs gl) : RGl C X H' kvs gl := r.mv f.kk f.tup
theorem RGl.grow (g : ∀ a, Y a → X a ∨ H a = none) {kvs : List (List Key × V)} {gl : Gl} (r : RGl C X H kvs gl) : RGl C Y H kvs gl := r.mv (grow_kk g) fun _ _ h => h
theorem RGl.len : ∀ {kvs : List (List Key × V)} {gl : Gl}, RGl C X H kvs gl → kvs.length = gl.length
  | _, _, .nil => rfl
  | _, _, .cons _ r => congrArg (· + 1) (RGl.len r)
theorem RGl.app : ∀ {kvs lvs : List (List Key × V)} {gl gm : Gl}, RGl C X H kvs gl → RGl C X H lvs gm → RGl C X H (kvs ++ lvs) (gl ++ gm)
  | _, _, _, _, .nil, s => s
  | _, _, _, _, .cons r rs, s => .cons r (RGl.app rs s)
theorem RGl.get {k : Str × Str} : ∀ {kvs : List (List Key × V)} {gl : Gl}, RGl C X H kvs gl → (∀ x, glGet k gl = some x → ∃ v, valV kvs (glK k) = some v ∧ RV C X H v x) ∧ (glGet k gl = none → valV kvs (glK k) = none)
  | _, _, .nil => ⟨fun x e => (by cases e), fun _ => rfl⟩
  | _, _, .cons (k := j) (v := v) (x := x') (kvs := kvs) (gl := gl) r rs => by
    obtain ⟨h1, h2⟩ := RGl.get (k := k) rs
    unfold glGet
    by_cases c : j = k
    · rw [if_pos c]
      exact ⟨fun x e => (by cases e; exact ⟨v, valV_pos (by rw [c]), r⟩), fun e => (by cases e)⟩
    · rw [if_neg c]
      have ne : ¬ glK j = glK k := fun z => c (glK_inj.mp z)
      exact ⟨fun x e => (by obtain ⟨u, a, b⟩ := h1 x e; exact ⟨u, by rw [valV_neg ne]; exact a, b⟩), fun e => (by rw [valV_neg ne]; exact h2 e)⟩
theorem RGl.has {k : Str × Str} : ∀ {kvs : List (List Key × V)} {gl : Gl}, RGl C X H kvs gl → (kvs.any fun kv => decide (kv.1 = glK k)) = glHas k gl
  | _, _, .nil => rfl
  | _, _, .cons (k := j) r rs => by
    unfold glHas
    rw [List.any_cons, List.any_cons, RGl.has rs]
    show (decide (glK j = glK k) || glHas k _) = (decide (j = k) || glHas k _)
    rw [decide_eq_decide.mpr glK_inj]
theorem RGl.map {k : Str × Str} {w : V} {y : Vl} (rw' : RV C X H w y) : ∀ {kvs : List (List Key × V)} {gl : Gl}, RGl C X H kvs gl → RGl C X H (kvs.map fun kv => if kv.1 = glK k then (kv.1, w) else kv) (gl.map fun p => if p.1 = k then (p.1, y) else p)
  | _, _, .nil => .nil
  | _, _, .cons (k := j) r rs => by
    rw [List.map_cons, List.map_cons]
    by_cases c : j = k
    · have c2 : glK j = glK k := by rw [c]
      simp only [c2, c, if_true]
      exact .cons rw' (RGl.map rw' rs)
    · have c2 : ¬ glK j = glK k := fun z => c (glK_inj.mp z)
      simp only [c2, c, if_false]
      exact .cons r (RGl.map rw' rs)
theorem RGl.put {k : Str × Str} {w : V} {y : Vl} {kvs : List (List Key × V)} {gl : Gl} (r : RGl C X H kvs gl) (rw' : RV C X H w y) : RGl C X H (putK kvs (glK k) w) (glPut k y gl) := by
  unfold putK glPut
  rw [r.has]
  by_cases c : glHas k gl = true
  · rw [if_pos c, if_pos c]; exact r.map rw'
  · rw [if_neg c, if_neg c]; exact r.app (.cons rw' .nil)
end
/-- the definitions' dict -/
def RDf (C : Cs) (X : Addr → Prop) (H : Hp) (D : Addr) (gl : Gl) : Prop := ∃ kvs, H D = some (.dT kvs) ∧ RGl C X H kvs gl
def REn (C : Cs) (X : Addr → Prop) (H : Hp) (e : Addr) (env : List (Int × Vl)) : Prop := ∃ kvs, H e = some (.dK kvs) ∧ ¬ X e ∧ REv C X H kvs env ∧ env.length ≤ 1000000
def RTk (F : Acts) (C : Cs) (X : Addr → Prop) (H : Hp) (v : V) (k : Tk) : Prop := ∃ (a : Addr) (c : V) (e : Addr), v = .ref a ∧ H a = some (.tup [.ref (F.at k.act), c, .ref e]) ∧ RT H c k.t ∧ widT k.t ∧ REn C X H e k.env
def flds (p : Pn) (m : Wd) (n : Nat) : List (Str × V) := [("most", .int m.m), ("steps", .int n), ("defined", .ref p.D), ("todo", .ref p.T), ("results", .ref p.S)]
structure PRn (CP : Addr) (F : Acts) (C : Cs) (X : Addr → Prop) (H : Hp) (p : Pn) (m : Wd) (n : Nat) (todo : List Tk) (res : List Vl) : Prop where
  r : H p.R = some (.ins CP p.dx (flds p m n))
  t : ∃ ts, H p.T = some (.lst ts) ∧ Als (RTk F C X H) ts todo.reverse
  s : ∃ rs, H p.S = some (.lst rs) ∧ RVs C X H rs res.reverse
  xr : X p.R
  xt : X p.T
  xs : X p.S
  d : RDf C X H p.D m.gl
  ne : p.T ≠ p.S
  dom : ∀ b, X b → H b ≠ none
section
variable {CP : Addr} {F : Acts} {C : Cs} {X : Addr → Prop} {H H' : Hp} {p : Pn} {m : Wd} {n : Nat} {todo : List Tk} {res : List Vl}
theorem REn.fr (f : Fr X H H') {e : Addr} {env : List (Int × Vl)} (h : REn C X H e env) : REn C X H' e env := by
  obtain ⟨kvs, h1, h2, h3, h4⟩ := h
  exact ⟨kvs, f.keep h2 rfl h1, h2, h3.fr f, h4⟩
theorem RTk.fr (f : Fr X H H') {v : V} {k : Tk} (h : RTk F C X H v k) : RTk F C X H' v k := by
  obtain ⟨a, c, e, h1, h2, h3, h4, h5⟩ := h
  exact ⟨a, c, e, h1, f.tup _ _ h2, h3.keep f.tup, h4, h5.fr f⟩
theorem Fr.dom' (f : Fr X H H') {b : Addr} (h : H b ≠ none) : H' b ≠ none := fun z => h (f.dom z)
theorem RDf.fr {D : Addr} {gl : Gl} {W : Addr → Prop} (f : Fr W H H') (hw : ∀ b, W b → X b) (n : ¬ W D) (h : RDf C X H D gl) : RDf C X H' D gl := by
  obtain ⟨kvs, h1, h2⟩ := h
  exact ⟨kvs, f.keep n rfl h1, h2.fr (f.wide hw)⟩
theorem PRn.fr (f : Fr No H H') (h : PRn CP F C X H p m n todo res) : PRn CP F C X H' p m n todo res := by
  obtain ⟨ts, t1, t2⟩ := h.t
  obtain ⟨rs, s1, s2⟩ := h.s
  exact ⟨f.keep (fun z => z) rfl h.r, ⟨ts, f.keep (fun z => z) rfl t1, t2.mono fun _ _ r => r.fr f.no⟩, ⟨rs, f.keep (fun z => z) rfl s1, s2.fr f.no⟩, h.xr, h.xt, h.xs, h.d.fr f (fun _ z => z.elim) (fun z => z), h.ne, fun b x => f.dom' (h.dom b x)⟩
theorem PRn.neRT (h : PRn CP F C X H p m n todo res) : p.R ≠ p.T := by
  obtain ⟨ts, t1, _⟩ := h.t
  exact ne_of h.r t1 fun z => by cases z
theorem PRn.neRS (h : PRn CP F C X H p m n todo res) : p.R ≠ p.S := by
  obtain ⟨ts, t1, _⟩ := h.s
  exact ne_of h.r t1 fun z => by cases z
theorem PRn.neRD (h : PRn CP F C X H p m n todo res) : p.D ≠ p.R := by
  obtain ⟨ts, t1, _⟩ := h.d
  exact ne_of t1 h.r fun z => by cases z
theorem PRn.neTD (h : PRn CP F C X H p m n todo res) : p.D ≠ p.T := by
  obtain ⟨ts, t1, _⟩ := h.d
  obtain ⟨us, u1, _⟩ := h.t
  exact ne_of t1 u1 fun z => by cases z
theorem PRn.neSD (h : PRn CP F C X H p m n todo res) : p.D ≠ p.S := by
  obtain ⟨ts, t1, _⟩ := h.d
  obtain ⟨us, u1, _⟩ := h.s
  exact ne_of t1 u1 fun z => by cases z
/-- a step is counted -/
theorem PRn.step (h : PRn CP F C X H p m n todo res) : PRn CP F C X (upd H p.R (.ins CP p.dx (flds p m (n + 1)))) p m (n + 1) todo res ∧ Fr X H (upd H p.R (.ins CP p.dx (flds p m (n + 1)))) := by
  have f : Fr X H (upd H p.R (.ins CP p.dx (flds p m (n + 1)))) := Fr.set h.xr h.r rfl
  obtain ⟨ts, t1, t2⟩ := h.t
  obtain ⟨rs, s1, s2⟩ := h.s
  exact ⟨⟨upd_same, ⟨ts, by rw [upd_ne (Ne.symm h.neRT)]; exact t1, t2.mono fun _ _ r => r.fr f⟩, ⟨rs, by rw [upd_ne (Ne.symm h.neRS)]; exact s1, s2.fr f⟩, h.xr, h.xt, h.xs, h.d.fr (Fr.set (X := fun b => b = p.R) rfl h.r rfl) (fun b z => by rw [z]; exact h.xr) (fun z => h.neRD z), h.ne, fun b x => f.dom' (h.dom b x)⟩, f⟩
/-- the tasks are set anew -/
theorem PRn.setT {ts : List V} {todo' : List Tk} (h : PRn CP F C X H p m n todo res) (r : Als (RTk F C X H) ts todo'.reverse) : PRn CP F C X (upd H p.T (.lst ts)) p m n todo' res ∧ Fr X H (upd H p.T (.lst ts)) := by
  obtain ⟨ts0, t1, t2⟩ := h.t
  obtain ⟨rs, s1, s2⟩ := h.s
  have f : Fr X H (upd H p.T (.lst ts)) := Fr.set h.xt t1 rfl
  exact ⟨⟨by rw [upd_ne h.neRT]; exact h.r, ⟨ts, upd_same, r.mono fun _ _ r => r.fr f⟩, ⟨rs, by rw [upd_ne (Ne.symm h.ne)]; exact s1, s2.fr f⟩, h.xr, h.xt, h.xs, h.d.fr (Fr.set (X := fun b => b = p.T) rfl t1 rfl) (fun b z => by rw [z]; exact h.xt) (fun z => h.neTD z), h.ne, fun b x => f.dom' (h.dom b x)⟩, f⟩
/-- the results are set anew -/
theorem PRn.setS {rs : List V} {res' : List Vl} (h : PRn CP F C X H p m n todo res) (r : RVs C X H rs res'.reverse) : PRn CP F C X (upd H p.S (.lst rs)) p m n todo res' ∧ Fr X H (upd H p.S (.lst rs)) := by
  obtain ⟨ts, t1, t2⟩ := h.t
  obtain ⟨rs0, s1, s2⟩ := h.s
  have f : Fr X H (upd H p.S (.lst rs)) := Fr.set h.xs s1 rfl
  exact ⟨⟨by rw [upd_ne h.neRS]; exact h.r, ⟨ts, by rw [upd_ne h.ne]; exact t1, t2.mono fun _ _ r => r.fr f⟩, ⟨rs, upd_same, r.fr f⟩, h.xr, h.xt, h.xs, h.d.fr (Fr.set (X := fun b => b = p.S) rfl s1 rfl) (fun b z => by rw [z]; exact h.xs) (fun z => h.neSD z), h.ne, fun b x => f.dom' (h.dom b x)⟩, f⟩
end
inductive PRes where
  | stuck
  | err (ws : List Str) (n : Nat)
  | ok (n : Nat) (todo : List Tk) (res : List Vl)
def many : Nat := 1000000
def bgs (ts : List Tr) (env : List (Int × Vl)) : List Tk := ts.map fun t => ⟨.begin, t, env⟩
/-- what begin does with a part, its step counted -/
def partF (gl : Gl) (t : Tr) (env : List (Int × Vl)) (n : Nat) (todo : List Tk) (res : List Vl) : PRes :=
  if many ≤ todo.length ∨ many ≤ res.length then .stuck else
  match t with
  | .int i => if i.natAbs ≤ 10 ^ 60 then .ok n todo (.int i :: res) else .stuck
  | .loc x => match evGet x env with
    | some v => .ok n todo (v :: res)
    | none => .stuck
  | .glob a b => match glGet (a, b) gl with
    | some v => .ok n todo (v :: res)
    | none => .err ["error", "early"] n
  | .prim q => .ok n todo (.prim q :: res)
  | .fn ns b => .ok n todo (.fnP ns b env :: res)
  | .let_ ns ts b => .ok n (bgs ts env ++ ⟨.endLet, .let_ ns ts b, env⟩ :: todo) res
  | .if_ a b c => .ok n (⟨.begin, a, env⟩ :: ⟨.endIf, .if_ a b c, env⟩ :: todo) res
  | .call f ts => .ok n (⟨.begin, f, env⟩ :: (bgs ts env ++ ⟨.endCall, .call f ts, env⟩ :: todo)) res
def endLetF (t : Tr) (env : List (Int × Vl)) (n : Nat) (todo : List Tk) (res : List Vl) : PRes :=
  match t with
  | .let_ ns ts b => if ts.length ≤ res.length ∧ ns.length = ts.length ∧ env.length + ns.length ≤ 1000000 ∧ todo.length < many then .ok n (⟨.begin, b, evPuts ns (res.take ts.length).reverse env⟩ :: todo) (res.drop ts.length) else .stuck
  | _ => .stuck
def endIfF (t : Tr) (env : List (Int × Vl)) (n : Nat) (todo : List Tk) (res : List Vl) : PRes :=
  match t, res with
  | .if_ _ b c, .int i :: res => if todo.length < many then .ok n (⟨.begin, if i = 0 then c else b, env⟩ :: todo) res else .stuck
  | _, _ => .stuck
def endCallF (t : Tr) (n : Nat) (todo : List Tk) (res : List Vl) : PRes :=
  match t with
  | .call _ ts => match res.drop ts.length with
    | called :: res' => if ts.length ≤ 900 ∧ todo.length < many ∧ res.length < many then (match chkF called ts.length with
      | some ws => .err ws n
      | none => match called with
        | .prim q => (match primF q (res.take ts.length).reverse with
          | .ok y => .ok n todo (y :: res')
          | .error ws => .err ws n)
        | .fnP ns b env => if env.length + ns.length ≤ 1000000 then .ok n (⟨.begin, b, evPuts ns (res.take ts.length).reverse env⟩ :: todo) res' else .stuck
        | _ => .stuck) else .stuck
    | [] => .stuck
  | _ => .stuck
def beginF (m : Wd) (t : Tr) (env : List (Int × Vl)) (n : Nat) (todo : List Tk) (res : List Vl) : PRes := if m.m ≤ n then .err ["steps"] n else partF m.gl t env (n + 1) todo res
def actF (m : Wd) (k : Tk) (n : Nat) (todo : List Tk) (res : List Vl) : PRes := match k.act with
  | .begin => beginF m k.t k.env n todo res
  | .endLet => endLetF k.t k.env n todo res
  | .endIf => endIfF k.t k.env n todo res
  | .endCall => endCallF k.t n todo res
/-- an action keeps what `go` says -/
def spA (CP : Addr) (F : Acts) (C : Cs) (En P1 : Addr) (ok : Tr → Prop) (go : Wd → Tr → List (Int × Vl) → Nat → List Tk → List Vl → PRes) : Sp := fun vs H Q E => ∃ (X : Addr → Prop) (p : Pn) (m : Wd) (n : Nat) (todo : List Tk) (res : List Vl) (c : V) (t : Tr) (e : Addr) (env : List (Int × Vl)),
  vs = [.ref p.R, c, .ref e] ∧ PRn CP F C X H p m n todo res ∧ RT H c t ∧ widT t ∧ ok t ∧ REn C X H e env ∧ GxR.TabG H P1 ∧ go m t env n todo res ≠ .stuck ∧
  (∀ n' todo' res', go m t env n todo res = .ok n' todo' res' → ∀ H', Fr X H H' → PRn CP F C X H' p m n' todo' res' → Q .non H') ∧
  (∀ ws n', go m t env n todo res = .err ws n' → ∀ H1, Fr X H H1 → H1 p.R = some (.ins CP p.dx (flds p m n')) → erX No En ws H1 E)
end My
namespace My
open PySem PySem.Spec PyProof.Rows L2 TL
abbrev fR5 : List Str := ["most", "steps", "defined", "todo", "results"]
abbrev sBi : Stmt := top 53
abbrev sBl : Stmt := top 54
abbrev sBp : Stmt := top 56
abbrev sBf : Stmt := top 57
def goP : Wd → Tr → List (Int × Vl) → Nat → List Tk → List Vl → PRes := fun m t env n todo res => partF m.gl t env n todo res
theorem many_line {n : Nat} (h : ¬ many ≤ n) : n < sizeLine := Nat.lt_of_lt_of_le (Nat.lt_of_not_le h) (by decide)
theorem partF_lim {gl : Gl} {t : Tr} {env : List (Int × Vl)} {n : Nat} {todo : List Tk} {res : List Vl} (h : partF gl t env n todo res ≠ .stuck) : ¬ many ≤ todo.length ∧ ¬ many ≤ res.length := by
  unfold partF at h
  by_cases c : many ≤ todo.length ∨ many ≤ res.length
  · rw [if_pos c] at h; exact absurd rfl h
  · exact ⟨fun z => c (.inl z), fun z => c (.inr z)⟩
theorem partF_at {gl : Gl} {t : Tr} {env : List (Int × Vl)} {n : Nat} {todo : List Tk} {res : List Vl} (h : partF gl t env n todo res ≠ .stuck) : ¬ (many ≤ todo.length ∨ many ≤ res.length) := fun c => by
  rcases c with c | c
  · exact (partF_lim h).1 c
  · exact (partF_lim h).2 c
section
variable {P : Program} {w : World} {K : PySem.W.Frag} {mg : Str → Option Value} {base : Heap} {CP En P1 : Addr} {F : Acts} {C : Cs}
theorem scBi : FnScope ["run", "core", "_"] ["run", "core", "_"] (defScope sBi) := ⟨rfl, rfl, rfl, by decide +kernel, rfl, by decide +kernel, by decide +kernel⟩
theorem scBl : FnScope ["run", "core", "variables"] ["run", "core", "variables"] (defScope sBl) := ⟨rfl, rfl, rfl, by decide +kernel, rfl, by decide +kernel, by decide +kernel⟩
theorem scBp : FnScope ["run", "core", "_"] ["run", "core", "_"] (defScope sBp) := ⟨rfl, rfl, rfl, by decide +kernel, rfl, by decide +kernel, by decide +kernel⟩
theorem scBf : FnScope ["run", "core", "variables"] ["run", "core", "variables"] (defScope sBf) := ⟨rfl, rfl, rfl, by decide +kernel, rfl, by decide +kernel, by decide +kernel⟩
/-- a value is pushed -/
theorem PRn.pushV {X : Addr → Prop} {H : Hp} {p : Pn} {m : Wd} {n : Nat} {todo : List Tk} {res : List Vl} {rs : List V} {v : V} {x : Vl} (h : PRn CP F C X H p m n todo res) (hs : H p.S = some (.lst rs)) (r : RVs C X H rs res.reverse) (rv : RV C X H v x) :
    PRn CP F C X (upd H p.S (.lst (rs ++ [v]))) p m n todo (x :: res) ∧ Fr X H (upd H p.S (.lst (rs ++ [v]))) :=
  h.setS (res' := x :: res) (by rw [List.reverse_cons]; exact r.app (.one rv))
theorem ok_bi {f : Addr} {fd : FuncData} (Fn : Fun K "begin_int" "begin_int" sBi f fd) (U : FldC K CP fR5) : FnOk P w K mg base (L2.CX P w) 1 f fd ["run", "core", "_"] (spA CP F C En P1 (fun t => word t = "int") goP) := by
  refine Fn.okX scBi (fun vs H Q E h => ?_) (fun cdv A outer s H vs Q E hr h => ?_)
  · obtain ⟨X, p, m, n, todo, res, c, t, e, env, rfl, _⟩ := h
    rfl
  obtain ⟨X, p, m, n, todo, res, c, t, e, env, rfl, st, rt, wt, wd, re, tg, ns, q, qe⟩ := h
  obtain ⟨i, rfl⟩ := word_int wd
  have lim := partF_at ns
  unfold goP at ns q qe
  unfold partF at ns q
  rw [if_neg lim] at ns q
  dsimp only at ns q
  have nd := scBi.nd
  cases rt with
  | @int a _ ha =>
  obtain ⟨rs, s1, s2⟩ := st.s
  refine ⟨_, (pss_one (ps_expr (pe_bm PySem.F.plainAttrs_list PySem.F.slot_list_append PySem.F.type_list_append mt_append (pe_fld (pv 0) rfl) (pa_cons (pe_ix (r := rIxT K) ix_tup (pv 1) pe_int (fun _ _ => rfl)) pa_nil)))), ?_⟩
  have b60 : i.natAbs ≤ 10 ^ 60 := by
    by_cases c : i.natAbs ≤ 10 ^ 60
    · exact c
    · rw [if_neg c] at ns; exact absurd rfl ns
  rw [if_pos b60] at q
  refine ⟨_, rfl, p.R, CP, p.dx, _, _, rfl, st.r, U.c, U.n _ (by simp), rfl, .inl ⟨rfl, _, SqL.of s1⟩, ?_⟩
  refine ⟨_, rfl, a, _, 1, _, rfl, rfl, SqT.of ha, at1 _ _ _, ?_⟩
  have lr : rs.length < sizeLine := by rw [s2.len, List.length_reverse]; exact many_line fun z => lim (.inr z)
  refine ⟨p.S, _, _, rfl, rfl, s1, lr, ?_⟩
  have g := st.pushV s1 s2 (.int i b60)
  exact q _ _ _ rfl _ g.2 g.1
theorem ok_bl {f : Addr} {fd : FuncData} (Fn : Fun K "begin_local" "begin_local" sBl f fd) (U : FldC K CP fR5) : FnOk P w K mg base (L2.CX P w) 1 f fd ["run", "core", "variables"] (spA CP F C En P1 (fun t => word t = "local") goP) := by
  refine Fn.okX scBl (fun vs H Q E h => ?_) (fun cdv A outer s H vs Q E hr h => ?_)
  · obtain ⟨X, p, m, n, todo, res, c, t, e, env, rfl, _⟩ := h
    rfl
  obtain ⟨X, p, m, n, todo, res, c, t, e, env, rfl, st, rt, wt, wd, re, tg, ns, q, qe⟩ := h
  obtain ⟨x, rfl⟩ := word_local wd
  have lim := partF_at ns
  unfold goP at ns q qe
  unfold partF at ns q
  rw [if_neg lim] at ns q
  dsimp only at ns q
  have nd := scBl.nd
  have hu := hu_of hr
  cases rt with
  | @loc a _ ha =>
  obtain ⟨rs, s1, s2⟩ := st.s
  obtain ⟨kvs, h1, h2, h3, h4⟩ := re
  obtain ⟨y, ey⟩ : ∃ y, evGet x env = some y := by
    cases c : evGet x env with
    | some y => exact ⟨y, rfl⟩
    | none => simp only [c] at ns; exact absurd rfl ns
  obtain ⟨v, hv, rv⟩ := h3.get ey
  refine ⟨_, (pss_one (ps_expr (pe_bm PySem.F.plainAttrs_list PySem.F.slot_list_append PySem.F.type_list_append mt_append (pe_fld (pv 0) rfl) (pa_cons (pe_dget hu (pv 2) (pe_ix (r := rIxT K) ix_tup (pv 1) pe_int (fun _ _ => rfl)) (fun _ _ => rfl)) pa_nil)))), ?_⟩
  simp only [ey] at q
  refine ⟨_, rfl, p.R, CP, p.dx, _, _, rfl, st.r, U.c, U.n _ (by simp), rfl, .inl ⟨rfl, _, SqL.of s1⟩, ?_⟩
  have dg := DGet.k (k := (.inl x : Key)) h1
  rw [hv] at dg
  refine ⟨_, rfl, _, rfl, a, _, 1, _, rfl, rfl, SqT.of ha, at1 _ _ _, e, _, rfl, dg, ?_⟩
  have lr : rs.length < sizeLine := by rw [s2.len, List.length_reverse]; exact many_line fun z => lim (.inr z)
  refine ⟨p.S, _, _, rfl, rfl, s1, lr, ?_⟩
  have g := st.pushV s1 s2 rv
  exact q _ _ _ rfl _ g.2 g.1
theorem ok_bp {f fP : Addr} {fd dP : FuncData} (Fn : Fun K "begin_prim" "begin_prim" sBp f fd) (U : FldC K CP fR5) (MP : MkC P w K mg base 1 "Primitive" ["self", "name"] (spPri C.pr) C.pr fP dP) : FnOk P w K mg base (L2.CX P w) 3 f fd ["run", "core", "_"] (spA CP F C En P1 (fun t => word t = "prim") goP) := by
  refine Fn.okX scBp (fun vs H Q E h => ?_) (fun cdv A outer s H vs Q E hr h => ?_)
  · obtain ⟨X, p, m, n, todo, res, c, t, e, env, rfl, _⟩ := h
    rfl
  obtain ⟨X, p, m, n, todo, res, c, t, e, env, rfl, st, rt, wt, wd, re, tg, ns, q, qe⟩ := h
  obtain ⟨y, rfl⟩ := word_prim wd
  have lim := partF_at ns
  unfold goP at ns q qe
  unfold partF at ns q
  rw [if_neg lim] at ns q
  dsimp only at ns q
  have nd := scBp.nd
  cases rt with
  | @prim a _ ha =>
  obtain ⟨rs, s1, s2⟩ := st.s
  refine ⟨_, (pss_one (ps_expr (pe_bm PySem.F.plainAttrs_list PySem.F.slot_list_append PySem.F.type_list_append mt_append (pe_fld (pv 0) rfl) (pa_cons (pe_make (E := fun _ _ _ => False) MP.m MP.ok hr rfl MP.g MP.b .nil pass0 (pa_cons (pe_ix (r := rIxT K) ix_tup (pv 1) pe_int (fun _ _ => rfl)) pa_nil)) pa_nil)))), ?_⟩
  refine ⟨_, rfl, p.R, CP, p.dx, _, _, rfl, st.r, U.c, U.n _ (by simp), rfl, .inl ⟨rfl, _, SqL.of s1⟩, ?_⟩
  refine ⟨_, rfl, a, _, 1, _, rfl, rfl, SqT.of ha, at1 _ _ _, fun x dx hx hd ne => ⟨x, dx, y, rfl, upd_same, fun H' f => ⟨rfl, ?_⟩⟩⟩
  have f3 : Fr No H (upd H' x (.ins C.pr dx [("parameters", .int (arP y)), ("name", .str y)])) := ((mk_fr hx hd ne).trans f).mut hx (f.keep (fun z => z) rfl upd_same) rfl
  have st3 := st.fr f3
  have s3 := f3.keep (fun z => z) rfl s1
  have lr : rs.length < sizeLine := by rw [s2.len, List.length_reverse]; exact many_line fun z => lim (.inr z)
  refine ⟨p.S, _, _, rfl, rfl, s3, lr, ?_⟩
  have g := st3.pushV s3 (s2.fr f3.no) (.prim (p := y) upd_same (fun z => st.dom x z hx))
  exact q _ _ _ rfl _ (f3.no.trans g.2) g.1
theorem ok_bf {f fU : Addr} {fd dU : FuncData} (Fn : Fun K "begin_fn" "begin_fn" sBf f fd) (B : Blt mg) (U : FldC K CP fR5) (MF : MkC P w K mg base 1 "Function" ["self", "parameters", "body", "kept"] (spIni C.fu 3 (three "parameters" "body" "kept")) C.fu fU dU) : FnOk P w K mg base (L2.CX P w) 3 f fd ["run", "core", "variables"] (spA CP F C En P1 (fun t => word t = "fn") goP) := by
  refine Fn.okX scBf (fun vs H Q E h => ?_) (fun cdv A outer s H vs Q E hr h => ?_)
  · obtain ⟨X, p, m, n, todo, res, c, t, e, env, rfl, _⟩ := h
    rfl
  obtain ⟨X, p, m, n, todo, res, c, t, e, env, rfl, st, rt, wt, wd, re, tg, ns, q, qe⟩ := h
  obtain ⟨ls, b, rfl⟩ := word_fn wd
  have lim := partF_at ns
  unfold goP at ns q qe
  unfold partF at ns q
  rw [if_neg lim] at ns q
  dsimp only at ns q
  have nd := scBf.nd
  have rt0 := rt
  cases rt with
  | @fn a l x _ _ ha hl rb =>
  obtain ⟨rs, s1, s2⟩ := st.s
  obtain ⟨kvs, h1, h2, h3, h4⟩ := re
  refine ⟨_, (pss_one (ps_expr (pe_bm PySem.F.plainAttrs_list PySem.F.slot_list_append PySem.F.type_list_append mt_append (pe_fld (pv 0) rfl) (pa_cons (pe_make (E := fun _ _ _ => False) MF.m MF.ok hr rfl MF.g MF.b .nil pass0 (pa_cons (pe_callB call_len_seq (by rfl) B.len PySem.boot_len (pa_cons (pe_ix (r := rIxT K) ix_tup (pv 1) pe_int (fun _ _ => rfl)) pa_nil)) (pa_cons (pv 1) (pa_cons (pv 2) pa_nil)))) pa_nil)))), ?_⟩
  refine ⟨_, rfl, p.R, CP, p.dx, _, _, rfl, st.r, U.c, U.n _ (by simp), rfl, .inl ⟨rfl, _, SqL.of s1⟩, ?_⟩
  refine ⟨_, rfl, a, _, 1, _, rfl, rfl, SqT.of ha, at1 _ _ _, l, _, rfl, .inr (SqT.of hl), _, rfl, _, rfl, fun o dx ho hd ne => ⟨o, dx, _, rfl, rfl, upd_same, rfl, ?_⟩⟩
  rw [upd_upd]
  have f3 : Fr No H (upd (upd H dx (.own o)) o (.ins C.fu dx [("parameters", .int (ls.map V.int).length), ("body", .ref a), ("kept", .ref e)])) := mk_fr ho hd ne
  have st3 := st.fr f3
  have s3 := f3.keep (fun z => z) rfl s1
  have lr : rs.length < sizeLine := by rw [s2.len, List.length_reverse]; exact many_line fun z => lim (.inr z)
  refine ⟨p.S, _, _, rfl, rfl, s3, lr, ?_⟩
  have ll : ((ls.map V.int).length : Int) = (ls.length : Int) := by rw [List.length_map]
  have g := st3.pushV s3 (s2.fr f3.no) (.fnP (ns := ls) (b := b) (env := env) (by rw [← ll]; exact upd_same) (fun z => st.dom o z ho) (rt0.keep f3.tup) wt (f3.keep (fun z => z) rfl h1) h2 (h3.fr f3.no))
  exact q _ _ _ rfl _ (f3.no.trans g.2) g.1
end
end My
namespace My
open PySem PySem.Spec PyProof.Rows L2 TL HT
/-! ### t[::-1], t a tuple -/
theorem fm_congr {α β : Type} {f g : α → Option β} : ∀ {l : List α}, (∀ k ∈ l, f k = g k) → l.filterMap f = l.filterMap g
  | [], _ => rfl
  | x :: r, h => by
    rw [List.filterMap_cons, List.filterMap_cons, h x List.mem_cons_self, fm_congr fun k m => h k (List.mem_cons_of_mem _ m)]
theorem adj_rev (n : Nat) : Builtin.Slice.sliceAdjust none none (-1) (n : Int) = ((n : Int) - 1, -1) := by
  unfold Builtin.Slice.sliceAdjust
  have h1 : (-1 : Int) < 0 := by omega
  simp only [h1, if_true]
theorem plc_rev (n : Nat) : Builtin.Slice.slicePlaces ((n : Int) - 1) (-1) (-1) = n := by
  unfold Builtin.Slice.slicePlaces
  have h1 : ¬ ((-1 : Int) > 0) := by omega
  simp only [h1, if_false, Int.neg_neg, Int.ediv_one]
  split <;> omega
theorem pick_rev (xs : List Value) : (List.range xs.length).filterMap (fun (k : Nat) => xs.toArray[(((xs.length : Int) - 1) + (k : Int) * (-1)).toNat]?) = xs.reverse := by
  have e : (List.range xs.length).filterMap (fun (k : Nat) => xs.toArray[(((xs.length : Int) - 1) + (k : Int) * (-1)).toNat]?) = (List.range xs.length).filterMap (fun k => xs.reverse[k]?) := by
    refine fm_congr fun k hk => ?_
    have hk := List.mem_range.mp hk
    rw [List.getElem?_reverse hk]
    rw [show (((xs.length : Int) - 1) + (k : Int) * (-1)).toNat = xs.length - 1 - k by omega]
    simp
  rw [e]
  have e2 : ∀ ys : List Value, (List.range ys.length).filterMap (fun k => ys[k]?) = ys := by
    intro ys
    induction ys with
    | nil => rfl
    | cons y r ih =>
      rw [List.length_cons, List.range_succ_eq_map, List.filterMap_cons]
      simp only [List.getElem?_cons_zero]
      rw [List.filterMap_map]
      congr 1
  have := e2 xs.reverse
  rw [List.length_reverse] at this
  exact this
section
variable {prog : Program} {w : World} {A : Around} {E : Value → Shared → Prop} {s : Shared}
theorem getItem_tuple_rev {t sl : Addr} {items : List Value} {vl vu : Value} {k : Tok} {Q : Value → Shared → Prop} (ht : IsTup s.heap t items.toArray) (hs : s.heap.IsSliceOf sl vl vu (.int (-1) k)) (pl : IsPart vl none) (pu : IsPart vu none)
    (h : Q (.ref s.heap.objs.size) { s with heap := s.heap.push { cls := .type "tuple", data := .seq items.reverse.toArray } })
    (hsz : items.length ≤ sizeLine) : wpAny (model prog w) A (getItem (.ref t) (.ref sl)) Q E s := by
  have htake : sizeOk (.seq items.reverse.toArray) := by
    show items.reverse.toArray.size ≤ sizeLine
    rw [List.size_toArray, List.length_reverse]
    exact hsz
  obtain ⟨os, hos, hcs, hds⟩ := id hs
  have hTs : s.TypeIs (.ref sl) "slice" := ⟨os, hos, hcs⟩
  unfold getItem
  try with_reducible refine wpAny_holding ?_
  first | refine wpAny_bind (wpAny_pure ?_) | skip
  refine wpAny_bind (wpAny_sequenceKey ht.typeIs (by decide) ?_)
  refine wpAny_bind (wpAny_callSpecial?_slot (name := Str.ofString "__getitem__") ht.typeIs PyProof.Rows.slot_tuple_getitem
    (wpAny_call_entry PyProof.Rows.slot_tuple_getitem ht.typeIs entry_tuple_getitem ?_ (args_tuple_getitem _ _)))
  show wpAny _ _ (Builtin.Tuple.tupleItemsOf (.ref t) >>= _) _ _ s
  refine wpAny_bind (tupleItemsOf_ ht ?_)
  refine wpAny_bind (wpAny_typeOf hTs ?_)
  rw [if_pos (by decide)]
  refine wpAny_bind ?_
  unfold Builtin.Slice.sliceApplied Builtin.Slice.sliceFields
  refine wpAny_bind (wpAny_bind (wpAny_field hos hds (x := vl) rfl (wpAny_bind (wpAny_field hos hds (x := vu) rfl (wpAny_bind (wpAny_field hos hds (x := .int (-1) k) rfl (wpAny_pure ?_)))))))
  refine wpAny_bind (slicePart_int ?_)
  show wpAny _ _ (if ((-1 : Int) == 0) = true then _ else _) _ _ s
  rw [if_neg (by decide)]
  refine wpAny_bind (slicePart_ pl (wpAny_bind (slicePart_ pu (wpAny_bind (wpAny_pure ?_)))))
  show wpAny _ _ (match Builtin.Slice.sliceAdjust none none (-1) (items.toArray.size : Int) with | (lo, hi) => pure (lo, (-1 : Int), Builtin.Slice.slicePlaces lo hi (-1))) _ _ s
  rw [adj_rev, List.size_toArray]
  show wpAny _ _ (pure ((items.length : Int) - 1, (-1 : Int), Builtin.Slice.slicePlaces ((items.length : Int) - 1) (-1) (-1))) _ _ s
  rw [plc_rev]
  refine wpAny_pure ?_
  have hno : ¬ ((((items.length : Int) - 1) == 0 && (-1 : Int) == 1 && items.length == items.length) = true) := by
    rw [show ((-1 : Int) == 1) = false from rfl, Bool.and_false, Bool.false_and]
    exact Bool.false_ne_true
  show wpAny _ _ (if (((items.length : Int) - 1) == 0 && (-1 : Int) == 1 && items.length == items.length) = true then _ else _) _ _ s
  rw [if_neg hno, pick_rev]
  first
    | exact wpAny_bind (m := Builtin.Tuple.tupleExact _) (wpAny_newObj_type (wpAny_pure ⟨_, rfl, wpAny_pure h⟩) htake)
    | exact wpAny_bind (m := Builtin.Tuple.tupleExact _) (wpAny_newObj_type (wpAny_bind (wpAny_pure (wpAny_pure ⟨_, rfl, wpAny_pure h⟩))) htake)
end
section
variable {X : Cx}
def tRevT (K : PySem.W.Frag) (te : TE) : TE := fun σ H Q => te σ H fun x H1 => ∃ a xs, x = .ref a ∧ SqT K H1 a xs ∧ ∀ p, H1 p = none → Q (.ref p) (upd H1 p (.tup xs.reverse))
theorem pe_revT {e : Expr} {te : TE} {k : Nat} {p1 p2 p3 pos : Pos} (he : PE X e te) : PE X (.Subscript e (.Slice none none (some (.UnaryOp .USub (.Constant (.int 1) k p1) p2)) p3) pos) (tRevT X.K te) := by
  refine ⟨fun pins s σ H Q I h => ?_⟩
  refine Subscript_ (thn (he.run pins s σ H _ I h) fun v s1 ⟨x, H1, I1, r1, q1⟩ => ?_)
  obtain ⟨a, xs, ex, hx, q⟩ := q1
  subst ex
  cases r1
  have hst : PO X (some (.UnaryOp .USub (.Constant (.int 1) k p1) p2)) (tPart (tUn (rU fun i => .int (-i)) (tC (.int 1)))) := po_some (pe_un un_neg pe_int)
  refine wpAny_Slice (thn (po_none.run pins s1 σ H1 (fun o H2 => o = none ∧ H2 = H1) I1 ⟨rfl, rfl⟩) fun vl s2 ⟨l, H2, I2, pl, el, e2⟩ => ?_)
  subst el e2
  refine thn (po_none.run pins s2 σ H2 (fun o H3 => o = none ∧ H3 = H2) I2 ⟨rfl, rfl⟩) fun vu s3 ⟨u, H3, I3, pu, eu, e3⟩ => ?_
  subst eu e3
  refine thn (hst.run pins s3 σ H3 (fun o H4 => o = some (-1) ∧ H4 = H3) I3 ⟨1, rfl, -1, rfl, rfl, rfl⟩) fun vs s4 ⟨o, H4, I4, ps, eo, e4⟩ => ?_
  subst eo e4
  obtain ⟨kk, rfl⟩ : ∃ kk, vs = .int (-1) kk := by
    cases ps with
    | int i t => exact ⟨t, rfl⟩
  have I5 : Inv X pins σ H4 { s4 with heap := s4.heap.push { cls := .type "slice", data := .fields #[vl, vu, .int (-1) kk] } } := I4.kept (t' := s4.toks) fun b ob q => Heap.get?_push_of_some _ q
  obtain ⟨its, r, ht, hz⟩ := I5.tuple hx
  have hlen := r.length
  show wpAny (model X.prog X.w) X.A (subscriptTail e (.Slice none none (some (.UnaryOp .USub (.Constant (.int 1) k p1) p2)) p3) (.ref a) (.ref s4.heap.objs.size)) (EP X pins σ Q) X.xe { s4 with heap := s4.heap.push { cls := .type "slice", data := .fields #[vl, vu, .int (-1) kk] } }
  refine tail_any (ops := [.ref a, .ref s4.heap.objs.size]) ht.typeIs (PyProof.Rows.slot_tuple_getitem.lookup) ?_ (by with_unfolding_all rfl)
  refine getItem_tuple_rev ht (Heap.IsSliceOf.new _ vl vu _) pl pu ?_ (by rw [← hlen]; exact hz)
  refine ⟨.ref _, _, I5.laid (t' := s4.toks) (o := .tup xs.reverse) (fun b ob q => Heap.get?_push_of_some _ q) (Nat.le_refl _) ?_, rfl, q _ (I5.hok.fresh (Nat.le_refl _))⟩
  exact ⟨by rw [List.length_reverse]; exact hz, _, r.reverse, IsTup.new _ _⟩
end
end My
namespace My
open PySem PySem.Spec PyProof.Rows L2 TL
/-- begin with each of these parts, as tuples that were just laid -/
def BgT (F : Acts) (e : Addr) (Hb H' : Hp) (v : V) (t : Tr) : Prop := ∃ (a : Addr) (c : V), v = .ref a ∧ H' a = some (.tup [.ref F.bg, c, .ref e]) ∧ RT Hb c t
theorem BgT.keep {F : Acts} {e : Addr} {Hb H1 H2 : Hp} {v : V} {t : Tr} (k : KpT H1 H2) (h : BgT F e Hb H1 v t) : BgT F e Hb H2 v t := by
  obtain ⟨a, c, h1, h2, h3⟩ := h
  exact ⟨a, c, h1, k _ _ h2, h3⟩
theorem bgs_done {F : Acts} {C : Cs} {X : Addr → Prop} {e : Addr} {Hb H' : Hp} {env : List (Int × Vl)} (f : Fr X Hb H') (re : REn C X Hb e env) : ∀ {us : List V} {ts : List Tr}, Als (BgT F e Hb H') us ts → (∀ t ∈ ts, widT t) → Als (RTk F C X H') us (bgs ts env)
  | _, _, .nil, _ => .nil
  | _, _, .cons (x := t) ⟨a, c, h1, h2, h3⟩ rs, w => .cons ⟨a, c, e, h1, h2, h3.keep f.tup, w t List.mem_cons_self, re.fr f⟩ (bgs_done f re rs fun t m => w t (List.mem_cons_of_mem _ m))
theorem bgs_rev (ts : List Tr) (env : List (Int × Vl)) : bgs ts.reverse env = (bgs ts env).reverse := by
  unfold bgs
  rw [List.map_reverse]
theorem RTs.app {H : Hp} : ∀ {vs ws : List V} {ts us : List Tr}, RTs H vs ts → RTs H ws us → RTs H (vs ++ ws) (ts ++ us)
  | _, _, _, _, .nil, s => s
  | _, _, _, _, .cons r rs, s => .cons r (RTs.app rs s)
theorem RTs.rev {H : Hp} : ∀ {vs : List V} {ts : List Tr}, RTs H vs ts → RTs H vs.reverse ts.reverse
  | _, _, .nil => .nil
  | _, _, .cons r rs => by
    rw [List.reverse_cons, List.reverse_cons]
    exact (RTs.rev rs).app (.cons r .nil)
abbrev sBc : Stmt := top 62
abbrev sBt : Stmt := top 58
abbrev sBif : Stmt := top 60
structure ActG (mg : Str → Option Value) (F : Acts) : Prop where
  bg : mg "begin" = some (.ref F.bg)
  el : mg "end_let" = some (.ref F.el)
  ei : mg "end_if" = some (.ref F.ei)
  ec : mg "end_call" = some (.ref F.ec)
section
variable {P : Program} {w : World} {K : PySem.W.Frag} {mg : Str → Option Value} {base : Heap} {CP En P1 : Addr} {F : Acts} {C : Cs}
/-- a task is pushed -/
theorem PRn.pushT {X : Addr → Prop} {H : Hp} {p : Pn} {m : Wd} {n : Nat} {todo : List Tk} {res : List Vl} {ts : List V} {t0 e : Addr} {c : V} {act : Act} {t : Tr} {env : List (Int × Vl)} (h : PRn CP F C X H p m n todo res) (hT : H p.T = some (.lst ts)) (al : Als (RTk F C X H) ts todo.reverse)
    (ht : H t0 = none) (rt : RT H c t) (wt : widT t) (re : REn C X H e env) :
    (upd H t0 (.tup [.ref (F.at act), c, .ref e])) p.T = some (.lst ts) ∧ PRn CP F C X (upd (upd H t0 (.tup [.ref (F.at act), c, .ref e])) p.T (.lst (ts ++ [.ref t0]))) p m n (⟨act, t, env⟩ :: todo) res ∧
      Fr X H (upd (upd H t0 (.tup [.ref (F.at act), c, .ref e])) p.T (.lst (ts ++ [.ref t0]))) := by
  have f : Fr No H (upd H t0 (.tup [.ref (F.at act), c, .ref e])) := Fr.new ht
  have h1 := h.fr f
  have g := h1.setT (ts := ts ++ [.ref t0]) (todo' := ⟨act, t, env⟩ :: todo) (by
    rw [List.reverse_cons]
    exact (al.mono fun _ _ r => r.fr f.no).app (.one ⟨t0, c, e, rfl, upd_same, rt.keep f.tup, wt, re.fr f.no⟩))
  exact ⟨f.keep (fun z => z) rfl hT, g.1, f.no.trans g.2⟩
theorem scBc : FnScope ["run", "core", "variables", "part"] ["run", "core", "variables"] (defScope sBc) := ⟨rfl, rfl, rfl, by decide +kernel, rfl, by decide +kernel, by decide +kernel⟩
theorem ok_bc {f : Addr} {fd : FuncData} (Fn : Fun K "begin_call" "begin_call" sBc f fd) (U : FldC K CP fR5) (G : ActG mg F) : FnOk P w K mg base (L2.CX P w) 1 f fd ["run", "core", "variables"] (spA CP F C En P1 (fun t => word t = "call") goP) := by
  refine Fn.okX scBc (fun vs H Q E h => ?_) (fun cdv A outer s H vs Q E hr h => ?_)
  · obtain ⟨X, p, m, n, todo, res, c, t, e, env, rfl, _⟩ := h
    rfl
  obtain ⟨X, p, m, n, todo, res, c, t, e, env, rfl, st, rt, wt, wd, re, tg, ns, q, qe⟩ := h
  obtain ⟨tf, ts, rfl⟩ := word_call wd
  have lim := partF_at ns
  unfold goP at ns q qe
  unfold partF at ns q
  rw [if_neg lim] at ns q
  dsimp only at ns q
  have nd := scBc.nd
  have rt0 := rt
  have wt0 := wt
  unfold widT at wt
  cases rt with
  | @call a l x vs _ _ ha hl rf rs =>
  refine ⟨_, (pss_cons (ps_expr (pe_bm PySem.F.plainAttrs_list PySem.F.slot_list_append PySem.F.type_list_append mt_append (pe_fld (pv 0) rfl) (pa_cons (pe_tup (pa_cons (pe_glob (v := .ref F.ec) rfl G.ec rfl) (pa_cons (pv 1) (pa_cons (pv 2) pa_nil)))) pa_nil)))
    (pss_cons (ps_expr (pe_bm PySem.F.plainAttrs_list PySem.F.slot_list_extend PySem.F.type_list_extend mt_extend (pe_fld (pv 0) rfl) (pa_cons (pe_lc (own := [("part", 3)]) (g := gName 3) (tt := tYes) rfl nd (pi_tup (pe_revT (pe_ix (r := rIxT K) ix_tup (pv 1) pe_int (fun _ _ => rfl)))) (blkOk_by (N := ["run", "core", "variables", "part"]) (sc := defScope sBc) (by decide +kernel)) (fun _ _ _ _ _ => (pg_name (i := 3) nd rfl (Or.inl rfl) (hf := Or.inr rfl))) (fun _ _ _ _ _ => pts_nil) (fun _ _ _ _ _ => (pe_tup (pa_cons (pe_glob (v := .ref F.bg) rfl G.bg rfl) (pa_cons (pv 3) (pa_cons (pv 2) pa_nil)))))) pa_nil)))
    (pss_one (ps_expr (pe_bm PySem.F.plainAttrs_list PySem.F.slot_list_append PySem.F.type_list_append mt_append (pe_fld (pv 0) rfl) (pa_cons (pe_tup (pa_cons (pe_glob (v := .ref F.bg) rfl G.bg rfl) (pa_cons (pe_ix (r := rIxT K) ix_tup (pv 1) pe_int (fun _ _ => rfl)) (pa_cons (pv 2) pa_nil)))) pa_nil)))))), ?_⟩
  obtain ⟨us, t1, t2⟩ := st.t
  have lu : us.length < 1000000 := by
    rw [t2.len, List.length_reverse]
    exact Nat.lt_of_not_le fun z => lim (.inl z)
  refine ⟨_, rfl, p.R, CP, p.dx, _, _, rfl, st.r, U.c, U.n _ (by simp), rfl, .inl ⟨rfl, _, SqL.of t1⟩, ?_⟩
  refine ⟨_, rfl, _, rfl, by show 3 ≤ sizeLine; decide, fun t0 ht0 => ?_⟩
  obtain ⟨g1, st1, f1⟩ := st.pushT (act := .endCall) (t0 := t0) t1 t2 ht0 rt0 wt0 re
  refine ⟨p.T, _, _, rfl, rfl, g1, Nat.lt_of_lt_of_le lu (by decide), ?_⟩
  have u1 : (upd (upd H t0 (.tup [.ref F.ec, .ref a, .ref e])) p.T (.lst (us ++ [.ref t0]))) p.T = some (.lst (us ++ [.ref t0])) := upd_same
  have st1 : PRn CP F C X (upd (upd H t0 (.tup [.ref F.ec, .ref a, .ref e])) p.T (.lst (us ++ [.ref t0]))) p m n (⟨.endCall, .call tf ts, env⟩ :: todo) res := st1
  have f1 : Fr X H (upd (upd H t0 (.tup [.ref F.ec, .ref a, .ref e])) p.T (.lst (us ++ [.ref t0]))) := f1
  refine ⟨_, rfl, p.R, CP, p.dx, _, _, rfl, st1.r, U.c, U.n _ (by simp), rfl, .inl ⟨rfl, _, SqL.of u1⟩, ?_⟩
  have rt1 := rt0.keep f1.tup
  have re1 := re.fr f1
  have ha1 := f1.tup _ _ ha
  have hl1 := f1.tup _ _ hl
  have rs1 := rs.keep f1.tup
  have rf1 := rf.keep f1.tup
  generalize hus : us ++ [V.ref t0] = us1 at u1 st1 f1 rt1 re1 ha1 hl1 rs1 rf1 ⊢
  have lu1 : us1.length ≤ 1000000 := by rw [← hus, List.length_append]; show us.length + 1 ≤ _; omega
  generalize upd (upd H t0 (.tup [.ref F.ec, .ref a, .ref e])) p.T (.lst us1) = H1 at u1 st1 f1 rt1 re1 ha1 hl1 rs1 rf1 ⊢
  refine ⟨_, rfl, a, _, 2, _, rfl, rfl, SqT.of ha1, atI_nat (j := 2) rfl, l, vs, rfl, SqT.of hl1, fun pr hpr => ?_⟩
  have f2 : Fr No H1 (upd H1 pr (.tup vs.reverse)) := Fr.new hpr
  have hpr1 : upd H1 pr (.tup vs.reverse) pr = some (.tup vs.reverse) := upd_same
  generalize upd H1 pr (.tup vs.reverse) = H2 at f2 hpr1 ⊢
  refine ⟨pr, rfl, ⟨_, SqT.of hpr1⟩, fun D hD => ?_⟩
  have hD1 : H1 D = none := f2.dom hD
  have rsr := rs1.rev
  have lts : vs.length = ts.length := rs1.len
  refine lc_tup (xs := vs.reverse) (fun i H' => ∃ ws, H' D = some (.lst ws) ∧ ws.length = i ∧ H' pr = some (.tup vs.reverse) ∧ Als (BgT F e H1 H') ws (ts.reverse.take i) ∧ Fr No H1 H') ⟨[], upd_same, rfl, (Fr.new (X := No) hD).tup _ _ hpr1, by rw [List.take_zero]; exact .nil, f2.trans (Fr.new hD)⟩ (fun i H' _ ⟨_, _, _, h, _⟩ => SqT.of h) ?_ ?_
  · rintro i x1 H' hi ⟨ws, h1, h2, h3, h4, h5⟩
    obtain ⟨t1', e1, r1⟩ := rsr.get hi
    have il : i < ts.reverse.length := (List.getElem?_eq_some_iff.mp e1).1
    rw [List.length_reverse] at il
    refine ⟨rfl, _, rfl, _, rfl, by show 3 ≤ sizeLine; decide, fun q1 hq1 => ?_⟩
    have nqD : D ≠ q1 := fun z => by rw [z, hq1] at h1; cases h1
    have e2 : upd H' q1 (.tup [.ref F.bg, x1, .ref e]) D = some (.lst ws) := by rw [upd_ne nqD]; exact h1
    have fN : Fr No H1 (upd (upd H' q1 (.tup [.ref F.bg, x1, .ref e])) D (.lst (ws ++ [.ref q1]))) := (h5.trans (Fr.new hq1)).mut hD1 e2 rfl
    have kN : Fr (fun b => b = D) (upd H' q1 (.tup [.ref F.bg, x1, .ref e])) (upd (upd H' q1 (.tup [.ref F.bg, x1, .ref e])) D (.lst (ws ++ [.ref q1]))) := Fr.set rfl e2 rfl
    have kT : KpT H' (upd (upd H' q1 (.tup [.ref F.bg, x1, .ref e])) D (.lst (ws ++ [.ref q1]))) := (Fr.new (X := No) hq1).tup.trans kN.tup
    refine ⟨ws, e2, by rw [h2]; exact line_of (by omega), ws ++ [.ref q1], upd_same, by simp [h2], kT _ _ h3, ?_, fN⟩
    rw [take_more e1]
    exact (h4.mono fun _ _ b => b.keep kT).app (.one ⟨q1, x1, rfl, kN.tup _ _ upd_same, r1⟩)
  rintro H' ⟨ws, h1, h2, h3, h4, h5⟩
  rw [List.length_reverse, lts, ← List.length_reverse, List.take_length] at h4
  have st2 := st1.fr h5
  have hT2 := h5.keep (fun z => z) rfl u1
  have al2 : Als (RTk F C X H') us1 (⟨.endCall, .call tf ts, env⟩ :: todo : List Tk).reverse := by
    obtain ⟨ts', e1, e2⟩ := st2.t
    rw [hT2] at e1
    cases e1
    exact e2
  have wts : ∀ t ∈ ts.reverse, widT t := fun t m => widTs_mem wt.2.2 t (List.mem_reverse.mp m)
  have bd := bgs_done (C := C) (X := X) (env := env) h5.no re1 h4 wts
  have g2 := st2.setT (ts := us1 ++ ws) (todo' := bgs ts env ++ ⟨.endCall, .call tf ts, env⟩ :: todo) (by
    rw [List.reverse_append, ← bgs_rev]
    exact al2.app bd)
  have lws : ws.length ≤ 900 := by rw [h2, List.length_reverse, lts]; exact wt.1
  refine ⟨p.T, D, _, _, rfl, rfl, hT2, h1, Nat.le_trans (show us1.length + ws.length ≤ 1000900 by omega) (by decide), ?_⟩
  have u3 : upd H' p.T (.lst (us1 ++ ws)) p.T = some (.lst (us1 ++ ws)) := upd_same
  obtain ⟨st3, f3⟩ := g2
  have f13 : Fr X H1 (upd H' p.T (.lst (us1 ++ ws))) := h5.no.trans f3
  have al3 : Als (RTk F C X (upd H' p.T (.lst (us1 ++ ws)))) (us1 ++ ws) (bgs ts env ++ ⟨.endCall, .call tf ts, env⟩ :: todo : List Tk).reverse := by
    obtain ⟨ts', e1, e2⟩ := st3.t
    rw [u3] at e1
    cases e1
    exact e2
  have l3 : (us1 ++ ws).length ≤ 1000900 := by rw [List.length_append]; omega
  generalize us1 ++ ws = us3 at u3 st3 f13 al3 l3 ⊢
  generalize upd H' p.T (.lst us3) = H3 at u3 st3 f13 al3 ⊢
  refine ⟨_, rfl, p.R, CP, p.dx, _, _, rfl, st3.r, U.c, U.n _ (by simp), rfl, .inl ⟨rfl, _, SqL.of u3⟩, ?_⟩
  refine ⟨_, rfl, a, _, 1, _, rfl, rfl, SqT.of (f13.tup _ _ ha1), at1 _ _ _, _, rfl, by show 3 ≤ sizeLine; decide, fun t4 ht4 => ?_⟩
  obtain ⟨g4, st4, f4⟩ := st3.pushT (act := .begin) (t0 := t4) u3 al3 ht4 (rf1.keep f13.tup) wt.2.1 (re1.fr f13)
  refine ⟨p.T, _, _, rfl, rfl, g4, Nat.lt_of_le_of_lt l3 (by decide), ?_⟩
  exact q _ _ _ rfl _ (f1.trans (f13.trans f4)) st4
end
end My
namespace My
open PySem PySem.Spec PyProof.Rows L2 TL
/-- a pair (number, part) -/
def NuP (H : Hp) (v : V) (t : Tr) : Prop := ∃ (q : Addr) (x : V) (n : Int), v = .ref q ∧ H q = some (.tup [.int n, x]) ∧ RT H x t
theorem RTp.nu {H : Hp} : ∀ {vs : List V} {ns : List Int} {ts : List Tr}, RTp H vs ns ts → Als (NuP H) vs ts
  | _, _, _, .nil => .nil
  | _, _, _, .cons h r rs => .cons ⟨_, _, _, rfl, h, r⟩ (RTp.nu rs)
section
variable {α : Type} {R : V → α → Prop}
theorem Als.rev : ∀ {vs : List V} {xs : List α}, Als R vs xs → Als R vs.reverse xs.reverse
  | _, _, .nil => .nil
  | _, _, .cons r rs => by
    rw [List.reverse_cons, List.reverse_cons]
    exact (Als.rev rs).app (.one r)
theorem Als.get : ∀ {vs : List V} {xs : List α} {i : Nat} {v : V}, Als R vs xs → vs[i]? = some v → ∃ x, xs[i]? = some x ∧ R v x
  | _, _, _, _, .nil, e => by simp at e
  | _, _, 0, _, .cons r _, e => by cases e; exact ⟨_, rfl, r⟩
  | _, _, i + 1, _, .cons _ rs, e => by
    obtain ⟨t, h1, h2⟩ := Als.get (i := i) rs (by simpa using e)
    exact ⟨t, by simpa using h1, h2⟩
end
section
variable {P : Program} {w : World} {K : PySem.W.Frag} {mg : Str → Option Value} {base : Heap} {CP En P1 : Addr} {F : Acts} {C : Cs}
theorem scBt : FnScope ["run", "core", "variables", "number", "part"] ["run", "core", "variables"] (defScope sBt) := ⟨rfl, rfl, rfl, by decide +kernel, rfl, by decide +kernel, by decide +kernel⟩
theorem ok_bt {f : Addr} {fd : FuncData} (Fn : Fun K "begin_let" "begin_let" sBt f fd) (U : FldC K CP fR5) (G : ActG mg F) : FnOk P w K mg base (L2.CX P w) 1 f fd ["run", "core", "variables"] (spA CP F C En P1 (fun t => word t = "let") goP) := by
  refine Fn.okX scBt (fun vs H Q E h => ?_) (fun cdv A outer s H vs Q E hr h => ?_)
  · obtain ⟨X, p, m, n, todo, res, c, t, e, env, rfl, _⟩ := h
    rfl
  obtain ⟨X, p, m, n, todo, res, c, t, e, env, rfl, st, rt, wt, wd, re, tg, ns, q, qe⟩ := h
  obtain ⟨ls, ts, tb, rfl⟩ := word_let wd
  have lim := partF_at ns
  unfold goP at ns q qe
  unfold partF at ns q
  rw [if_neg lim] at ns q
  dsimp only at ns q
  have nd := scBt.nd
  have rt0 := rt
  have wt0 := wt
  unfold widT at wt
  cases rt with
  | @let_ a l x vs _ _ _ ha hl rs rb =>
  refine ⟨_, (pss_cons (ps_expr (pe_bm PySem.F.plainAttrs_list PySem.F.slot_list_append PySem.F.type_list_append mt_append (pe_fld (pv 0) rfl) (pa_cons (pe_tup (pa_cons (pe_glob (v := .ref F.el) rfl G.el rfl) (pa_cons (pv 1) (pa_cons (pv 2) pa_nil)))) pa_nil)))
    (pss_one (ps_expr (pe_bm PySem.F.plainAttrs_list PySem.F.slot_list_extend PySem.F.type_list_extend mt_extend (pe_fld (pv 0) rfl) (pa_cons (pe_lc (own := [("number", 3), ("part", 4)]) (g := gTup K 2 (gCons (gName 3) (gCons (gName 4) gNil))) (tt := tYes) rfl nd (pi_tup (pe_revT (pe_ix (r := rIxT K) ix_tup (pv 1) pe_int (fun _ _ => rfl)))) (blkOk_by (N := ["run", "core", "variables", "number", "part"]) (sc := defScope sBt) (by decide +kernel)) (fun _ _ _ _ _ => (pg_tup rfl (pgs_cons (pg_name (i := 3) nd rfl (Or.inl rfl) (hf := Or.inr rfl)) (pgs_cons (pg_name (i := 4) nd rfl (Or.inl rfl) (hf := Or.inr rfl)) pgs_nil)))) (fun _ _ _ _ _ => pts_nil) (fun _ _ _ _ _ => (pe_tup (pa_cons (pe_glob (v := .ref F.bg) rfl G.bg rfl) (pa_cons (pv 4) (pa_cons (pv 2) pa_nil)))))) pa_nil))))), ?_⟩
  obtain ⟨us, t1, t2⟩ := st.t
  have lu : us.length < 1000000 := by
    rw [t2.len, List.length_reverse]
    exact Nat.lt_of_not_le fun z => lim (.inl z)
  refine ⟨_, rfl, p.R, CP, p.dx, _, _, rfl, st.r, U.c, U.n _ (by simp), rfl, .inl ⟨rfl, _, SqL.of t1⟩, ?_⟩
  refine ⟨_, rfl, _, rfl, by show 3 ≤ sizeLine; decide, fun t0 ht0 => ?_⟩
  obtain ⟨g1, st1, f1⟩ := st.pushT (act := .endLet) (t0 := t0) t1 t2 ht0 rt0 wt0 re
  refine ⟨p.T, _, _, rfl, rfl, g1, Nat.lt_of_lt_of_le lu (by decide), ?_⟩
  have u1 : (upd (upd H t0 (.tup [.ref F.el, .ref a, .ref e])) p.T (.lst (us ++ [.ref t0]))) p.T = some (.lst (us ++ [.ref t0])) := upd_same
  have st1 : PRn CP F C X (upd (upd H t0 (.tup [.ref F.el, .ref a, .ref e])) p.T (.lst (us ++ [.ref t0]))) p m n (⟨.endLet, .let_ ls ts tb, env⟩ :: todo) res := st1
  have f1 : Fr X H (upd (upd H t0 (.tup [.ref F.el, .ref a, .ref e])) p.T (.lst (us ++ [.ref t0]))) := f1
  refine ⟨_, rfl, p.R, CP, p.dx, _, _, rfl, st1.r, U.c, U.n _ (by simp), rfl, .inl ⟨rfl, _, SqL.of u1⟩, ?_⟩
  have rt1 := rt0.keep f1.tup
  have re1 := re.fr f1
  have ha1 := f1.tup _ _ ha
  have hl1 := f1.tup _ _ hl
  have rs1 := (rs.keep f1.tup).nu
  generalize hus : us ++ [V.ref t0] = us1 at u1 st1 f1 rt1 re1 ha1 hl1 rs1 ⊢
  have lu1 : us1.length ≤ 1000000 := by rw [← hus, List.length_append]; show us.length + 1 ≤ _; omega
  generalize upd (upd H t0 (.tup [.ref F.el, .ref a, .ref e])) p.T (.lst us1) = H1 at u1 st1 f1 rt1 re1 ha1 hl1 rs1 ⊢
  refine ⟨_, rfl, a, _, 1, _, rfl, rfl, SqT.of ha1, at1 _ _ _, l, vs, rfl, SqT.of hl1, fun pr hpr => ?_⟩
  have f2 : Fr No H1 (upd H1 pr (.tup vs.reverse)) := Fr.new hpr
  have hpr1 : upd H1 pr (.tup vs.reverse) pr = some (.tup vs.reverse) := upd_same
  generalize upd H1 pr (.tup vs.reverse) = H2 at f2 hpr1 ⊢
  refine ⟨pr, rfl, ⟨_, SqT.of hpr1⟩, fun D hD => ?_⟩
  have hD1 : H1 D = none := f2.dom hD
  have rsr := rs1.rev
  have lts : vs.length = ts.length := rs1.len
  have lnt : ts.length ≤ 1000 := by rw [(rs.len).2]; exact wt.1
  refine lc_tup (xs := vs.reverse) (fun i H' => ∃ ws, H' D = some (.lst ws) ∧ ws.length = i ∧ H' pr = some (.tup vs.reverse) ∧ Als (BgT F e H1 H') ws (ts.reverse.take i) ∧ Fr No H1 H') ⟨[], upd_same, rfl, (Fr.new (X := No) hD).tup _ _ hpr1, by rw [List.take_zero]; exact .nil, f2.trans (Fr.new hD)⟩ (fun i H' _ ⟨_, _, _, h, _⟩ => SqT.of h) ?_ ?_
  · rintro i y1 H' hi ⟨ws, h1, h2, h3, h4, h5⟩
    obtain ⟨t1', e1, q0, x1, n0, rfl, hq0, r1⟩ := rsr.get hi
    have il : i < ts.reverse.length := (List.getElem?_eq_some_iff.mp e1).1
    rw [List.length_reverse] at il
    refine ⟨q0, _, rfl, SqT.of (h5.tup _ _ hq0), rfl, _, _, rfl, ?_⟩
    refine ⟨_, _, rfl, rfl, rfl, ?_⟩
    refine ⟨_, rfl, _, rfl, by show 3 ≤ sizeLine; decide, fun q1 hq1 => ?_⟩
    have nqD : D ≠ q1 := fun z => by rw [z, hq1] at h1; cases h1
    have e2 : upd H' q1 (.tup [.ref F.bg, x1, .ref e]) D = some (.lst ws) := by rw [upd_ne nqD]; exact h1
    have fN : Fr No H1 (upd (upd H' q1 (.tup [.ref F.bg, x1, .ref e])) D (.lst (ws ++ [.ref q1]))) := (h5.trans (Fr.new hq1)).mut hD1 e2 rfl
    have kN : Fr (fun b => b = D) (upd H' q1 (.tup [.ref F.bg, x1, .ref e])) (upd (upd H' q1 (.tup [.ref F.bg, x1, .ref e])) D (.lst (ws ++ [.ref q1]))) := Fr.set rfl e2 rfl
    have kT : KpT H' (upd (upd H' q1 (.tup [.ref F.bg, x1, .ref e])) D (.lst (ws ++ [.ref q1]))) := (Fr.new (X := No) hq1).tup.trans kN.tup
    refine ⟨ws, e2, by rw [h2]; exact line_of (by omega), ws ++ [.ref q1], upd_same, by simp [h2], kT _ _ h3, ?_, fN⟩
    rw [take_more e1]
    exact (h4.mono fun _ _ b => b.keep kT).app (.one ⟨q1, x1, rfl, kN.tup _ _ upd_same, r1⟩)
  rintro H' ⟨ws, h1, h2, h3, h4, h5⟩
  rw [List.length_reverse, lts, ← List.length_reverse, List.take_length] at h4
  have st2 := st1.fr h5
  have hT2 := h5.keep (fun z => z) rfl u1
  have al2 : Als (RTk F C X H') us1 (⟨.endLet, .let_ ls ts tb, env⟩ :: todo : List Tk).reverse := by
    obtain ⟨ts', e1, e2⟩ := st2.t
    rw [hT2] at e1
    cases e1
    exact e2
  have wts : ∀ t ∈ ts.reverse, widT t := fun t m => widTs_mem wt.2.1 t (List.mem_reverse.mp m)
  have bd := bgs_done (C := C) (X := X) (env := env) h5.no re1 h4 wts
  have g2 := st2.setT (ts := us1 ++ ws) (todo' := bgs ts env ++ ⟨.endLet, .let_ ls ts tb, env⟩ :: todo) (by
    rw [List.reverse_append, ← bgs_rev]
    exact al2.app bd)
  have lws : ws.length ≤ 1000 := by rw [h2, List.length_reverse, lts]; exact lnt
  refine ⟨p.T, D, _, _, rfl, rfl, hT2, h1, Nat.le_trans (show us1.length + ws.length ≤ 1001000 by omega) (by decide), ?_⟩
  exact q _ _ _ rfl _ (f1.trans (h5.no.trans g2.2)) g2.1
end
end My
namespace My
open PySem PySem.Spec PyProof.Rows L2 TL
theorem rev_cut {α : Type} (xs : List α) (k : Nat) (h : k ≤ xs.length) : xs.reverse.take (xs.length - k) = (xs.drop k).reverse ∧ xs.reverse.drop (xs.length - k) = (xs.take k).reverse := by
  have e : xs.reverse = (xs.drop k).reverse ++ (xs.take k).reverse := by rw [← List.reverse_append, List.take_append_drop]
  have l : (xs.drop k).reverse.length = xs.length - k := by rw [List.length_reverse, List.length_drop]
  rw [e, ← l]
  exact ⟨List.take_left, List.drop_left⟩
abbrev sEl : Stmt := top 59
abbrev sEc : Stmt := top 63
section
variable {P : Program} {w : World} {K : PySem.W.Frag} {mg : Str → Option Value} {base : Heap} {CP En P1 : Addr} {F : Acts} {C : Cs}
/-- the last k results are taken -/
theorem PRn.takeS {X : Addr → Prop} {H : Hp} {p : Pn} {m : Wd} {n k : Nat} {todo : List Tk} {res : List Vl} {rs : List V} {q : Addr} (h : PRn CP F C X H p m n todo res) (hs : H p.S = some (.lst rs)) (r : RVs C X H rs res.reverse) (hk : k ≤ res.length) (hq : H q = none) :
    k ≤ rs.length ∧ PRn CP F C X (upd (upd H q (.lst (rs.drop (rs.length - k)))) p.S (.lst (rs.take (rs.length - k)))) p m n todo (res.drop k) ∧ Fr X H (upd (upd H q (.lst (rs.drop (rs.length - k)))) p.S (.lst (rs.take (rs.length - k)))) ∧
      (upd (upd H q (.lst (rs.drop (rs.length - k)))) p.S (.lst (rs.take (rs.length - k)))) q = some (.lst (rs.drop (rs.length - k))) ∧ RVs C X (upd (upd H q (.lst (rs.drop (rs.length - k)))) p.S (.lst (rs.take (rs.length - k)))) (rs.drop (rs.length - k)) (res.take k).reverse ∧ ¬ X q := by
  have lr : rs.length = res.length := by rw [r.len, List.length_reverse]
  obtain ⟨c1, c2⟩ := rev_cut res k hk
  have f : Fr No H (upd H q (.lst (rs.drop (rs.length - k)))) := Fr.new hq
  have h1 := h.fr f
  have r1 := r.fr f.no
  have ra := r1.take (rs.length - k)
  have rb := r1.drop (rs.length - k)
  have ra' : RVs C X (upd H q (.lst (rs.drop (rs.length - k)))) (rs.take (rs.length - k)) (res.drop k).reverse := by rw [← c1, ← lr]; exact ra
  have rb' : RVs C X (upd H q (.lst (rs.drop (rs.length - k)))) (rs.drop (rs.length - k)) (res.take k).reverse := by rw [← c2, ← lr]; exact rb
  have g := h1.setS ra'
  have nq : q ≠ p.S := fun z => by rw [z, hs] at hq; cases hq
  exact ⟨by omega, g.1, f.no.trans g.2, by rw [upd_ne nq]; exact upd_same, rb'.fr g.2, fun z => h.dom q z hq⟩
theorem scEl : FnScope ["run", "core", "variables", "results"] ["run", "core", "variables"] (defScope sEl) := ⟨rfl, rfl, rfl, by decide +kernel, rfl, by decide +kernel, by decide +kernel⟩
def goEl : Wd → Tr → List (Int × Vl) → Nat → List Tk → List Vl → PRes := fun _ t env n todo res => endLetF t env n todo res
def goEc : Wd → Tr → List (Int × Vl) → Nat → List Tk → List Vl → PRes := fun _ t _ n todo res => endCallF t n todo res
theorem ok_el {f fT fB fW : Addr} {fd dT dB dW : FuncData} (Fn : Fun K "end_let" "end_let" sEl f fd) (B : Blt mg) (U : FldC K CP fR5) (G : ActG mg F) (GT : Cal P w K mg base CX0 1 "take_last" ["stack", "many"] spTak fT dT)
    (GB : Cal P w K mg base CX0 1 "bound_numbers" ["core"] spBn fB dB) (GW : Cal P w K mg base CX0 1 "with_variables" ["variables", "numbers", "results"] (spWv C) fW dW) :
    FnOk P w K mg base (L2.CX P w) 2 f fd ["run", "core", "variables"] (spA CP F C En P1 (fun t => word t = "let") goEl) := by
  refine Fn.okX scEl (fun vs H Q E h => ?_) (fun cdv A outer s H vs Q E hr h => ?_)
  · obtain ⟨X, p, m, n, todo, res, c, t, e, env, rfl, _⟩ := h
    rfl
  obtain ⟨X, p, m, n, todo, res, c, t, e, env, rfl, st, rt, wt, wd, re, tg, ns, q, qe⟩ := h
  obtain ⟨ls, ts, tb, rfl⟩ := word_let wd
  unfold goEl at ns q qe
  unfold endLetF at ns q
  dsimp only at ns q
  have cond : ts.length ≤ res.length ∧ ls.length = ts.length ∧ env.length + ls.length ≤ 1000000 ∧ todo.length < many := by
    by_cases c : ts.length ≤ res.length ∧ ls.length = ts.length ∧ env.length + ls.length ≤ 1000000 ∧ todo.length < many
    · exact c
    · rw [if_neg c] at ns; exact absurd rfl ns
  rw [if_pos cond] at q
  obtain ⟨c1, c2, c3, c4⟩ := cond
  have nd := scEl.nd
  have rt0 := rt
  have wt0 := wt
  unfold widT at wt
  cases rt with
  | @let_ a l x vs _ _ _ ha hl rs rb =>
  have lv : vs.length = ts.length := by rw [rs.len.1, rs.len.2]
  obtain ⟨us, s1, s2⟩ := st.s
  refine ⟨_, (pss_cons (ps_set (i := 3) nd rfl (Or.inl rfl) (pe_call GT.ok hr rfl GT.g GT.k GT.b .nil pass0 (pa_cons (pe_fld (pv 0) rfl) (pa_cons (pe_callB call_len_seq (by rfl) B.len PySem.boot_len (pa_cons (pe_ix (r := rIxT K) ix_tup (pv 1) pe_int (fun _ _ => rfl)) pa_nil)) pa_nil))))
    (pss_one (ps_expr (pe_bm PySem.F.plainAttrs_list PySem.F.slot_list_append PySem.F.type_list_append mt_append (pe_fld (pv 0) rfl) (pa_cons (pe_tup (pa_cons (pe_glob (v := .ref F.bg) rfl G.bg rfl) (pa_cons (pe_ix (r := rIxT K) ix_tup (pv 1) pe_int (fun _ _ => rfl)) (pa_cons (pe_call GW.ok hr rfl GW.g GW.k GW.b .nil pass0 (pa_cons (pv 2) (pa_cons (pe_call GB.ok hr rfl GB.g GB.k GB.b .nil pass0 (pa_cons (pv 1) pa_nil)) (pa_cons (pv 3) pa_nil)))) pa_nil)))) pa_nil))))), ?_⟩
  refine ⟨_, rfl, p.R, CP, p.dx, _, _, rfl, st.r, U.c, U.n _ (by simp), rfl, ?_⟩
  refine ⟨_, rfl, a, _, 1, _, rfl, rfl, SqT.of ha, at1 _ _ _, l, _, rfl, .inr (SqT.of hl), ?_⟩
  have hk : vs.length ≤ us.length := by rw [s2.len, List.length_reverse, lv]; exact c1
  refine ⟨p.S, us, vs.length, rfl, s1, hk, fun o ho => ?_⟩
  have g := st.takeS (k := vs.length) s1 s2 (by rw [lv]; exact c1) ho
  obtain ⟨g0, st1, f1, ho1, rp, nXo⟩ := g
  rw [← lv] at q
  have rt1 := rt0.keep f1.tup
  have re1 := re.fr f1
  have rb1 := rb.keep f1.tup
  have ha1 := f1.tup _ _ ha
  generalize upd (upd H o (.lst (us.drop (us.length - vs.length)))) p.S (.lst (us.take (us.length - vs.length))) = H1 at st1 f1 ho1 rp rt1 re1 rb1 ha1 ⊢
  obtain ⟨ts1, t1, t2⟩ := st1.t
  refine ⟨_, rfl, p.R, CP, p.dx, _, _, rfl, st1.r, U.c, U.n _ (by simp), rfl, .inl ⟨rfl, _, SqL.of t1⟩, ?_⟩
  refine ⟨_, rfl, a, _, 2, _, rfl, rfl, SqT.of ha1, atI_nat (j := 2) rfl, _, rfl, _, rfl, _, _, rfl, rt1, wt0, fun L H2 hL hL2 s2' => ?_⟩
  have f2 : Fr No H1 H2 := Fr.of s2'
  obtain ⟨kvs, k1, k2, k3, k4⟩ := re1.fr f2.no
  have ly : ((res.take vs.length).reverse).length = vs.length := by rw [List.length_reverse, List.length_take]; omega
  refine ⟨_, rfl, X, e, L, o, kvs, env, ls, _, _, rfl, k1, k3, hL2, f2.keep (fun z => z) rfl ho1, rp.fr f2.no, by rw [ly, lv]; exact c2, wt.1, k4, fun d H3 lvs f3 hd hd3 r3 => ?_⟩
  have f13 := f2.trans f3
  refine ⟨by show 3 ≤ sizeLine; decide, fun t4 ht4 => ?_⟩
  have re3 : REn C X H3 d (evPuts ls (res.take vs.length).reverse env) := ⟨lvs, hd3, fun z => st1.dom d z (f2.dom hd), r3, Nat.le_trans (evPuts_len _ _ _) c3⟩
  obtain ⟨g4, st4, f4⟩ := (st1.fr f13).pushT (act := .begin) (t0 := t4) (f13.keep (fun z => z) rfl t1) (t2.mono fun _ _ r => r.fr f13.no) ht4 (rb1.keep f13.tup) wt.2.2 re3
  refine ⟨p.T, _, _, rfl, rfl, g4, ?_, ?_⟩
  · rw [t2.len, List.length_reverse]
    exact Nat.lt_of_lt_of_le c4 (by decide)
  exact q _ _ _ rfl _ (f1.trans (f13.no.trans f4)) st4
theorem scEc : FnScope ["run", "core", "_", "parts", "called", "inside"] ["run", "core", "_"] (defScope sEc) := ⟨rfl, rfl, rfl, by decide +kernel, rfl, by decide +kernel, by decide +kernel⟩
theorem ok_ec {f fT fB fW fC fP : Addr} {fd dT dB dW dC dP : FuncData} (Fn : Fun K "end_call" "end_call" sEc f fd) (B : Blt mg) (VC : ValC K mg C) (U : FldC K CP fR5) (G : ActG mg F) (GT : Cal P w K mg base CX0 1 "take_last" ["stack", "many"] spTak fT dT)
    (GB : Cal P w K mg base CX0 1 "bound_numbers" ["core"] spBn fB dB) (GW : Cal P w K mg base CX0 1 "with_variables" ["variables", "numbers", "results"] (spWv C) fW dW) (GC : Cal P w K mg base (L2.CX P w) 3 "check_call" ["called", "parts"] (spChk C En) fC dC)
    (GP : Cal P w K mg base (L2.CX P w) 4 "call_primitive" ["name", "parts"] (spPrm C En P1) fP dP) :
    FnOk P w K mg base (L2.CX P w) 5 f fd ["run", "core", "_"] (spA CP F C En P1 (fun t => word t = "call") goEc) := by
  refine Fn.okX scEc (fun vs H Q E h => ?_) (fun cdv A outer s H vs Q E hr h => ?_)
  · obtain ⟨X, p, m, n, todo, res, c, t, e, env, rfl, _⟩ := h
    rfl
  obtain ⟨X, p, m, n, todo, res, c, t, e, env, rfl, st, rt, wt, wd, re, tg, ns, q, qe⟩ := h
  obtain ⟨tf, ts, rfl⟩ := word_call wd
  unfold goEc at ns q qe
  unfold endCallF at ns q qe
  dsimp only at ns q qe
  have r1 := hr.mono (show 1 ≤ 4 by decide)
  have r3 := hr.mono (show 3 ≤ 4 by decide)
  cases hd0 : res.drop ts.length with
  | nil => rw [hd0] at ns; exact absurd rfl ns
  | cons called res' =>
  rw [hd0] at ns q qe
  dsimp only at ns q qe
  have cond : ts.length ≤ 900 ∧ todo.length < many ∧ res.length < many := by
    by_cases c : ts.length ≤ 900 ∧ todo.length < many ∧ res.length < many
    · exact c
    · rw [if_neg c] at ns; exact absurd rfl ns
  rw [if_pos cond] at ns q qe
  obtain ⟨c1, c2, c3⟩ := cond
  have lk : ts.length + 1 + res'.length = res.length := by
    have := congrArg List.length hd0
    rw [List.length_drop, List.length_cons] at this
    omega
  have nd := scEc.nd
  unfold widT at wt
  cases rt with
  | @call a l x vs _ _ ha hl rf rs =>
  have lv : vs.length = ts.length := rs.len
  obtain ⟨us, s1, s2⟩ := st.s
  refine ⟨_, (pss_cons (ps_set (i := 3) nd rfl (Or.inl rfl) (pe_call GT.ok r1 rfl GT.g GT.k GT.b .nil pass0 (pa_cons (pe_fld (pv 0) rfl) (pa_cons (pe_callB call_len_seq (by rfl) B.len PySem.boot_len (pa_cons (pe_ix (r := rIxT K) ix_tup (pv 1) pe_int (fun _ _ => rfl)) pa_nil)) pa_nil))))
    (pss_cons (ps_set (i := 4) nd rfl (Or.inl rfl) (pe_bm0 PySem.F.plainAttrs_list PySem.F.slot_list_pop PySem.F.type_list_pop mt_pop (pe_fld (pv 0) rfl)))
    (pss_cons (ps_expr (pe_call GC.ok r3 rfl GC.g GC.k GC.b .nil (passes_call (takes_of rfl rfl rfl rfl) fun _ _ _ _ h => h) (pa_cons (pv 4) (pa_cons (pv 3) pa_nil))))
    (pss_cons (ps_if (pt_val (pe_callB call_isi (by rfl) B.isinstance (by decide +kernel) (pa_cons (pv 4) (pa_cons (pe_glob (v := .ref C.pr) rfl VC.gr rfl) pa_nil)))) (pss_cons (ps_expr (pe_bm PySem.F.plainAttrs_list PySem.F.slot_list_append PySem.F.type_list_append mt_append (pe_fld (pv 0) rfl) (pa_cons (pe_call GP.ok hr rfl GP.g GP.k GP.b .nil (passes_call (takes_of rfl rfl rfl rfl) fun _ _ _ _ h => h) (pa_cons (pe_fld (pv 4) rfl) (pa_cons (pv 3) pa_nil))) pa_nil)))
      (pss_one ps_retN)) pss_nil)
    (pss_cons (ps_set (i := 5) nd rfl (Or.inl rfl) (pe_call GW.ok r1 rfl GW.g GW.k GW.b .nil pass0 (pa_cons (pe_fld (pv 4) rfl) (pa_cons (pe_call GB.ok r1 rfl GB.g GB.k GB.b .nil pass0 (pa_cons (pe_fld (pv 4) rfl) pa_nil)) (pa_cons (pv 3) pa_nil)))))
    (pss_one (ps_expr (pe_bm PySem.F.plainAttrs_list PySem.F.slot_list_append PySem.F.type_list_append mt_append (pe_fld (pv 0) rfl) (pa_cons (pe_tup (pa_cons (pe_glob (v := .ref F.bg) rfl G.bg rfl) (pa_cons (pe_ix (r := rIxT K) ix_tup (pe_fld (pv 4) rfl) pe_int (fun _ _ => rfl)) (pa_cons (pv 5) pa_nil)))) pa_nil))))))))), ?_⟩
  refine ⟨_, rfl, p.R, CP, p.dx, _, _, rfl, st.r, U.c, U.n _ (by simp), rfl, ?_⟩
  refine ⟨_, rfl, a, _, 2, _, rfl, rfl, SqT.of ha, atI_nat (j := 2) rfl, l, _, rfl, .inr (SqT.of hl), ?_⟩
  have hk : vs.length ≤ us.length := by rw [s2.len, List.length_reverse, lv]; omega
  refine ⟨p.S, us, vs.length, rfl, s1, hk, fun o ho => ?_⟩
  have g := st.takeS (k := vs.length) s1 s2 (by rw [lv]; omega) ho
  obtain ⟨g0, st1, f1, ho1, rp, nXo⟩ := g
  rw [← lv] at hd0 q qe ns
  rw [hd0] at st1
  have ha1 := f1.tup _ _ ha
  have lo : (us.drop (us.length - vs.length)).length = vs.length := by rw [List.length_drop]; omega
  have ly : ((res.take vs.length).reverse).length = vs.length := by rw [List.length_reverse, List.length_take]; omega
  generalize us.drop (us.length - vs.length) = ps at st1 f1 ho1 rp ha1 lo ⊢
  generalize us.take (us.length - vs.length) = ws0 at st1 f1 ho1 rp ha1 ⊢
  generalize upd (upd H o (.lst ps)) p.S (.lst ws0) = H1 at st1 f1 ho1 rp ha1 ⊢
  obtain ⟨rs1, e1, e2⟩ := st1.s
  obtain ⟨v, ws, rfl, rv, rws⟩ := e2.last
  refine ⟨_, rfl, p.R, CP, p.dx, _, _, rfl, st1.r, U.c, U.n _ (by simp), rfl, .inl ⟨rfl, _, SqL.of e1⟩, ?_⟩
  refine ⟨p.S, _, v, rfl, rfl, e1, by simp, ?_⟩
  rw [List.dropLast_concat]
  obtain ⟨st2, f2⟩ := st1.setS (rs := ws) (res' := res') rws
  have nX2 := nXo
  have ho2 := f2.keep nXo rfl ho1
  have rp2 := rp.fr f2
  have rv2 := rv.fr f2
  have f12 := f1.trans f2
  have e3 : upd H1 p.S (.lst ws) p.S = some (.lst ws) := upd_same
  have rws2 := rws.fr f2
  generalize upd H1 p.S (.lst ws) = H2 at st2 f2 ho2 rp2 rv2 f12 e3 rws2 ⊢
  refine ⟨_, rfl, _, rfl, X, v, called, o, ps, rfl, rv2, ho2, fun ec H3 f3 => ?_, fun er ee => ?_⟩
  · rw [lo] at ec
    rw [ec] at q qe ns
    dsimp only at q qe ns
    have f13 := f12.trans f3.no
    have st3 := st2.fr f3
    have rv3 := rv2.fr f3.no
    have ho3 := f3.keep (fun z => z) rfl ho2
    have rp3 := rp2.fr f3.no
    have e33 := f3.keep (fun z => z) rfl e3
    have rws3 := rws2.fr f3.no
    refine ⟨_, rfl, _, _, _, _, _, rfl, .own _, rv3.ty VC, VC.prim called, _, rfl, ?_⟩
    cases rv3 with
    | int i hi => unfold chkF at ec; cases ec
    | pair h nn ra rb => unfold chkF at ec; cases ec
    | @prim b dx z hb nb =>
      refine iteT ?_
      dsimp only at q qe ns
      refine ⟨_, rfl, p.R, CP, p.dx, _, _, rfl, st3.r, U.c, U.n _ (by simp), rfl, .inl ⟨rfl, _, SqL.of e33⟩, ?_⟩
      refine ⟨_, rfl, b, C.pr, dx, _, _, rfl, hb, VC.fr.c, VC.fr.n _ (by simp), rfl, _, rfl, ?_⟩
      have ar : (((res.take vs.length).reverse).length : Int) = arP z := by
        rw [ly]
        exact (chk_par ec).symm
      refine ⟨X, z, o, ps, _, rfl, ho3, rp3, ar, f13.sm.tab _ tg, st3.dom, fun y ey u H4 f4 ru => ?_, fun er ee => ?_⟩
      · rw [ey] at q
        have st4 := st3.fr f4
        have e4 := f4.keep (fun z => z) rfl e33
        have g5 := st4.pushV e4 (rws3.fr f4.no) ru
        refine ⟨p.S, _, _, rfl, rfl, e4, ?_, ?_⟩
        · rw [rws.len, List.length_reverse]
          exact Nat.lt_of_lt_of_le (show res'.length < many by omega) (by decide)
        exact q _ _ _ rfl _ (f13.trans (f4.no.trans g5.2)) g5.1
      · rw [ee] at qe
        exact qe _ _ rfl _ f13 st3.r
    | @fnP b dx d c0 ls tb kvs ev hb nb rt2 wt2 hd' nd' rev =>
      refine iteF ?_
      dsimp only at q qe ns
      have cl : ev.length + ls.length ≤ 1000000 := by
        by_cases c : ev.length + ls.length ≤ 1000000
        · exact c
        · rw [if_neg c] at ns; exact absurd rfl ns
      rw [if_pos cl] at q
      have lp : ls.length = vs.length := by have := chk_par ec; exact Int.ofNat.inj this
      refine ⟨_, rfl, b, C.fu, dx, _, _, rfl, hb, VC.ff.c, VC.ff.n _ (by simp), rfl, _, rfl, b, C.fu, dx, _, _, rfl, hb, VC.ff.c, VC.ff.n _ (by simp), rfl, c0, _, rfl, rt2, wt2, fun L H4 hL hL4 s4 => ?_⟩
      have f4 : Fr No H3 H4 := Fr.of s4
      have wt3 := wt2
      unfold widT at wt3
      refine ⟨_, rfl, X, d, L, o, kvs, ev, ls, _, _, rfl, f4.keep (fun z => z) rfl hd', rev.fr f4.no, hL4, f4.keep (fun z => z) rfl ho3, rp3.fr f4.no, by rw [ly]; exact lp, wt3.1, by omega, fun g H5 lvs f5 hg hg5 r5 => ?_⟩
      have f35 := f4.trans f5
      obtain ⟨ts1, t1, t2⟩ := st3.t
      have st5 := st3.fr f35
      have hb5 := f35.keep (fun z => z) rfl hb
      refine ⟨_, rfl, p.R, CP, p.dx, _, _, rfl, st5.r, U.c, U.n _ (by simp), rfl, .inl ⟨rfl, _, SqL.of (f35.keep (fun z => z) rfl t1)⟩, ?_⟩
      cases rt2 with
      | @fn a2 q2 x2 _ _ ha2 hq2 rb2 =>
      refine ⟨_, rfl, b, C.fu, dx, _, _, rfl, hb5, VC.ff.c, VC.ff.n _ (by simp), rfl, _, _, 2, _, rfl, rfl, SqT.of (f35.tup _ _ ha2), atI_nat (j := 2) rfl, _, rfl, by show 3 ≤ sizeLine; decide, fun t4 ht4 => ?_⟩
      have re5 : REn C X H5 g (evPuts ls (res.take vs.length).reverse ev) := ⟨lvs, hg5, fun z => st3.dom g z (f4.dom hg), r5, Nat.le_trans (evPuts_len _ _ _) cl⟩
      obtain ⟨g4, st6, f6⟩ := st5.pushT (act := .begin) (t0 := t4) (f35.keep (fun z => z) rfl t1) (t2.mono fun _ _ r => r.fr f35.no) ht4 (rb2.keep f35.tup) wt3.2 re5
      refine ⟨p.T, _, _, rfl, rfl, g4, ?_, ?_⟩
      · rw [t2.len, List.length_reverse]
        exact Nat.lt_of_lt_of_le c2 (by decide)
      exact q _ _ _ rfl _ (f13.trans (f35.no.trans f6)) st6
    | fnM h nn rc he ne rk => exact absurd rfl ns
  · rw [lo] at ee
    rw [ee] at qe
    exact qe _ _ rfl _ f12 st2.r
end
end My
namespace My
open PySem PySem.Spec PyProof.Rows L2 TL
/-! ### a local name that holds one of several defs, which may raise -/
structure HeldX (P : Program) (w : World) (K : PySem.W.Frag) (mg : Str → Option Value) (base : Heap) (k : Nat) (f : Addr) (sp : Sp) : Prop where
  ex : ∃ (fd : FuncData) (ps : List Str), FnOk P w K mg base (L2.CX P w) k f fd ps sp ∧ PySem.W.keepIn K (.ref f) = true ∧ Binds K fd ps []
def tCallAX (i : Nat) (S : Addr → Sp → Prop) (E : XK) (t : TA) : TE := fun σ H Q => ∃ f sp, σ[i]? = some (some (.ref f)) ∧ S f sp ∧ t σ H fun vs H1 => sp vs H1 Q E
section
variable {X : Cx} {k i : Nat} {E : XK} {x : Str} {p pos : Pos} {e : Expr} {es : List Expr} {t : TA}
theorem pe_callAX {S : Addr → Sp → Prop} (A : ∀ f sp, S f sp → HeldX X.prog X.w X.K X.mg X.base k f sp) (hr : Room k X.A) (hN : X.N[i]? = some x) (hv : Vis X.env.scope x) (hx : Passes (L2.CX X.prog X.w) X E) (ha : PA X (e :: es) t)
    (hdb : (x == ("__debug__" : Str)) = false := by decide) (hcd : (x == ("__classdict__" : Str)) = false := by decide)
    (he : starEach (e :: es) X.env = (false, eval e X.env) :: starEach es X.env := by rfl) (hpl : (backTo pos (starEach es X.env)).any (·.1) = false := by rfl) : PE X (.Call (.Name x p) (e :: es) [] pos) (tCallAX i S E t) := by
  refine ⟨fun pins s σ H Q I h => ?_⟩
  obtain ⟨f, sp, hs, hS, ht⟩ := h
  obtain ⟨fd, ps, F, hk, hb⟩ := (A f sp hS).ex
  refine (pe_callL (i := i) (f := f) (sp := sp) (dvs := []) (E := E) F hr hN hv hk hb .nil hx ha hdb hcd he hpl).run pins s σ H Q I ⟨hs, ?_⟩
  have e0 : (fun (vs : List V) (H1 : Hp) => sp (vs ++ []) H1 Q E) = fun vs H1 => sp vs H1 Q E := by
    funext vs H1
    rw [List.append_nil]
  show t σ H (fun vs H1 => sp (vs ++ []) H1 Q E)
  rw [e0]
  exact ht
end

abbrev sDfn : Stmt := inClass (top 13) 2
/-- definition(self, module, name) -/
def spDfn (CR : Addr) (C : Cs) (En : Addr) : Sp := fun vs H Q E => ∃ (X : Addr → Prop) (R dx D : Addr) (fs : List (Str × V)) (a b : Str) (gl : Gl), vs = [.ref R, .str a, .str b] ∧ H R = some (.ins CR dx fs) ∧ fs.lookup ("defined" : Str) = some (.ref D) ∧ RDf C X H D gl ∧
  (∀ x, glGet (a, b) gl = some x → ∀ u H', Fr No H H' → RV C X H' u x → Q u H') ∧ (glGet (a, b) gl = none → erX No En ["error", "early"] H E)
abbrev sBg : Stmt := top 55
abbrev sEif : Stmt := top 61
abbrev sBeg : Stmt := top 65
def goEi : Wd → Tr → List (Int × Vl) → Nat → List Tk → List Vl → PRes := fun _ t env n todo res => endIfF t env n todo res
def goB : Wd → Tr → List (Int × Vl) → Nat → List Tk → List Vl → PRes := fun m t env n todo res => beginF m t env n todo res
def begW : List Str := ["int", "local", "global", "prim", "fn", "let", "if", "call"]
section
variable {P : Program} {w : World} {K : PySem.W.Frag} {mg : Str → Option Value} {base : Heap} {CP En P1 : Addr} {F : Acts} {C : Cs}
theorem scDfn : FnScope ["self", "module", "name"] ["self", "module", "name"] (defScope sDfn) := ⟨rfl, rfl, rfl, by decide +kernel, rfl, by decide +kernel, by decide +kernel⟩
theorem ok_dfn {f CR fE : Addr} {fd dE : FuncData} (F0 : Fun K "definition" "Run.definition" sDfn f fd) (U : FldC K CR ["defined"]) (XE : ErrO P w K mg base En fE dE) : FnOk P w K mg base (L2.CX P w) 3 f fd ["self", "module", "name"] (spDfn CR C En) := by
  refine F0.okX scDfn (fun vs H Q E h => ?_) (fun cdv A outer s H vs Q E hr h => ?_)
  · obtain ⟨X, R, dx, D, fs, a, b, gl, rfl, _⟩ := h
    rfl
  obtain ⟨X, R, dx, D, fs, a, b, gl, rfl, hR, ld, ⟨kvs, hD, rg⟩, q, qe⟩ := h
  have nd := scDfn.nd
  have hu := hu_of hr
  refine ⟨_, (pss_cons (ps_if (pt_cmp (pc_dnotin hu (pe_tup (pa_cons (pv 1) (pa_cons (pv 2) pa_nil))) (pe_fld (pv 0) rfl))) (pss_one (ps_raise rfl (takes_of rfl rfl rfl rfl) (pmk_oex XE.o XE.iC XE.tI XE.f hr XE.b .nil pass0 rfl XE.g (pa_cons (pe_tup (pa_cons pe_str (pa_cons pe_str pa_nil))) pa_nil)))) pss_nil)
    (pss_one (ps_ret (pe_dget hu (pe_fld (pv 0) rfl) (pe_tup (pa_cons (pv 1) (pa_cons (pv 2) pa_nil))) (fun _ _ => rfl))))), ?_⟩
  refine ⟨_, rfl, _, rfl, by show 2 ≤ sizeLine; decide, fun t ht => ?_⟩
  have ft : Fr No H (upd H t (.tup [.str a, .str b])) := Fr.new ht
  have et : upd H t (.tup [.str a, .str b]) t = some (.tup [.str a, .str b]) := upd_same
  have hR1 := ft.keep (fun z => z) rfl hR
  have hD1 := ft.keep (fun z => z) rfl hD
  generalize upd H t (.tup [.str a, .str b]) = H1 at ft et hR1 hD1 ⊢
  obtain ⟨g1, g2⟩ := rg.get (k := (a, b))
  refine ⟨_, rfl, R, CR, dx, _, _, rfl, hR1, U.c, U.n _ (by simp), ld, D, _, rfl, .inr ⟨kvs, glK (a, b), t, .inl hD1, rfl, et, rfl⟩, ?_⟩
  cases hg : glGet (a, b) gl with
  | none =>
    rw [g2 hg]
    exact ⟨_, rfl, iteT (mkO_2 ((qe hg).fr ft))⟩
  | some x =>
    obtain ⟨v, hv, rv⟩ := g1 x hg
    rw [hv]
    refine ⟨_, rfl, iteF ?_⟩
    refine ⟨_, rfl, R, CR, dx, _, _, rfl, hR1, U.c, U.n _ (by simp), ld, _, rfl, _, rfl, by show 2 ≤ sizeLine; decide, fun t2 ht2 => ?_⟩
    have ft2 : Fr No H1 (upd H1 t2 (.tup [.str a, .str b])) := Fr.new ht2
    have f02 := ft.trans ft2
    refine ⟨D, v, rfl, .inr ⟨kvs, glK (a, b), t2, .inl (ft2.keep (fun z => z) rfl hD1), rfl, upd_same, hv.symm⟩, q x hg v _ f02 (rv.fr f02.no)⟩
theorem scBg : FnScope ["run", "core", "_"] ["run", "core", "_"] (defScope sBg) := ⟨rfl, rfl, rfl, by decide +kernel, rfl, by decide +kernel, by decide +kernel⟩
theorem ok_bg {f fD : Addr} {fd dD : FuncData} (Fn : Fun K "begin_global" "begin_global" sBg f fd) (U : FldC K CP fR5) (MD : MCal P w K mg base (L2.CX P w) 3 CP "definition" ["self", "module", "name"] (spDfn CP C En) fD dD) : FnOk P w K mg base (L2.CX P w) 4 f fd ["run", "core", "_"] (spA CP F C En P1 (fun t => word t = "global") goP) := by
  refine Fn.okX scBg (fun vs H Q E h => ?_) (fun cdv A outer s H vs Q E hr h => ?_)
  · obtain ⟨X, p, m, n, todo, res, c, t, e, env, rfl, _⟩ := h
    rfl
  obtain ⟨X, p, m, n, todo, res, c, t, e, env, rfl, st, rt, wt, wd, re, tg, ns, q, qe⟩ := h
  obtain ⟨y, z, rfl⟩ := word_global wd
  have lim := partF_at ns
  unfold goP at ns q qe
  unfold partF at ns q qe
  rw [if_neg lim] at ns q qe
  dsimp only at ns q qe
  have nd := scBg.nd
  cases rt with
  | @glob a _ _ ha =>
  obtain ⟨rs, s1, s2⟩ := st.s
  refine ⟨_, (pss_one (ps_expr (pe_bm PySem.F.plainAttrs_list PySem.F.slot_list_append PySem.F.type_list_append mt_append (pe_fld (pv 0) rfl) (pa_cons (pe_meth (pv 0) MD.c MD.m MD.ok hr MD.b .nil (passes_call (takes_of rfl rfl rfl rfl) fun _ _ _ _ h => h) (pa_cons (pe_ix (r := rIxT K) ix_tup (pv 1) pe_int (fun _ _ => rfl)) (pa_cons (pe_ix (r := rIxT K) ix_tup (pv 1) pe_int (fun _ _ => rfl)) pa_nil))) pa_nil)))), ?_⟩
  refine ⟨_, rfl, p.R, CP, p.dx, _, _, rfl, st.r, U.c, U.n _ (by simp), rfl, .inl ⟨rfl, _, SqL.of s1⟩, ?_⟩
  refine ⟨_, rfl, p.R, p.dx, _, rfl, st.r, rfl, _, rfl, a, _, 1, _, rfl, rfl, SqT.of ha, at1 _ _ _, _, rfl, a, _, 2, _, rfl, rfl, SqT.of ha, atI_nat (j := 2) rfl, ?_⟩
  refine ⟨X, p.R, p.dx, p.D, _, y, z, m.gl, rfl, st.r, rfl, st.d, fun x hx u H' f ru => ?_, fun hx => ?_⟩
  · rw [hx] at q
    dsimp only at q
    have st1 := st.fr f
    have s1' := f.keep (fun z => z) rfl s1
    refine ⟨p.S, _, _, rfl, rfl, s1', by rw [s2.len, List.length_reverse]; exact many_line fun z => lim (.inr z), ?_⟩
    obtain ⟨g1, g2⟩ := st1.pushV s1' (s2.fr f.no) ru
    exact q _ _ _ rfl _ (f.no.trans g2) g1
  · rw [hx] at qe
    dsimp only at qe
    exact qe _ _ rfl H (Fr.refl _ _) st.r
theorem scBif : FnScope ["run", "core", "variables"] ["run", "core", "variables"] (defScope sBif) := ⟨rfl, rfl, rfl, by decide +kernel, rfl, by decide +kernel, by decide +kernel⟩
theorem ok_bif {f : Addr} {fd : FuncData} (Fn : Fun K "begin_if" "begin_if" sBif f fd) (U : FldC K CP fR5) (G : ActG mg F) : FnOk P w K mg base (L2.CX P w) 1 f fd ["run", "core", "variables"] (spA CP F C En P1 (fun t => word t = "if") goP) := by
  refine Fn.okX scBif (fun vs H Q E h => ?_) (fun cdv A outer s H vs Q E hr h => ?_)
  · obtain ⟨X, p, m, n, todo, res, c, t, e, env, rfl, _⟩ := h
    rfl
  obtain ⟨X, p, m, n, todo, res, c, t, e, env, rfl, st, rt, wt, wd, re, tg, ns, q, qe⟩ := h
  obtain ⟨ta, tb, tc, rfl⟩ := word_if wd
  have lim := partF_at ns
  unfold goP at ns q qe
  unfold partF at ns q
  rw [if_neg lim] at ns q
  dsimp only at ns q
  have nd := scBif.nd
  have rt0 := rt
  have wt0 := wt
  unfold widT at wt
  cases rt with
  | @if_ a x y z _ _ _ ha rx ry rz =>
  refine ⟨_, (pss_cons (ps_expr (pe_bm PySem.F.plainAttrs_list PySem.F.slot_list_append PySem.F.type_list_append mt_append (pe_fld (pv 0) rfl) (pa_cons (pe_tup (pa_cons (pe_glob (v := .ref F.ei) rfl G.ei rfl) (pa_cons (pv 1) (pa_cons (pv 2) pa_nil)))) pa_nil)))
    (pss_one (ps_expr (pe_bm PySem.F.plainAttrs_list PySem.F.slot_list_append PySem.F.type_list_append mt_append (pe_fld (pv 0) rfl) (pa_cons (pe_tup (pa_cons (pe_glob (v := .ref F.bg) rfl G.bg rfl) (pa_cons (pe_ix (r := rIxT K) ix_tup (pv 1) pe_int (fun _ _ => rfl)) (pa_cons (pv 2) pa_nil)))) pa_nil))))), ?_⟩
  obtain ⟨us, t1, t2⟩ := st.t
  have lu : us.length < 1000000 := by
    rw [t2.len, List.length_reverse]
    exact Nat.lt_of_not_le fun z => lim (.inl z)
  refine ⟨_, rfl, p.R, CP, p.dx, _, _, rfl, st.r, U.c, U.n _ (by simp), rfl, .inl ⟨rfl, _, SqL.of t1⟩, ?_⟩
  refine ⟨_, rfl, _, rfl, by show 3 ≤ sizeLine; decide, fun t0 ht0 => ?_⟩
  obtain ⟨g1, st1, f1⟩ := st.pushT (act := .endIf) (t0 := t0) t1 t2 ht0 rt0 wt0 re
  refine ⟨p.T, _, _, rfl, rfl, g1, Nat.lt_of_lt_of_le lu (by decide), ?_⟩
  have u1 : (upd (upd H t0 (.tup [.ref F.ei, .ref a, .ref e])) p.T (.lst (us ++ [.ref t0]))) p.T = some (.lst (us ++ [.ref t0])) := upd_same
  have st1 : PRn CP F C X (upd (upd H t0 (.tup [.ref F.ei, .ref a, .ref e])) p.T (.lst (us ++ [.ref t0]))) p m n (⟨.endIf, .if_ ta tb tc, env⟩ :: todo) res := st1
  have f1 : Fr X H (upd (upd H t0 (.tup [.ref F.ei, .ref a, .ref e])) p.T (.lst (us ++ [.ref t0]))) := f1
  have l1 : (us ++ [V.ref t0]).length ≤ 1000000 := by rw [List.length_append]; show us.length + 1 ≤ _; omega
  generalize us ++ [V.ref t0] = us1 at u1 st1 f1 l1 ⊢
  generalize upd (upd H t0 (.tup [.ref F.ei, .ref a, .ref e])) p.T (.lst us1) = H1 at u1 st1 f1 ⊢
  have al1 : Als (RTk F C X H1) us1 (⟨.endIf, .if_ ta tb tc, env⟩ :: todo : List Tk).reverse := by
    obtain ⟨ts', e1, e2⟩ := st1.t
    rw [u1] at e1
    cases e1
    exact e2
  refine ⟨_, rfl, p.R, CP, p.dx, _, _, rfl, st1.r, U.c, U.n _ (by simp), rfl, .inl ⟨rfl, _, SqL.of u1⟩, ?_⟩
  refine ⟨_, rfl, a, _, 1, _, rfl, rfl, SqT.of (f1.tup _ _ ha), at1 _ _ _, _, rfl, by show 3 ≤ sizeLine; decide, fun t4 ht4 => ?_⟩
  obtain ⟨g4, st4, f4⟩ := st1.pushT (act := .begin) (t0 := t4) u1 al1 ht4 (rx.keep f1.tup) wt.1 (re.fr f1)
  refine ⟨p.T, _, _, rfl, rfl, g4, Nat.lt_of_le_of_lt l1 (by decide), ?_⟩
  exact q _ _ _ rfl _ (f1.trans f4) st4
theorem scEif : FnScope ["run", "core", "variables", "chosen"] ["run", "core", "variables"] (defScope sEif) := ⟨rfl, rfl, rfl, by decide +kernel, rfl, by decide +kernel, by decide +kernel⟩
theorem ok_eif {f : Addr} {fd : FuncData} (Fn : Fun K "end_if" "end_if" sEif f fd) (U : FldC K CP fR5) (G : ActG mg F) : FnOk P w K mg base (L2.CX P w) 1 f fd ["run", "core", "variables"] (spA CP F C En P1 (fun t => word t = "if") goEi) := by
  refine Fn.okX scEif (fun vs H Q E h => ?_) (fun cdv A outer s H vs Q E hr h => ?_)
  · obtain ⟨X, p, m, n, todo, res, c, t, e, env, rfl, _⟩ := h
    rfl
  obtain ⟨X, p, m, n, todo, res, c, t, e, env, rfl, st, rt, wt, wd, re, tg, ns, q, qe⟩ := h
  obtain ⟨ta, tb, tc, rfl⟩ := word_if wd
  unfold goEi at ns q qe
  unfold endIfF at ns q
  obtain ⟨i, res', rfl⟩ : ∃ i res', res = .int i :: res' := by
    cases res with
    | nil => exact absurd rfl ns
    | cons x r =>
      cases x with
      | int i => exact ⟨i, r, rfl⟩
      | pair _ _ => exact absurd rfl ns
      | prim _ => exact absurd rfl ns
      | fnP _ _ _ => exact absurd rfl ns
      | fnM _ _ => exact absurd rfl ns
  dsimp only at ns q
  have lt : todo.length < many := by
    by_cases c : todo.length < many
    · exact c
    · rw [if_neg c] at ns; exact absurd rfl ns
  rw [if_pos lt] at q
  have nd := scEif.nd
  unfold widT at wt
  cases rt with
  | @if_ a x y z _ _ _ ha rx ry rz =>
  refine ⟨_, (pss_cons (ps_set (i := 3) nd rfl (Or.inl rfl) (pe_ifExp (pt_cmpR op_eq (pe_bm0 PySem.F.plainAttrs_list PySem.F.slot_list_pop PySem.F.type_list_pop mt_pop (pe_fld (pv 0) rfl)) pe_int (nomark _)) (pe_ix (r := rIxT K) ix_tup (pv 1) pe_int (fun _ _ => rfl)) (pe_ix (r := rIxT K) ix_tup (pv 1) pe_int (fun _ _ => rfl))))
    (pss_one (ps_expr (pe_bm PySem.F.plainAttrs_list PySem.F.slot_list_append PySem.F.type_list_append mt_append (pe_fld (pv 0) rfl) (pa_cons (pe_tup (pa_cons (pe_glob (v := .ref F.bg) rfl G.bg rfl) (pa_cons (pv 3) (pa_cons (pv 2) pa_nil)))) pa_nil))))), ?_⟩
  obtain ⟨rs1, e1, e2⟩ := st.s
  obtain ⟨v, ws, rfl, rv, rws⟩ := e2.last
  cases rv with
  | int _ hi =>
  refine ⟨_, rfl, p.R, CP, p.dx, _, _, rfl, st.r, U.c, U.n _ (by simp), rfl, .inl ⟨rfl, _, SqL.of e1⟩, ?_⟩
  refine ⟨p.S, _, .int i, rfl, rfl, e1, by simp, ?_⟩
  rw [List.dropLast_concat]
  obtain ⟨st2, f2⟩ := st.setS (rs := ws) (res' := res') rws
  have ha2 := f2.tup _ _ ha
  have re2 := re.fr f2
  have ry2 := ry.keep f2.tup
  have rz2 := rz.keep f2.tup
  generalize upd H p.S (.lst ws) = H2 at st2 f2 ha2 re2 ry2 rz2 ⊢
  obtain ⟨us, t1, t2⟩ := st2.t
  have push : ∀ {c1 : V} {t1' : Tr}, RT H2 c1 t1' → widT t1' → (if i = 0 then tc else tb) = t1' → ∃ u : Unit, ∀ t4, H2 t4 = none → (upd H2 t4 (.tup [.ref F.bg, c1, .ref e])) p.T = some (.lst us) ∧ us.length < sizeLine ∧ Q .non (upd (upd H2 t4 (.tup [.ref F.bg, c1, .ref e])) p.T (.lst (us ++ [.ref t4]))) := fun {c1 t1'} r1 w1 et => ⟨(), fun t4 ht4 => by
    obtain ⟨g4, st4, f4⟩ := st2.pushT (act := .begin) (t0 := t4) t1 t2 ht4 r1 w1 re2
    refine ⟨g4, ?_, ?_⟩
    · rw [t2.len, List.length_reverse]
      exact Nat.lt_of_lt_of_le lt (by decide)
    rw [et] at q
    exact q _ _ _ rfl _ (f2.trans f4) st4⟩
  refine ⟨rfl, _, rfl, ?_⟩
  refine ite2 (fun c => ?_) (fun c => ?_)
  · have e0 := v_int c
    obtain ⟨_, pu⟩ := push rz2 wt.2.2 (if_pos e0)
    refine ⟨_, rfl, a, _, 3, _, rfl, rfl, SqT.of ha2, atI_nat (j := 3) rfl, ?_⟩
    refine ⟨_, rfl, p.R, CP, p.dx, _, _, rfl, st2.r, U.c, U.n _ (by simp), rfl, .inl ⟨rfl, _, SqL.of t1⟩, ?_⟩
    refine ⟨_, rfl, _, rfl, by show 3 ≤ sizeLine; decide, fun t4 ht4 => ?_⟩
    obtain ⟨g4, l4, q4⟩ := pu t4 ht4
    exact ⟨p.T, _, _, rfl, rfl, g4, l4, q4⟩
  · have e0 : ¬ i = 0 := fun z => c (decide_eq_true (congrArg V.int z))
    obtain ⟨_, pu⟩ := push ry2 wt.2.1 (if_neg e0)
    refine ⟨_, rfl, a, _, 2, _, rfl, rfl, SqT.of ha2, atI_nat (j := 2) rfl, ?_⟩
    refine ⟨_, rfl, p.R, CP, p.dx, _, _, rfl, st2.r, U.c, U.n _ (by simp), rfl, .inl ⟨rfl, _, SqL.of t1⟩, ?_⟩
    refine ⟨_, rfl, _, rfl, by show 3 ≤ sizeLine; decide, fun t4 ht4 => ?_⟩
    obtain ⟨g4, l4, q4⟩ := pu t4 ht4
    exact ⟨p.T, _, _, rfl, rfl, g4, l4, q4⟩
theorem scBeg : FnScope ["run", "core", "variables", "action"] ["run", "core", "variables"] (defScope sBeg) := ⟨rfl, rfl, rfl, by decide +kernel, rfl, by decide +kernel, by decide +kernel⟩
theorem ok_beg {f fK fc : Addr} {fd dK : FuncData} (Fn : Fun K "begin" "begin" sBeg f fd) (U : FldC K CP fR5) (gB : mg "BEGINNINGS" = some (.ref fc)) (KD : ∃ es n, KDict K w fc es n) (MK : MCal P w K mg base (L2.CX P w) 3 CP "count_step" ["self"] (spCnt CP En) fK dK)
    (TB : ∀ wd ∈ begW, ∃ g, PySem.W.nsIn K fc wd = some (some (.ref g)) ∧ HeldX P w K mg base 4 g (spA CP F C En P1 (fun t => word t = wd) goP)) : FnOk P w K mg base (L2.CX P w) 5 f fd ["run", "core", "variables"] (spA CP F C En P1 (fun _ => True) goB) := by
  refine Fn.okX scBeg (fun vs H Q E h => ?_) (fun cdv A outer s H vs Q E hr h => ?_)
  · obtain ⟨X, p, m, n, todo, res, c, t, e, env, rfl, _⟩ := h
    rfl
  obtain ⟨X, p, m, n, todo, res, c, t, e, env, rfl, st, rt, wt, wd, re, tg, ns, q, qe⟩ := h
  unfold goB at ns q qe
  unfold beginF at ns q qe
  have nd := scBeg.nd
  obtain ⟨es, nn, KD⟩ := KD
  obtain ⟨a, xs, rfl, ha, lx⟩ := rt.head
  have held : ∀ g sp, (∃ wd, wd ∈ begW ∧ PySem.W.nsIn K fc wd = some (some (.ref g)) ∧ sp = spA CP F C En P1 (fun t => word t = wd) goP) → HeldX P w K mg base 4 g sp := by
    rintro g sp ⟨wd, hw, hn, rfl⟩
    obtain ⟨g', h1, h2⟩ := TB wd hw
    rw [hn] at h1
    cases h1
    exact h2
  refine ⟨_, (pss_cons (ps_expr (pe_meth0 (pv 0) MK.c MK.m MK.ok (hr.mono (show 3 ≤ 4 by decide)) MK.b .nil (passes_call (takes_of rfl rfl rfl rfl) fun _ _ _ _ h => h)))
    (pss_cons (ps_set (i := 3) nd rfl (Or.inl rfl) (pe_ix (r := rIxD K w) ix_kdict (pe_glob (v := .ref fc) rfl gB rfl) (pe_ix (r := rIxT K) ix_tup (pv 1) pe_int (fun _ _ => rfl)) (fun _ _ => rfl)))
    (pss_one (ps_expr (pe_callAX (i := 3) held hr rfl (.inl rfl) (passes_call (takes_of rfl rfl rfl rfl) fun _ _ _ _ h => h) (pa_cons (pv 0) (pa_cons (pv 1) (pa_cons (pv 2) pa_nil)))))))), ?_⟩
  refine ⟨_, rfl, p.R, p.dx, _, rfl, st.r, rfl, p.R, p.dx, _, n, m.m, rfl, st.r, rfl, rfl, by show 5 < 1000; decide, fun lt => ?_, fun le => ?_⟩
  · rw [if_neg (Nat.not_le_of_lt lt)] at ns q qe
    obtain ⟨st1, f1⟩ := st.step
    have hw : word t ∈ begW := by cases t <;> simp [begW, word]
    obtain ⟨g, hg, _⟩ := TB _ hw
    have ha1 := f1.tup _ _ ha
    have rt1 := rt.keep f1.tup
    have re1 := re.fr f1
    have tg1 := f1.sm.tab _ tg
    refine ⟨_, rfl, a, _, 0, _, rfl, rfl, SqT.of ha1, at0 _ _, fc, word t, .ref g, rfl, rfl, ⟨es, nn, .ref g, KD.at_, KD.lit, hg, rfl⟩, g, _, rfl, ⟨word t, hw, hg, rfl⟩, _, rfl, _, rfl, _, rfl, ?_⟩
    exact ⟨X, p, m, n + 1, todo, res, _, t, e, env, rfl, st1, rt1, wt, rfl, re1, tg1, ns, fun n' t' r' ee H' f' st' => q n' t' r' ee H' (f1.trans f') st', fun ws n' ee H' f' st' => qe ws n' ee H' (f1.trans f') st'⟩
  · rw [if_pos le] at qe
    exact qe _ _ rfl H (Fr.refl _ _) st.r
end
end My
namespace My
open PySem PySem.Spec PyProof.Rows L2 TL
/-! ### shown values -/
inductive Sh where
  | int (i : Int) | fn | more | pair (a b : Sh)
inductive RSh (H : Hp) : V → Sh → Prop
  | int (i : Int) : RSh H (.int i) (.int i)
  | fn : RSh H (.str "fn") .fn
  | more : RSh H (.str "more") .more
  | pair {a : Addr} {x y : V} {u v : Sh} (h : H a = some (.tup [.str "pair", x, y])) (r : RSh H x u) (s : RSh H y v) : RSh H (.ref a) (.pair u v)
theorem RSh.keep {H H' : Hp} (k : KpT H H') : ∀ {v : V} {s : Sh}, RSh H v s → RSh H' v s
  | _, _, .int i => .int i
  | _, _, .fn => .fn
  | _, _, .more => .more
  | _, _, .pair h r s => .pair (k _ _ h) (RSh.keep k r) (RSh.keep k s)
def showF : Vl → Nat → Nat → Sh × Nat
  | .int i, _, c => (.int i, c)
  | .pair a b, ar, c => if 59 < ar ∨ c = 300 then (.more, c) else (.pair (showF a (ar + 1) (c + 1)).1 (showF b (ar + 1) (showF a (ar + 1) (c + 1)).2).1, (showF b (ar + 1) (showF a (ar + 1) (c + 1)).2).2)
  | _, _, c => (.fn, c)
abbrev sShI : Stmt := inClass (top 8) 0
abbrev sSho : Stmt := inClass (top 8) 1
abbrev sShn : Stmt := top 9
def spShI (CS : Addr) : Sp := fun vs H Q _ => ∃ (x dx : Addr), vs = [.ref x] ∧ H x = some (.ins CS dx []) ∧ Q .non (upd H x (.ins CS dx [("pairs", .int 0)]))
def spSho (C : Cs) (CS : Addr) : Nat → Sp
  | 0 => fun _ _ _ _ => False
  | d + 1 => fun vs H Q _ => ∃ (X : Addr → Prop) (s dx : Addr) (v : V) (x : Vl) (ar c : Nat), vs = [.ref s, v, .int ar] ∧ H s = some (.ins CS dx [("pairs", .int c)]) ∧ RV C X H v x ∧ X s ∧ 60 ≤ ar + d ∧
    ∀ u H', Fr (fun b => b = s) H H' → H' s = some (.ins CS dx [("pairs", .int (showF x ar c).2)]) → RSh H' u (showF x ar c).1 → Q u H'
def spShn (C : Cs) : Sp := fun vs H Q _ => ∃ (X : Addr → Prop) (v : V) (x : Vl), vs = [v] ∧ RV C X H v x ∧ ∀ u H', Fr No H H' → RSh H' u (showF x 0 0).1 → Q u H'
/-- what was new may have changed -/
theorem Fr.drop {Y : Addr → Prop} {H H1 H' : Hp} (a : Fr No H H1) (b : Fr Y H1 H') (h : ∀ q, Y q → H q = none) : Fr No H H' := by
  refine ⟨⟨fun q o _ t e => b.keep (fun z => by rw [h q z] at e; cases e) t (a.keep (fun z => z) t e), fun P t => b.sm.tab P (a.sm.tab P t), fun q e => a.dom (b.dom e)⟩, fun q xs e => b.tup _ _ (a.tup _ _ e)⟩
section
variable {P : Program} {w : World} {K : PySem.W.Frag} {mg : Str → Option Value} {base : Heap} {C : Cs} {CS : Addr}
theorem fn_none {CX : CXT} {k : Nat} {f : Addr} {fd : FuncData} {ps : List Str} : FnOk P w K mg base CX k f fd ps (fun _ _ _ _ => False) := ⟨fun _ _ _ _ h => h.elim, fun _ _ _ _ _ _ _ _ _ _ _ _ _ h => h.elim⟩
theorem scShI : FnScope ["self"] ["self"] (defScope sShI) := ⟨rfl, rfl, rfl, by decide +kernel, rfl, by decide +kernel, by decide +kernel⟩
theorem ok_shI {f : Addr} {fd : FuncData} (F : Fun K "__init__" "Showing.__init__" sShI f fd) (U : FldC K CS ["pairs"]) : FnOk P w K mg base CX0 1 f fd ["self"] (spShI CS) := by
  refine F.ok scShI (fun vs H Q E h => ?_) (fun cdv A outer s H vs Q E hr h => ?_)
  · obtain ⟨x, dx, rfl, _⟩ := h
    rfl
  obtain ⟨x, dx, rfl, hx, q⟩ := h
  have nd := scShI.nd
  refine ⟨_, (pss_one (ps_fld (pv 0) pe_int rfl)), ?_⟩
  exact ⟨_, rfl, x, CS, dx, _, rfl, hx, U.c, U.n _ (by simp), by decide, q⟩
theorem scSho : FnScope ["self", "value", "around", "first", "second"] ["self", "value", "around"] (defScope sSho) := ⟨rfl, rfl, rfl, by decide +kernel, rfl, by decide +kernel, by decide +kernel⟩
theorem ok_sho {f : Addr} {fd : FuncData} (F : Fun K "show" "Showing.show" sSho f fd) (B : Blt mg) (VC : ValC K mg C) (U : FldC K CS ["pairs"]) (hm : Meth K CS "show" f) (hb : Binds K fd ["self", "value", "around"] []) (gA : ∃ t, mg "MOST_AROUND" = some (.int 59 t)) (gP : ∃ t, mg "MOST_PAIRS" = some (.int 300 t)) :
    ∀ d : Nat, FnOk P w K mg base CX0 d f fd ["self", "value", "around"] (spSho C CS d)
  | 0 => fn_none
  | d + 1 => by
    have IH := ok_sho F B VC U hm hb gA gP d
    obtain ⟨tA, gA⟩ := gA
    obtain ⟨tP, gP⟩ := gP
    refine F.ok scSho (fun vs H Q E h => ?_) (fun cdv A outer s0 H vs Q E hr h => ?_)
    · obtain ⟨X, s, dx, v, x, ar, c, rfl, _⟩ := h
      rfl
    obtain ⟨X, s, dx, v, x, ar, c, rfl, hs, rv, Xs, le, q⟩ := h
    have nd := scSho.nd
    refine ⟨_, (pss_cons (ps_if (pt_val (pe_callB call_isi (by rfl) B.isinstance (by decide +kernel) (pa_cons (pv 1) (pa_cons (pe_bltn (v := .ty "int") (by rfl) B.int (by decide +kernel) rfl) pa_nil)))) (pss_one (ps_ret (pv 1))) pss_nil)
    (pss_cons (ps_if (pt_not (pt_val (pe_callB call_isi (by rfl) B.isinstance (by decide +kernel) (pa_cons (pv 1) (pa_cons (pe_glob (v := .ref C.pa) rfl VC.gp rfl) pa_nil))))) (pss_one (ps_ret pe_str)) pss_nil)
    (pss_cons (ps_if (PW.pt (pw_or (pt_cmpR op_gt (pv 2) (pe_glob (v := .int 59) rfl gA ⟨_, rfl⟩) (nomark _)) (pw_or1 (pt_cmpR op_eq (pe_fld (pv 0) rfl) (pe_glob (v := .int 300) rfl gP ⟨_, rfl⟩) (nomark _))))) (pss_one (ps_ret pe_str)) pss_nil)
    (pss_cons (ps_fldaug (pv 0) pe_int in_add)
    (pss_cons (ps_set (i := 3) nd rfl (Or.inl rfl) (pe_meth (pv 0) U.c hm IH hr hb .nil pass0 (pa_cons (pe_fld (pv 1) rfl) (pa_cons (pe_op op_add (pv 2) pe_int) pa_nil))))
    (pss_cons (ps_set (i := 4) nd rfl (Or.inl rfl) (pe_meth (pv 0) U.c hm IH hr hb .nil pass0 (pa_cons (pe_fld (pv 1) rfl) (pa_cons (pe_op op_add (pv 2) pe_int) pa_nil))))
    (pss_one (ps_ret (pe_tup (pa_cons pe_str (pa_cons (pv 3) (pa_cons (pv 4) pa_nil)))))))))))), ?_⟩
    refine ⟨_, rfl, _, _, _, _, _, rfl, .ty "int", rv.ty VC, VC.int x, _, rfl, ?_⟩
    cases rv with
    | int i _ => exact iteT ⟨_, rfl, q _ H (Fr.refl _ _) hs (.int i)⟩
    | prim h n =>
      refine iteF ⟨_, rfl, _, _, _, _, _, rfl, .own _, (RV.prim (X := X) h n).ty VC, VC.pair _, _, rfl, iteT ?_⟩
      exact q _ H (Fr.refl _ _) hs .fn
    | fnP h n rt wt he ne re =>
      refine iteF ⟨_, rfl, _, _, _, _, _, rfl, .own _, (RV.fnP (X := X) h n rt wt he ne re).ty VC, VC.pair _, _, rfl, iteT ?_⟩
      exact q _ H (Fr.refl _ _) hs .fn
    | fnM h n rc he ne re =>
      refine iteF ⟨_, rfl, _, _, _, _, _, rfl, .own _, (RV.fnM (X := X) h n rc he ne re).ty VC, VC.pair _, _, rfl, iteT ?_⟩
      exact q _ H (Fr.refl _ _) hs .fn
    | @pair a dx2 y z yv zv h n ra rb =>
      refine iteF ⟨_, rfl, _, _, _, _, _, rfl, .own _, (RV.pair (X := X) h n ra rb).ty VC, VC.pair _, _, rfl, iteF ?_⟩
      unfold showF at q
      refine ⟨_, rfl, _, _, rfl, rfl, _, rfl, ?_⟩
      refine ite2 (fun c1 => ?_) (fun c1 => ?_)
      · have c2 : 59 < ar := by have := of_decide_eq_true c1; omega
        rw [if_pos (.inl c2)] at q
        exact iteT (q _ H (Fr.refl _ _) hs .more)
      refine ⟨_, rfl, s, CS, dx, _, _, rfl, hs, U.c, U.n _ (by simp), rfl, rfl, _, rfl, ?_⟩
      refine ite2 (fun c2 => ?_) (fun c2 => ?_)
      · have c3 : c = 300 := by have := v_int c2; omega
        rw [if_pos (.inr c3)] at q
        exact q _ H (Fr.refl _ _) hs .more
      have n1 : ¬ (59 < ar ∨ c = 300) := fun o => by
        rcases o with o | o
        · exact c1 (decide_eq_true (by omega))
        · exact c2 (decide_eq_true (by rw [o]; rfl))
      rw [if_neg n1] at q
      refine ⟨_, rfl, s, CS, dx, _, _, rfl, hs, U.c, U.n _ (by simp), rfl, _, _, rfl, rfl, _, _, hs, by show 1 < 1000; decide, ?_⟩
      have f1 : Fr (fun b => b = s) H (upd H s (.ins CS dx [("pairs", .int (c + 1 : Nat))])) := Fr.set rfl hs rfl
      have hs1 : upd H s (.ins CS dx [("pairs", .int (c + 1 : Nat))]) s = some (.ins CS dx [("pairs", .int (c + 1 : Nat))]) := upd_same
      have wX : ∀ b : Addr, b = s → X b := fun b e => by rw [e]; exact Xs
      have h1 := (f1.wide wX).keep n rfl h
      have ra1 := ra.fr (f1.wide wX)
      have rb1 := rb.fr (f1.wide wX)
      show tSeq _ _ _ _ (upd H s (.ins CS dx [("pairs", .int (c + 1 : Nat))]))
      generalize upd H s (.ins CS dx [("pairs", .int (c + 1 : Nat))]) = H1 at f1 hs1 h1 ra1 rb1 ⊢
      obtain ⟨d', rfl⟩ : ∃ d', d = d' + 1 := by
        have : ¬ 59 < ar := fun z => n1 (.inl z)
        exact ⟨d - 1, by omega⟩
      refine ⟨_, rfl, s, dx, _, rfl, hs1, rfl, _, rfl, a, C.pa, dx2, _, _, rfl, h1, VC.fp.c, VC.fp.n _ (by simp), rfl, _, rfl, _, _, rfl, rfl, ?_⟩
      refine ⟨X, s, dx, y, yv, ar + 1, c + 1, rfl, hs1, ra1, Xs, by omega, fun u1 H2 f2 hs2 r2 => ?_⟩
      have h2 := (f2.wide wX).keep n rfl h1
      have rb2 := rb1.fr (f2.wide wX)
      refine ⟨_, rfl, s, dx, _, rfl, hs2, rfl, _, rfl, a, C.pa, dx2, _, _, rfl, h2, VC.fp.c, VC.fp.n _ (by simp), rfl, _, rfl, _, _, rfl, rfl, ?_⟩
      refine ⟨X, s, dx, z, zv, ar + 1, _, rfl, hs2, rb2, Xs, by omega, fun u2 H3 f3 hs3 r3 => ?_⟩
      refine ⟨_, rfl, _, rfl, by show 3 ≤ sizeLine; decide, fun t ht => ?_⟩
      have f4 : Fr (fun b => b = s) H3 (upd H3 t (.tup [.str "pair", u1, u2])) := Fr.new ht
      refine q _ _ (f1.trans (f2.trans (f3.trans f4))) ?_ (.pair upd_same ((r2.keep f3.tup).keep f4.tup) (r3.keep f4.tup))
      rw [upd_ne (ne_of_none hs3 ht)]
      exact hs3
theorem scShn : FnScope ["value", "showing"] ["value"] (defScope sShn) := ⟨rfl, rfl, rfl, by decide +kernel, rfl, by decide +kernel, by decide +kernel⟩
theorem ok_shn {f fI fS : Addr} {fd dI dS : FuncData} (F : Fun K "shown" "shown" sShn f fd) (MI : MkC P w K mg base 1 "Showing" ["self"] (spShI CS) CS fI dI) (U : FldC K CS ["pairs"]) (hm : Meth K CS "show" fS) (hb : Binds K dS ["self", "value", "around"] []) (S : FnOk P w K mg base CX0 61 fS dS ["self", "value", "around"] (spSho C CS 61)) :
    FnOk P w K mg base CX0 62 f fd ["value"] (spShn C) := by
  refine F.ok scShn (fun vs H Q E h => ?_) (fun cdv A outer s0 H vs Q E hr h => ?_)
  · obtain ⟨X, v, x, rfl, _⟩ := h
    rfl
  obtain ⟨X, v, x, rfl, rv, q⟩ := h
  have nd := scShn.nd
  have r2 := hr.mono (show 2 ≤ 61 by decide)
  refine ⟨_, (pss_cons (ps_set (i := 1) nd rfl (Or.inl rfl) (pe_make0 (E := fun _ _ _ => False) MI.m MI.ok r2 rfl MI.g MI.b .nil pass0))
    (pss_one (ps_ret (pe_meth (pv 1) U.c hm S hr hb .nil pass0 (pa_cons (pv 0) (pa_cons pe_int pa_nil)))))), ?_⟩
  refine fun s dx hs hd ne => ⟨s, dx, rfl, upd_same, rfl, ?_⟩
  rw [upd_upd]
  have f1 : Fr No H (upd (upd H dx (.own s)) s (.ins CS dx [("pairs", .int 0)])) := mk_fr hs hd ne
  have hs1 : (upd (upd H dx (.own s)) s (.ins CS dx [("pairs", .int 0)])) s = some (.ins CS dx [("pairs", .int 0)]) := upd_same
  generalize upd (upd H dx (.own s)) s (.ins CS dx [("pairs", .int 0)]) = H1 at f1 hs1 ⊢
  refine ⟨_, rfl, s, dx, _, rfl, hs1, rfl, _, rfl, ?_⟩
  have rv1 : RV C (fun b => X b ∨ b = s) H v x := rv.grow fun a z => z.elim .inl fun e => .inr (by rw [e]; exact hs)
  refine ⟨fun b => X b ∨ b = s, s, dx, v, x, 0, 0, rfl, hs1, rv1.fr f1.no, .inr rfl, by decide, fun u H' f2 hs2 r2 => ?_⟩
  exact q u H' (f1.drop f2 fun q e => by rw [e]; exact hs) r2
end
end My
namespace My
open PySem PySem.Spec PyProof.Rows L2 TL
/-! ### a method's call within a try -/
section
variable {X : Cx} {CX : CXT} {k : Nat} {f C : Addr} {fd : FuncData} {ps : List Str} {sp : Sp} {E : L2.St → XK} {m : Str} {o e : Expr} {es : List Expr} {ta : TE} {t : TA} {apos pos : Pos}
def tMethT (C : Addr) (m : Str) (sp : Sp) (E : L2.St → XK) (ta : TE) (t : TA) : TE := fun σ H Q => ta σ H fun x H1 => ∃ a dx fs, x = .ref a ∧ H1 a = some (.ins C dx fs) ∧ fs.lookup m = none ∧ t σ H1 fun vs H2 => sp (x :: vs) H2 Q (E σ)
theorem pe_methT {pl : Sem Bool} (he : PE X o ta) (c : Cls X.K C) (hm : Meth X.K C m f) (F : FnOk X.prog X.w X.K X.mg X.base CX k f fd ps sp) (hr : Room k X.A) (hb : Binds X.K fd ps []) (hx : ∀ σ, PassesAt CX X σ (E σ)) (ha : PA X (e :: es) t)
    (hst : starEach (e :: es) X.env = (false, eval e X.env) :: starEach es X.env := by rfl) (hpl : (backTo pos (starEach es X.env)).any (·.1) = false := by rfl)
    (ht : eval (.Call (.Attribute o m apos) (e :: es) [] pos) X.env = (do
      let ov ← eval o X.env
      standAt apos.atName
      let (f, first) ← holding [ov] (getMethod ov m pl)
      callWith pos f first (backTo pos (starEach (e :: es) X.env)) (backToKw pos (keywordEach [] X.env))) := by rfl) :
    PE X (.Call (.Attribute o m apos) (e :: es) [] pos) (tMethT C m sp E ta t) := by
  refine ⟨fun pins s σ H Q I h => ?_⟩
  refine PySem.W.methodCall_KW (pl := pl) (thn (he.run pins s σ H _ I h) fun u s1 ⟨x, H1, I1, rx, a, dx, fs, ex, ea, l, q⟩ => ?_) ht
  subst ex
  obtain rfl : u = Value.ref a := rx
  refine getmeth_ok I1 ea c hm l ?_
  refine PySem.W.callWith_K (first := [.ref a]) (h₀ := X.base) I.ok.mod.kin hm.kp (thn (ha.run pos pins s1 σ H1 _ I1 q) fun us s2 ⟨vs, H2, I2, r, q2⟩ => ⟨I2.kIn, ?_⟩) hst hpl
  exact run_fnS (us := .ref a :: us) (vs := .ref a :: vs) F hr hb (hx σ) I2 (.cons rfl r) q2
end
theorem seq_of {t u : TS} {D : Ends} {σ : L2.St} {H : Hp} (h : t { D with nx := u D } σ H) : tSeq t u D σ H := h
theorem while_n {c : TT} {tb : TS} {D : Ends} {σ : L2.St} {H : Hp} (Pv : Nat → L2.St → Hp → Prop) (m0 : Nat) (h0 : Pv m0 σ H)
    (hs : ∀ m σ H, Pv m σ H → c σ H fun b H1 => if b = true then tb { D with nx := fun σ' H' => ∃ m', m' < m ∧ Pv m' σ' H', ct := fun σ' H' => ∃ m', m' < m ∧ Pv m' σ' H', bk := D.nx } σ H1 else D.nx σ H1)
    (mono : ∀ σ H Q Q', (∀ b H1, Q b H1 → Q' b H1) → c σ H Q → c σ H Q') : tWhile c tb D σ H := by
  refine ⟨Pv, ⟨m0, h0⟩, fun m σ H p => mono σ H _ _ (fun b H1 q => ?_) (hs m σ H p)⟩
  cases b with
  | true => exact ⟨_, fun σ' H' z => z, q⟩
  | false => exact q
abbrev sRin : Stmt := inClass (top 13) 0
abbrev sPin : Stmt := inClass (top 66) 0
abbrev sCar : Stmt := inClass (top 66) 1
abbrev sCop : Stmt := inClass (top 13) 3
def spRin (C : Addr) : Sp := fun vs H Q _ => ∃ (x dx : Addr) (m : Int), vs = [.ref x, .int m] ∧ H x = some (.ins C dx []) ∧
  ∀ D H', H D = none → Fr (fun b => b = x) H H' → H' D = some (.dT []) → H' x = some (.ins C dx [("most", .int m), ("steps", .int 0), ("defined", .ref D)]) → Q .non H'
def spPin (CP : Addr) : Sp := fun vs H Q _ => ∃ (x dx : Addr) (m : Int), vs = [.ref x, .int m] ∧ H x = some (.ins CP dx []) ∧
  ∀ D T S H', H D = none → H T = none → H S = none → T ≠ S → Fr (fun b => b = x) H H' → H' D = some (.dT []) → H' T = some (.lst []) → H' S = some (.lst []) → H' x = some (.ins CP dx [("most", .int m), ("steps", .int 0), ("defined", .ref D), ("todo", .ref T), ("results", .ref S)]) → Q .non H'
/-- the loop -/
def runF : Nat → Wd → Nat → List Tk → List Vl → Option (Except (List Str × Nat) (Nat × List Vl))
  | 0, _, _, _, _ => none
  | _ + 1, _, n, [], res => some (.ok (n, res))
  | k + 1, m, n, tk :: todo, res => match actF m tk n todo res with
    | .stuck => none
    | .err ws n' => some (.error (ws, n'))
    | .ok n' todo' res' => runF k m n' todo' res'
def spCar (CP : Addr) (F : Acts) (C : Cs) (En P1 : Addr) : Sp := fun vs H Q E => ∃ (X : Addr → Prop) (p : Pn) (m : Wd) (n : Nat) (c : V) (t : Tr) (k : Nat), vs = [.ref p.R, c] ∧ PRn CP F C X H p m n [] [] ∧ RT H c t ∧ widT t ∧ GxR.TabG H P1 ∧
  (match runF k m n [⟨.begin, t, []⟩] [] with
  | some (.ok (n', [v])) => ∀ u H', Fr X H H' → PRn CP F C X H' p m n' [] [] → RV C X H' u v → Q u H'
  | some (.error (ws, n')) => ∀ H1, Fr X H H1 → H1 p.R = some (.ins CP p.dx (flds p m n')) → erX No En ws H1 E
  | _ => False)
section
variable {P : Program} {w : World} {K : PySem.W.Frag} {mg : Str → Option Value} {base : Heap} {CP En P1 : Addr} {F : Acts} {C : Cs}
theorem scRin : FnScope ["self", "most"] ["self", "most"] (defScope sRin) := ⟨rfl, rfl, rfl, by decide +kernel, rfl, by decide +kernel, by decide +kernel⟩
theorem ok_rin {f C : Addr} {fd : FuncData} (Fn : Fun K "__init__" "Run.__init__" sRin f fd) (U : FldC K C ["most", "steps", "defined"]) : FnOk P w K mg base CX0 1 f fd ["self", "most"] (spRin C) := by
  refine Fn.ok scRin (fun vs H Q E h => ?_) (fun cdv A outer s H vs Q E hr h => ?_)
  · obtain ⟨x, dx, m, rfl, _⟩ := h
    rfl
  obtain ⟨x, dx, m, rfl, hx, q⟩ := h
  have nd := scRin.nd
  refine ⟨_, (pss_cons (ps_fld (pv 0) (pv 1) rfl)
    (pss_cons (ps_fld (pv 0) pe_int rfl)
    (pss_one (ps_fld (pv 0) pe_dnewT rfl)))), ?_⟩
  refine ⟨_, rfl, _, rfl, x, C, dx, _, rfl, hx, U.c, U.n _ (by simp), by decide, ?_⟩
  refine ⟨_, rfl, x, C, dx, _, rfl, upd_same, U.c, U.n _ (by simp), by show 1 < 1000; decide, fun D hD => ?_⟩
  rw [upd_upd] at hD ⊢
  have e1 : upd H x (.ins C dx [("most", .int m), ("steps", .int 0)]) x = some (.ins C dx [("most", .int m), ("steps", .int 0)]) := upd_same
  have f1 : Fr (fun b => b = x) H (upd H x (.ins C dx [("most", .int m), ("steps", .int 0)])) := Fr.set rfl hx rfl
  have nx : x ≠ D := ne_of_none e1 hD
  have e2 : upd (upd H x (.ins C dx [("most", .int m), ("steps", .int 0)])) D (.dT []) x = some (.ins C dx [("most", .int m), ("steps", .int 0)]) := by rw [upd_ne nx]; exact e1
  refine ⟨_, rfl, x, C, dx, _, rfl, e2, U.c, U.n _ (by simp), by show 2 < 1000; decide, ?_⟩
  exact q D _ (f1.dom hD) (f1.trans ((Fr.new hD).trans (Fr.set rfl e2 rfl))) (by rw [upd_ne (Ne.symm nx)]; exact upd_same) upd_same
theorem scPin : FnScope ["self", "most"] ["self", "most"] (defScope sPin) := ⟨rfl, rfl, rfl, by decide +kernel, rfl, by decide +kernel, by decide +kernel⟩
theorem ok_pin {f R fR : Addr} {fd dR : FuncData} (Fn : Fun K "__init__" "PlainRun.__init__" sPin f fd) (U : FldC K CP fR5) (GR : InitC P w K mg base 1 "Run" ["self", "most"] (spRin CP) R fR dR) : FnOk P w K mg base CX0 2 f fd ["self", "most"] (spPin CP) := by
  refine Fn.ok scPin (fun vs H Q E h => ?_) (fun cdv A outer s H vs Q E hr h => ?_)
  · obtain ⟨x, dx, m, rfl, _⟩ := h
    rfl
  obtain ⟨x, dx, m, rfl, hx, q⟩ := h
  have nd := scPin.nd
  refine ⟨_, (pss_cons (ps_expr (pe_initC GR hr rfl (pa_cons (pv 0) (pa_cons (pv 1) pa_nil))))
    (pss_cons (ps_fld (pv 0) (pe_lst pa_nil) rfl)
    (pss_one (ps_fld (pv 0) (pe_lst pa_nil) rfl)))), ?_⟩
  refine ⟨_, rfl, _, rfl, x, dx, m, rfl, hx, fun D H1 hD f1 d1 x1 => ?_⟩
  have nDx : D ≠ x := fun z => by rw [z, x1] at d1; cases d1
  refine ⟨by show 0 ≤ sizeLine; decide, fun T hT => ?_⟩
  have nT : x ≠ T := ne_of_none x1 hT
  have e2 : upd H1 T (.lst []) x = some (.ins CP dx [("most", .int m), ("steps", .int 0), ("defined", .ref D)]) := by rw [upd_ne nT]; exact x1
  refine ⟨_, rfl, x, CP, dx, _, rfl, e2, U.c, U.n _ (by simp), by show 3 < 1000; decide, ?_⟩
  have f2 : Fr (fun b => b = x) H1 (upd (upd H1 T (.lst [])) x (.ins CP dx [("most", .int m), ("steps", .int 0), ("defined", .ref D), ("todo", .ref T)])) := (Fr.new hT).trans (Fr.set rfl e2 rfl)
  have t2 : upd (upd H1 T (.lst [])) x (.ins CP dx [("most", .int m), ("steps", .int 0), ("defined", .ref D), ("todo", .ref T)]) T = some (.lst []) := by rw [upd_ne (Ne.symm nT)]; exact upd_same
  have x2 : upd (upd H1 T (.lst [])) x (.ins CP dx [("most", .int m), ("steps", .int 0), ("defined", .ref D), ("todo", .ref T)]) x = some (.ins CP dx [("most", .int m), ("steps", .int 0), ("defined", .ref D), ("todo", .ref T)]) := upd_same
  have ep : putF ("todo" : Str) (V.ref T) ([("most", .int m), ("steps", .int 0), ("defined", .ref D)] : List (Str × V)) = ([("most", .int m), ("steps", .int 0), ("defined", .ref D), ("todo", .ref T)] : List (Str × V)) := rfl
  rw [ep]
  generalize upd (upd H1 T (.lst [])) x (.ins CP dx [("most", .int m), ("steps", .int 0), ("defined", .ref D), ("todo", .ref T)]) = H2 at f2 t2 x2 ⊢
  refine ⟨by show 0 ≤ sizeLine; decide, fun S hS => ?_⟩
  have nS : x ≠ S := ne_of_none x2 hS
  have nTS : T ≠ S := ne_of_none t2 hS
  have e3 : upd H2 S (.lst []) x = some (.ins CP dx [("most", .int m), ("steps", .int 0), ("defined", .ref D), ("todo", .ref T)]) := by rw [upd_ne nS]; exact x2
  refine ⟨_, rfl, x, CP, dx, _, rfl, e3, U.c, U.n _ (by simp), by show 4 < 1000; decide, ?_⟩
  have f3 : Fr (fun b => b = x) H2 (upd (upd H2 S (.lst [])) x (.ins CP dx [("most", .int m), ("steps", .int 0), ("defined", .ref D), ("todo", .ref T), ("results", .ref S)])) := (Fr.new hS).trans (Fr.set rfl e3 rfl)
  have ht : H T = none := f1.dom hT
  have hs : H S = none := f1.dom (f2.dom hS)
  have d2 := f2.keep nDx rfl d1
  have d3 := f3.keep nDx rfl d2
  refine q D T S _ hD ht hs nTS (f1.trans (f2.trans f3)) d3 ?_ ?_ upd_same
  · rw [upd_ne (Ne.symm nT), upd_ne nTS]; exact t2
  · rw [upd_ne (Ne.symm nS)]; exact upd_same
theorem scCar : FnScope ["self", "core", "action", "tree", "variables"] ["self", "core"] (defScope sCar) := ⟨rfl, rfl, rfl, by decide +kernel, rfl, by decide +kernel, by decide +kernel⟩
theorem ok_car {f fE : Addr} {fd dE : FuncData} (Fn : Fun K "carry_out" "PlainRun.carry_out" sCar f fd) (U : FldC K CP fR5) (G : ActG mg F)
    (H1 : HeldX P w K mg base 5 F.bg (spA CP F C En P1 (fun _ => True) goB)) (H2 : HeldX P w K mg base 5 F.el (spA CP F C En P1 (fun t => word t = "let") goEl)) (H3 : HeldX P w K mg base 5 F.ei (spA CP F C En P1 (fun t => word t = "if") goEi)) (H4 : HeldX P w K mg base 5 F.ec (spA CP F C En P1 (fun t => word t = "call") goEc)) :
    FnOk P w K mg base (L2.CX P w) 6 f fd ["self", "core"] (spCar CP F C En P1) := by
  refine Fn.okX scCar (fun vs H Q E h => ?_) (fun cdv A outer s H vs Q E hr h => ?_)
  · obtain ⟨X, p, m, n, c, t, k, rfl, _⟩ := h
    rfl
  obtain ⟨X, p, m, n, c, t, k, rfl, st, rt, wt, tg, q⟩ := h
  have nd := scCar.nd
  have hu := hu_of hr
  have held : ∀ g sp, ((g = F.bg ∧ sp = spA CP F C En P1 (fun _ => True) goB) ∨ (g = F.el ∧ sp = spA CP F C En P1 (fun t => word t = "let") goEl) ∨ (g = F.ei ∧ sp = spA CP F C En P1 (fun t => word t = "if") goEi) ∨ (g = F.ec ∧ sp = spA CP F C En P1 (fun t => word t = "call") goEc)) → HeldX P w K mg base 5 g sp := by
    rintro g sp (⟨rfl, rfl⟩ | ⟨rfl, rfl⟩ | ⟨rfl, rfl⟩ | ⟨rfl, rfl⟩)
    · exact H1
    · exact H2
    · exact H3
    · exact H4
  refine ⟨_, (pss_cons (ps_expr (pe_bm PySem.F.plainAttrs_list PySem.F.slot_list_append PySem.F.type_list_append mt_append (pe_fld (pv 0) rfl) (pa_cons (pe_tup (pa_cons (pe_glob (v := .ref F.bg) rfl G.bg rfl) (pa_cons (pv 1) (pa_cons pe_dnewK pa_nil)))) pa_nil)))
    (pss_cons (ps_while (passes_of rfl) (pt_truth (pe_fld (pv 0) rfl) (by intro _; rfl))
      (pss_cons (ps_asg (pe_bm0 PySem.F.plainAttrs_list PySem.F.slot_list_pop PySem.F.type_list_pop mt_pop (pe_fld (pv 0) rfl)) (pg_tup rfl (pgs_cons (pg_name (i := 2) nd rfl (Or.inl rfl)) (pgs_cons (pg_name (i := 3) nd rfl (Or.inl rfl)) (pgs_cons (pg_name (i := 4) nd rfl (Or.inl rfl)) pgs_nil)))))
      (pss_one (ps_expr (pe_callAX (i := 2) held hr rfl (.inl rfl) (passes_call (takes_of rfl rfl rfl rfl) fun _ _ _ _ h => h) (pa_cons (pv 0) (pa_cons (pv 3) (pa_cons (pv 4) pa_nil))))))))
    (pss_one (ps_ret (pe_bm0 PySem.F.plainAttrs_list PySem.F.slot_list_pop PySem.F.type_list_pop mt_pop (pe_fld (pv 0) rfl)))))), ?_⟩
  obtain ⟨us, t1, t2⟩ := st.t
  cases us with
  | cons _ _ => have := t2.len; cases this
  | nil =>
  refine ⟨_, rfl, p.R, CP, p.dx, _, _, rfl, st.r, U.c, U.n _ (by simp), rfl, .inl ⟨rfl, _, SqL.of t1⟩, ?_⟩
  refine ⟨_, rfl, fun d hd => ⟨by show 3 ≤ sizeLine; decide, fun t0 ht0 => ?_⟩⟩
  have f0 : Fr No H (upd H d (.dK [])) := Fr.new hd
  have st0 := st.fr f0
  have re0 : REn C X (upd H d (.dK [])) d [] := ⟨[], upd_same, fun z => st.dom d z hd, .nil, Nat.zero_le _⟩
  obtain ⟨g1, st1, f1⟩ := st0.pushT (act := .begin) (t0 := t0) (ts := []) (f0.keep (fun z => z) rfl t1) .nil ht0 (rt.keep f0.tup) wt re0
  refine ⟨p.T, _, _, rfl, rfl, g1, by decide, ?_⟩
  have f01 : Fr X H (upd (upd (upd H d (.dK [])) t0 (.tup [.ref F.bg, c, .ref d])) p.T (.lst ([] ++ [.ref t0]))) := f0.no.trans f1
  have st1 : PRn CP F C X (upd (upd (upd H d (.dK [])) t0 (.tup [.ref F.bg, c, .ref d])) p.T (.lst ([] ++ [.ref t0]))) p m n [⟨.begin, t, []⟩] [] := st1
  generalize upd (upd (upd H d (.dK [])) t0 (.tup [.ref F.bg, c, .ref d])) p.T (.lst ([] ++ [.ref t0])) = H1 at f01 st1 ⊢
  generalize hr0 : runF k m n [⟨.begin, t, []⟩] [] = r at q
  dsimp only
  refine seq_of (while_n (fun kk σ H' => ∃ (n0 : Nat) (todo : List Tk) (res : List Vl) (v2 v3 v4 : Option V), σ = [some (.ref p.R), some c, v2, v3, v4] ∧ PRn CP F C X H' p m n0 todo res ∧ Fr X H H' ∧ runF kk m n0 todo res = r) k
    ⟨n, _, _, none, none, none, rfl, st1, f01, hr0⟩ ?_ ?_)
  · rintro kk σ H' ⟨n0, todo, res, v2, v3, v4, rfl, st', f', er⟩
    cases kk with
    | zero =>
      unfold runF at er
      rw [← er] at q
      exact q.elim
    | succ kk =>
    obtain ⟨ts, s1, s2⟩ := st'.t
    refine ⟨_, rfl, p.R, CP, p.dx, _, _, rfl, st'.r, U.c, U.n _ (by simp), rfl, !ts.isEmpty, .inl ⟨_, SqL.of s1, rfl⟩, ?_⟩
    cases todo with
    | nil =>
      cases s2
      unfold runF at er
      rw [← er] at q
      obtain ⟨rs, r1, r2⟩ := st'.s
      match res, q, r2, st' with
      | [v], q, r2, st' =>
      cases r2 with
      | cons rv r3 =>
      cases r3
      refine iteF ?_
      refine ⟨_, rfl, p.R, CP, p.dx, _, _, rfl, st'.r, U.c, U.n _ (by simp), rfl, .inl ⟨rfl, _, SqL.of r1⟩, p.S, _, _, rfl, rfl, r1, rfl, ?_⟩
      have g := st'.setS (rs := []) (res' := []) .nil
      exact q _ _ (f'.trans g.2) g.1 (rv.fr g.2)
    | cons tk todo =>
      obtain ⟨v, ws, rfl, ⟨a, cc, e, rfl, ha, rt', wt', re'⟩, al⟩ := s2.last
      have ie : (!(ws ++ [V.ref a]).isEmpty) = true := by cases ws <;> rfl
      rw [ie]
      refine iteT ?_
      refine ⟨_, rfl, p.R, CP, p.dx, _, _, rfl, st'.r, U.c, U.n _ (by simp), rfl, .inl ⟨rfl, _, SqL.of s1⟩, p.T, _, .ref a, rfl, rfl, s1, by simp, ?_⟩
      rw [List.dropLast_concat]
      obtain ⟨st2, f2⟩ := st'.setT (ts := ws) (todo' := todo) al
      have ha2 := f2.tup _ _ ha
      have rt2 := rt'.keep f2.tup
      have re2 := re'.fr f2
      have ff := f'.trans f2
      have tg2 := ff.sm.tab _ tg
      generalize upd H' p.T (.lst ws) = H2 at st2 f2 ha2 rt2 re2 ff tg2 ⊢
      refine ⟨a, _, rfl, SqT.of ha2, rfl, _, _, rfl, ?_⟩
      refine ⟨_, _, rfl, ?_⟩
      refine ⟨_, _, rfl, rfl, ?_⟩
      unfold runF at er
      have nst : actF m tk n0 todo res ≠ .stuck := fun z => by rw [z] at er; rw [← er] at q; exact q
      have done : ∀ (ok : Tr → Prop) (go : Wd → Tr → List (Int × Vl) → Nat → List Tk → List Vl → PRes), ok tk.t → go m tk.t tk.env n0 todo res = actF m tk n0 todo res →
          spA CP F C En P1 ok go [.ref p.R, cc, .ref e] H2 (fun v' H'' => ∃ m', m' < kk + 1 ∧ ∃ (n0 : Nat) (todo : List Tk) (res : List Vl) (w2 w3 w4 : Option V), [some (V.ref p.R), some c, some (V.ref (F.at tk.act)), some cc, some (V.ref e)] = [some (.ref p.R), some c, w2, w3, w4] ∧ PRn CP F C X H'' p m n0 todo res ∧ Fr X H H'' ∧ runF m' m n0 todo res = r) E := by
        intro ok go okt eg
        refine ⟨X, p, m, n0, todo, res, cc, tk.t, e, tk.env, rfl, st2, rt2, wt', okt, re2, tg2, by rw [eg]; exact nst, fun n' t' r' ee H'' f'' st'' => ?_, fun ws' n' ee H'' f'' hR => ?_⟩
        · rw [eg] at ee
          rw [ee] at er
          exact ⟨kk, Nat.lt_succ_self _, n', t', r', _, _, _, rfl, st'', ff.trans f'', er⟩
        · rw [eg] at ee
          rw [ee] at er
          rw [← er] at q
          exact q H'' (ff.trans f'') hR
      cases hact : tk.act with
      | begin =>
        try rw [hact] at done
        refine ⟨F.bg, _, rfl, .inl ⟨rfl, rfl⟩, _, rfl, _, rfl, _, rfl, ?_⟩
        exact done (fun _ => True) goB trivial (by unfold actF; rw [hact]; rfl)
      | endLet =>
        try rw [hact] at done
        have ev : goEl m tk.t tk.env n0 todo res = actF m tk n0 todo res := by unfold actF; rw [hact]; rfl
        have wl : word tk.t = "let" := by
          have n2 := nst
          rw [← ev] at n2
          unfold goEl endLetF at n2
          cases ht : tk.t with
          | let_ _ _ _ => rfl
          | _ => rw [ht] at n2; exact absurd rfl n2
        refine ⟨F.el, _, rfl, .inr (.inl ⟨rfl, rfl⟩), _, rfl, _, rfl, _, rfl, ?_⟩
        exact done (fun t => word t = "let") goEl wl ev
      | endIf =>
        try rw [hact] at done
        have ev : goEi m tk.t tk.env n0 todo res = actF m tk n0 todo res := by unfold actF; rw [hact]; rfl
        have wl : word tk.t = "if" := by
          have n2 := nst
          rw [← ev] at n2
          unfold goEi endIfF at n2
          cases ht : tk.t with
          | if_ _ _ _ => rfl
          | _ => rw [ht] at n2; exact absurd rfl n2
        refine ⟨F.ei, _, rfl, .inr (.inr (.inl ⟨rfl, rfl⟩)), _, rfl, _, rfl, _, rfl, ?_⟩
        exact done (fun t => word t = "if") goEi wl ev
      | endCall =>
        try rw [hact] at done
        have ev : goEc m tk.t tk.env n0 todo res = actF m tk n0 todo res := by unfold actF; rw [hact]; rfl
        have wl : word tk.t = "call" := by
          have n2 := nst
          rw [← ev] at n2
          unfold goEc endCallF at n2
          cases ht : tk.t with
          | call _ _ => rfl
          | _ => rw [ht] at n2; exact absurd rfl n2
        refine ⟨F.ec, _, rfl, .inr (.inr (.inr ⟨rfl, rfl⟩)), _, rfl, _, rfl, _, rfl, ?_⟩
        exact done (fun t => word t = "call") goEc wl ev
  · rintro σ H0 Q1 Q2 hm hh
    obtain ⟨x, e, a, C', dx, fs, v, h1, h2, h3, h4, h5, kk, h6, h7⟩ := hh
    exact ⟨x, e, a, C', dx, fs, v, h1, h2, h3, h4, h5, kk, h6, hm _ _ h7⟩
end
end My
namespace My
open PySem PySem.Spec PyProof.Rows L2 TL
/-! ### readings that name K -/
section
variable {X : Cx} {K : PySem.W.Frag}
theorem pe_fldK {e : Expr} {ta : TE} {f : Str} {pos : Pos} (hK : X.K = K) (he : PE X e ta) (hb : attributeBase e f X.env (eval e X.env) = eval e X.env) : PE X (.Attribute e f pos) (tFld K ta f) := by
  subst hK; exact pe_fld he hb
theorem pi_listK {tg e : Expr} {ta : TE} (hK : X.K = K) (he : PE X e ta) : PI X tg e (iList K ta) := by
  subst hK; exact pi_list he
end
/-! ### the program: its definitions, then the last part -/
abbrev NCop : List Str := ["self", "definitions", "last", "module", "name", "body", "end"]
structure EndC (K : PySem.W.Frag) (mg : Str → Option Value) (En : Addr) : Prop where
  g : mg "Ended" = some (.ref En)
  x : XfC K En
  n : PySem.W.findIn K (.ref En) "outcome" = some none
  te : PySem.W.exmOne K (.ref En) (.ref En) = some true
/-- what a run is: its states between two parts that are carried out -/
structure CoD (C : Cs) (CR : Addr) where
  σ : Type
  β : Type
  self : Addr
  D : Addr
  RB : Hp → V → β → Prop
  run : Gl → σ → β → Option (Except (List Str × σ) (σ × Vl))
  I : (Addr → Prop) → Hp → σ → Gl → Prop
  J : Hp → σ → Prop
  keepB : ∀ {H H' : Hp} {v : V} {b : β}, KpT H H' → RB H v b → RB H' v b
  noI : ∀ {X : Addr → Prop} {H H' : Hp} {s : σ} {gl : Gl}, Fr No H H' → I X H s gl → I X H' s gl
  noJ : ∀ {H H' : Hp} {s : σ}, Fr No H H' → J H s → J H' s
  obj : ∀ {X : Addr → Prop} {H : Hp} {s : σ} {gl : Gl}, I X H s gl → ∃ dx fs, H self = some (.ins CR dx fs) ∧ fs.lookup ("carry_out" : Str) = none ∧ fs.lookup ("defined" : Str) = some (.ref D)
  df : ∀ {X : Addr → Prop} {H : Hp} {s : σ} {gl : Gl}, I X H s gl → RDf C X H D gl ∧ X D
  put : ∀ {X : Addr → Prop} {H : Hp} {s : σ} {gl : Gl} {kvs : List (List Key × V)} {k : Str × Str} {v : V} {x : Vl}, I X H s gl → H D = some (.dT kvs) → RV C X H v x → I X (upd H D (.dT (putK kvs (glK k) v))) s (glPut k x gl)
  toJ : ∀ {X : Addr → Prop} {H : Hp} {s : σ} {gl : Gl}, I X H s gl → J H s
  grow : ∀ {X : Addr → Prop} {H : Hp} {s : σ} {gl : Gl}, I X H s gl → ∀ b, X b → H b ≠ none
section
variable {C : Cs} {CR : Addr}
/-- what follows a part -/
def coPost (En : Addr) (cd : CoD C CR) (X : Addr → Prop) (H : Hp) (gl : Gl) (Q : VK) (E : XK) : Option (Except (List Str × cd.σ) (cd.σ × Vl)) → Prop
  | some (.ok (s', x)) => ∀ (X' : Addr → Prop) u H', Fr X H H' → (∀ b, X b → X' b) → (∀ b, X' b → X b ∨ H b = none) → cd.I X' H' s' gl → RV C X' H' u x → Q u H'
  | some (.error (ws, s')) => ∀ H1, Fr X H H1 → cd.J H1 s' → erX No En ws H1 E
  | none => False
def spCo {ι : Type} (En P1 : Addr) (cd : ι → CoD C CR) : Sp := fun vs H Q E => ∃ (i : ι) (X : Addr → Prop) (s : (cd i).σ) (gl : Gl) (v : V) (b : (cd i).β), vs = [.ref (cd i).self, v] ∧ (cd i).I X H s gl ∧ (cd i).RB H v b ∧ GxR.TabG H P1 ∧ coPost En (cd i) X H gl Q E ((cd i).run gl s b)
/-- the definitions one by one, then the last part -/
def progF (cd : CoD C CR) : List ((Str × Str) × cd.β) → cd.β → Gl → cd.σ → Option (Except (List Str × cd.σ) (cd.σ × Vl))
  | [], b, gl, s => cd.run gl s b
  | (k, d) :: ds, b, gl, s => match cd.run gl s d with
    | some (.ok (s', x)) => progF cd ds b (glPut k x gl) s'
    | some (.error e) => some (.error e)
    | none => none
/-- a definition as it stands in the list -/
def RDn (cd : CoD C CR) (H : Hp) (v : V) (d : (Str × Str) × cd.β) : Prop := ∃ (a : Addr) (c : V), v = .ref a ∧ H a = some (.tup [.str d.1.1, .str d.1.2, c]) ∧ cd.RB H c d.2
theorem RDn.keep {cd : CoD C CR} {H H' : Hp} (k : KpT H H') {v : V} {d : (Str × Str) × cd.β} (h : RDn cd H v d) : RDn cd H' v d := by
  obtain ⟨a, c, e, h1, h2⟩ := h
  exact ⟨a, c, e, k _ _ h1, cd.keepB k h2⟩
def spCop {ι : Type} (En P1 : Addr) (cd : ι → CoD C CR) : Sp := fun vs H Q _ => ∃ (i : ι) (X : Addr → Prop) (s : (cd i).σ) (l : Addr) (us : List V) (ds : List ((Str × Str) × (cd i).β)) (v : V) (b : (cd i).β), vs = [.ref (cd i).self, .ref l, v] ∧ (cd i).I X H s [] ∧ H l = some (.lst us) ∧ ¬ X l ∧ Als (RDn (cd i) H) us ds ∧ ds.length ≤ 1000 ∧ (cd i).RB H v b ∧ GxR.TabG H P1 ∧
  (match progF (cd i) ds b [] s with
  | some (.ok (s', x)) => ∀ t u H', Fr X H H' → (cd i).J H' s' → H' t = some (.tup [.str "value", u]) → RSh H' u (showF x 0 0).1 → Q (.ref t) H'
  | some (.error (ws, s')) => ∀ o H', Fr X H H' → (cd i).J H' s' → H' o = some (.tup (ws.map .str)) → Q (.ref o) H'
  | none => False)
end
theorem Fr.drop2 {X Y : Addr → Prop} {H H1 H' : Hp} (a : Fr X H H1) (b : Fr Y H1 H') (h : ∀ q, Y q → X q ∨ H q = none) : Fr X H H' := by
  refine ⟨⟨fun c o n t e => ?_, fun P z => b.sm.tab P (a.sm.tab P z), fun c e => a.dom (b.dom e)⟩, fun c xs e => b.tup _ _ (a.tup _ _ e)⟩
  exact b.keep (fun z => (h c z).elim n fun q => by rw [q] at e; cases e) t (a.keep n t e)
section
variable {P : Program} {w : World} {K : PySem.W.Frag} {mg : Str → Option Value} {base : Heap} {CP En P1 : Addr} {F : Acts} {C : Cs}
theorem glPut_len (k : Str × Str) (y : Vl) (gl : Gl) : (glPut k y gl).length ≤ gl.length + 1 := by
  unfold glPut
  split
  · rw [List.length_map]; omega
  · rw [List.length_append]; exact Nat.le_refl _
theorem scCop : FnScope NCop ["self", "definitions", "last"] (defScope sCop) := ⟨rfl, rfl, rfl, by decide +kernel, rfl, by decide +kernel, by decide +kernel⟩
theorem ok_cop {ι : Type} {CR f fC fS : Addr} {cd : ι → CoD C CR} {fd dC dS : FuncData} {x2 : Str} (Fn : Fun K "carry_out_program" "Run.carry_out_program" sCop f fd) (U : FldC K CR ["defined"]) (T : EndC K mg En) (MC : MCal P w K mg base (L2.CX P w) 70 CR "carry_out" ["self", x2] (spCo En P1 cd) fC dC)
    (GS : Cal P w K mg base CX0 62 "shown" ["value"] (spShn C) fS dS) : FnOk P w K mg base CX0 71 f fd ["self", "definitions", "last"] (spCop En P1 cd) := by
  refine Fn.ok scCop (fun vs H Q E h => ?_) (fun cdv A outer s H vs Q E hr h => ?_)
  · obtain ⟨i, X, s, l, us, ds, v, b, rfl, _⟩ := h
    rfl
  obtain ⟨i, X, s0, l, us, ds, last, b, rfl, hI, hl, nXl, al, ld, rb, tg, q⟩ := h
  have nd := scCop.nd
  have hu := hu_of hr
  have r2 := hr.mono (show 62 ≤ 70 by decide)
  refine ⟨_, pss_one (L2.ps_try_as (n := "end") (i := 6) (Wout := fun _ _ _ _ => False) rfl rfl nd rfl rfl (c := .ref En) ⟨rfl, by decide +kernel, .inl T.g⟩ (fun u s' ⟨a, B, sI, pins, σ, H, cls, d, e, I, nb, up, sky, na, os, ag, w⟩ => w.elim)
      (fun W pn xe tk po => pss_cons (ps_for (g := gTup K 3 (gCons (gName 3) (gCons (gName 4) (gCons (gName 5) gNil)))) po rfl (pi_listK (K := K) rfl (pv 1)) (pg_tup rfl (pgs_cons (pg_name (i := 3) nd rfl (Or.inl rfl)) (pgs_cons (pg_name (i := 4) nd rfl (Or.inl rfl)) (pgs_cons (pg_name (i := 5) nd rfl (Or.inl rfl)) pgs_nil))))
            (pss_one (ps_dput hu (pe_fldK (K := K) rfl (pv 0) rfl) (pe_tup (pa_cons (pv 3) (pa_cons (pv 4) pa_nil))) (pe_methT (pv 0) MC.c MC.m MC.ok hr MC.b (fun σ => passAt tk σ) (pa_cons (pv 5) pa_nil)) rfl)))
          (pss_one (ps_ret (pe_tup (pa_cons pe_str (pa_cons (pe_call GS.ok r2 rfl GS.g GS.k GS.b .nil pass0 (pa_cons (pe_methT (pv 0) MC.c MC.m MC.ok hr MC.b (fun σ => passAt tk σ) (pa_cons (pv 2) pa_nil)) pa_nil)) pa_nil))))))
      (fun a oe cls d pn hz hf => pss_one (ps_ret (pe_xf T.x T.n hz hf (pv 6))))), ?_⟩
  generalize hpr : progF (cd i) ds b [] s0 = pr at q
  refine ⟨_, rfl, l, rfl, ⟨_, SqL.of hl⟩, for_list (xs := us) (fun k σ H' => ∃ (v3 v4 v5 : Option V) (X' : Addr → Prop) (s : (cd i).σ) (gl : Gl), σ = [some (.ref (cd i).self), some (.ref l), some last, v3, v4, v5, none] ∧ (cd i).I X' H' s gl ∧ Fr X H H' ∧ (∀ b, X b → X' b) ∧ (∀ b, X' b → X b ∨ H b = none) ∧ progF (cd i) (ds.drop k) b gl s = pr ∧ gl.length ≤ k)
    ⟨none, none, none, X, s0, [], rfl, hI, Fr.refl _ _, fun b z => z, fun b z => .inl z, hpr, Nat.le_refl _⟩ (fun k σ H' _ ⟨_, _, _, _, _, _, _, _, f, _⟩ => SqL.of (f.keep nXl rfl hl)) ?_ ?_⟩
  · rintro k y σ H' hk ⟨v3, v4, v5, X', s, gl, rfl, hI', f', xa, xb, hp', lgl⟩
    obtain ⟨d, hd, ⟨a, c, rfl, ha, rc⟩⟩ := al.get hk
    have kl : k < ds.length := (List.getElem?_eq_some_iff.mp hd).1
    have hdrop : ds.drop k = d :: ds.drop (k + 1) := by
      rw [List.drop_eq_getElem_cons kl, (List.getElem?_eq_some_iff.mp hd).2]
    rw [hdrop] at hp'
    obtain ⟨⟨m, x⟩, bd⟩ := d
    unfold progF at hp'
    refine ⟨a, _, rfl, SqT.of (f'.tup _ _ ha), rfl, _, _, rfl, ?_⟩
    refine ⟨_, _, rfl, ?_⟩
    refine ⟨_, _, rfl, rfl, ?_⟩
    obtain ⟨dx, fs, o1, o2, o3⟩ := (cd i).obj hI'
    refine ⟨_, rfl, (cd i).self, dx, fs, rfl, o1, o2, _, rfl, ?_⟩
    refine ⟨i, X', s, gl, c, bd, rfl, hI', (cd i).keepB f'.tup rc, f'.sm.tab _ tg, ?_⟩
    cases hrun : (cd i).run gl s bd with
    | none =>
      rw [hrun] at hp'
      rw [← hp'] at q
      exact q.elim
    | some r =>
      rw [hrun] at hp'
      cases r with
      | error e =>
        obtain ⟨ws, s'⟩ := e
        dsimp only at hp'
        rw [← hp'] at q
        intro H1 f1 hJ H2 dd t f2 hdd e1 e2
        have f02 := f'.drop2 (f1.trans f2.no) xb
        exact ⟨true, T.te, fun _ a ha => ⟨_, rfl, rfl, rfl, dd, _, .ref t, rfl, e1, rfl, q t H2 f02 ((cd i).noJ f2 hJ) e2⟩, fun z => by cases z⟩
      | ok r =>
        obtain ⟨s', z⟩ := r
        dsimp only at hp'
        intro X2 u H2 f2 x2 x2n hI2 rv
        obtain ⟨dx2, fs2, p1, p2, p3⟩ := (cd i).obj hI2
        obtain ⟨⟨kvs, hD, rg⟩, XD⟩ := (cd i).df hI2
        refine ⟨_, rfl, (cd i).self, CR, dx2, _, _, rfl, p1, U.c, U.n _ (by simp), p3, _, rfl, _, rfl, by show 2 ≤ sizeLine; decide, fun t ht => ?_⟩
        have ft : Fr No H2 (upd H2 t (.tup [.str m, .str x])) := Fr.new ht
        have hD3 := ft.keep (fun z => z) rfl hD
        have hI3 := (cd i).noI ft hI2
        have rv3 := rv.fr ft.no
        have et : upd H2 t (.tup [.str m, .str x]) t = some (.tup [.str m, .str x]) := upd_same
        generalize upd H2 t (.tup [.str m, .str x]) = H3 at ft hD3 hI3 rv3 et ⊢
        have lk : kvs.length = gl.length := rg.len
        refine ⟨(cd i).D, _, rfl, .inr ⟨kvs, glK (m, x), t, hD3, rfl, et, Nat.lt_of_le_of_lt (show kvs.length ≤ 1000 by omega) (by decide), rfl⟩, ?_⟩
        have fD : Fr X2 H3 (upd H3 (cd i).D (.dT (putK kvs (glK (m, x)) u))) := Fr.set XD hD3 rfl
        have x0n : ∀ b, X2 b → X b ∨ H b = none := fun b q => (x2n b q).elim (xb b) fun n => .inr (f'.dom n)
        have f02 := (f'.drop2 f2 xb).trans ft.no
        have lp := glPut_len (m, x) z gl
        exact ⟨_, _, _, X2, s', glPut (m, x) z gl, rfl, (cd i).put hI3 hD3 rv3, f02.drop2 fD x0n, fun b q => x2 b (xa b q), x0n, hp', by omega⟩
  · rintro σ H' ⟨v3, v4, v5, X', s, gl, rfl, hI', f', xa, xb, hp', lgl⟩
    have lu := al.len
    rw [lu, List.drop_length] at hp'
    unfold progF at hp'
    obtain ⟨dx, fs, o1, o2, o3⟩ := (cd i).obj hI'
    refine ⟨_, rfl, (cd i).self, dx, fs, rfl, o1, o2, _, rfl, ?_⟩
    refine ⟨i, X', s, gl, last, b, rfl, hI', (cd i).keepB f'.tup rb, f'.sm.tab _ tg, ?_⟩
    rw [hp']
    match pr, q with
    | some (.ok (s', x)), q =>
      intro X2 u H2 f2 x2 x2n hI2 rv
      refine ⟨X2, u, x, rfl, rv, fun u2 H3 f3 rs => ⟨by show 2 ≤ sizeLine; decide, fun t ht => ?_⟩⟩
      have ft : Fr No H3 (upd H3 t (.tup [.str "value", u2])) := Fr.new ht
      exact q t u2 _ ((f'.drop2 f2 xb).trans (f3.trans ft).no) ((cd i).noJ (f3.trans ft) ((cd i).toJ hI2)) upd_same (rs.keep ft.tup)
    | some (.error (ws, s')), q =>
      intro H1 f1 hJ H2 dd t f2 hdd e1 e2
      exact ⟨true, T.te, fun _ a ha => ⟨_, rfl, rfl, rfl, dd, _, .ref t, rfl, e1, rfl, q t H2 (f'.drop2 (f1.trans f2.no) xb) ((cd i).noJ f2 hJ) e2⟩, fun z => by cases z⟩
end
end My
namespace My
open PySem PySem.Spec PyProof.Rows L2 TL
/-! ### run_plain -/
theorem FnOk.imp {P : Program} {w : World} {K : PySem.W.Frag} {mg : Str → Option Value} {base : Heap} {CX : CXT} {k : Nat} {f : Addr} {fd : FuncData} {ps : List Str} {sp sp' : Sp} (F : FnOk P w K mg base CX k f fd ps sp) (h : ∀ vs H Q E, sp' vs H Q E → sp vs H Q E) : FnOk P w K mg base CX k f fd ps sp' :=
  ⟨fun vs H Q E z => F.1 vs H Q E (h _ _ _ _ z), fun a b c d e f g i j k l m n z => F.2 a b c d e f g i j k l m n (h _ _ _ _ z)⟩
def plRun (k m : Nat) (gl : Gl) (n : Nat) (t : Tr) : Option (Except (List Str × Nat) (Nat × Vl)) := match runF k ⟨m, gl⟩ n [⟨.begin, t, []⟩] [] with
  | some (.ok (n', [v])) => some (.ok (n', v))
  | some (.error e) => some (.error e)
  | _ => none
structure IxP where
  p : Pn
  m : Nat
  k : Nat
section
variable {CP : Addr} {F : Acts} {C : Cs}
theorem PRn.put {X : Addr → Prop} {H : Hp} {p : Pn} {m n : Nat} {gl : Gl} {kvs : List (List Key × V)} {k : Str × Str} {v : V} {x : Vl} (h : PRn CP F C X H p ⟨m, gl⟩ n [] []) (XD : X p.D) (hD : H p.D = some (.dT kvs)) (rv : RV C X H v x) :
    PRn CP F C X (upd H p.D (.dT (putK kvs (glK k) v))) p ⟨m, glPut k x gl⟩ n [] [] := by
  obtain ⟨ts, t1, t2⟩ := h.t
  obtain ⟨rs, s1, s2⟩ := h.s
  obtain ⟨kvs', d1, d2⟩ := h.d
  rw [hD] at d1
  cases d1
  have f : Fr X H (upd H p.D (.dT (putK kvs (glK k) v))) := Fr.set XD hD rfl
  refine ⟨by rw [upd_ne (Ne.symm h.neRD)]; exact h.r, ⟨ts, by rw [upd_ne (Ne.symm h.neTD)]; exact t1, t2.mono fun _ _ r => r.fr f⟩, ⟨rs, by rw [upd_ne (Ne.symm h.neSD)]; exact s1, s2.fr f⟩, h.xr, h.xt, h.xs, ⟨_, upd_same, (d2.fr f).put (rv.fr f)⟩, h.ne, fun b z => f.dom' (h.dom b z)⟩
def cdP (CP : Addr) (F : Acts) (C : Cs) (i : IxP) : CoD C CP where
  σ := Nat
  β := Tr
  self := i.p.R
  D := i.p.D
  RB := fun H v t => RT H v t ∧ widT t
  run := plRun i.k i.m
  I := fun X H n gl => PRn CP F C X H i.p ⟨i.m, gl⟩ n [] [] ∧ X i.p.D
  J := fun H n => H i.p.R = some (.ins CP i.p.dx (flds i.p ⟨i.m, []⟩ n))
  keepB := fun k h => ⟨h.1.keep k, h.2⟩
  noI := fun f h => ⟨h.1.fr f, h.2⟩
  noJ := fun f h => f.keep (fun z => z) rfl h
  obj := fun h => ⟨_, _, h.1.r, rfl, rfl⟩
  df := fun h => ⟨h.1.d, h.2⟩
  put := fun h hD rv => ⟨h.1.put h.2 hD rv, h.2⟩
  toJ := fun h => h.1.r
  grow := fun h b z => h.1.dom b z
theorem car_co {En P1 : Addr} : ∀ vs H Q E, spCo En P1 (cdP CP F C) vs H Q E → spCar CP F C En P1 vs H Q E := by
  rintro vs H Q E ⟨⟨p, m, k⟩, X, n, gl, c, t, rfl, ⟨st, xD⟩, ⟨rt, wt⟩, tg, q⟩
  refine ⟨X, p, ⟨m, gl⟩, n, c, t, k, rfl, st, rt, wt, tg, ?_⟩
  have q : coPost En (cdP CP F C ⟨p, m, k⟩) X H gl Q E (plRun k m gl n t) := q
  unfold plRun at q
  generalize runF k ⟨m, gl⟩ n [⟨.begin, t, []⟩] [] = r at q ⊢
  match r, q with
  | some (.ok (n', [v])), q => exact fun u H' f st' rv => q X u H' f (fun b z => z) (fun b z => .inl z) ⟨st', xD⟩ rv
  | some (.error (ws, n')), q => exact fun H1 f e => q H1 f e
end
abbrev sRp : Stmt := top 67
/-- a definition as it is handed in -/
def RDp (H : Hp) (v : V) (d : (Str × Str) × Tr) : Prop := ∃ (a : Addr) (c : V), v = .ref a ∧ H a = some (.tup [.str d.1.1, .str d.1.2, c]) ∧ RT H c d.2 ∧ widT d.2
theorem RDp.keep {H H' : Hp} (k : KpT H H') {v : V} {d : (Str × Str) × Tr} (h : RDp H v d) : RDp H' v d := by
  obtain ⟨a, c, e, h1, h2, h3⟩ := h
  exact ⟨a, c, e, k _ _ h1, h2.keep k, h3⟩
/-- the program by the plain run: steps and value, or the outcome -/
def plainF (k m : Nat) : List ((Str × Str) × Tr) → Tr → Gl → Nat → Option (Except (List Str × Nat) (Nat × Vl))
  | [], t, gl, n => plRun k m gl n t
  | (key, d) :: ds, t, gl, n => match plRun k m gl n d with
    | some (.ok (n', x)) => plainF k m ds t (glPut key x gl) n'
    | some (.error e) => some (.error e)
    | none => none
theorem progF_cons {C : Cs} {CR : Addr} (cd : CoD C CR) (key : Str × Str) (d : cd.β) (ds : List ((Str × Str) × cd.β)) (t : cd.β) (gl : Gl) (n : cd.σ) : progF cd ((key, d) :: ds) t gl n = (match cd.run gl n d with
    | some (.ok (s', x)) => progF cd ds t (glPut key x gl) s'
    | some (.error e) => some (.error e)
    | none => none) := rfl
theorem plainF_cons (k m : Nat) (key : Str × Str) (d : Tr) (ds : List ((Str × Str) × Tr)) (t : Tr) (gl : Gl) (n : Nat) : plainF k m ((key, d) :: ds) t gl n = (match plRun k m gl n d with
    | some (.ok (n', x)) => plainF k m ds t (glPut key x gl) n'
    | some (.error e) => some (.error e)
    | none => none) := rfl
theorem plainF_prog (CP : Addr) (F : Acts) (C : Cs) (i : IxP) : ∀ (ds : List ((Str × Str) × Tr)) (t : Tr) (gl : Gl) (n : Nat), progF (cdP CP F C i) ds t gl n = plainF i.k i.m ds t gl n
  | [], _, _, _ => rfl
  | (key, d) :: ds, t, gl, n => by
    rw [plainF_cons]
    refine (progF_cons (cdP CP F C i) key d ds t gl n).trans ?_
    have e : (cdP CP F C i).run gl n d = plRun i.k i.m gl n d := rfl
    rw [e]
    generalize plRun i.k i.m gl n d = r
    match r with
    | none => rfl
    | some (.error e) => rfl
    | some (.ok (s', x)) => exact plainF_prog CP F C i ds t _ _
def rpPost (H : Hp) (Q : VK) : Option (Except (List Str × Nat) (Nat × Vl)) → Prop
  | some (.ok (n', v)) => ∀ a o u H', Fr No H H' → H' a = some (.tup [.ref o, .int (n' : Nat)]) → H' o = some (.tup [.str "value", u]) → RSh H' u (showF v 0 0).1 → Q (.ref a) H'
  | some (.error (ws, n')) => ∀ a o H', Fr No H H' → H' a = some (.tup [.ref o, .int (n' : Nat)]) → H' o = some (.tup (ws.map .str)) → Q (.ref a) H'
  | none => False
def spRp (P1 : Addr) : Sp := fun vs H Q _ => ∃ (l : Addr) (us : List V) (ds : List ((Str × Str) × Tr)) (c : V) (m : Nat) (t : Tr) (k : Nat), vs = [.ref l, c, .int m] ∧ H l = some (.lst us) ∧ Als (RDp H) us ds ∧ ds.length ≤ 1000 ∧ RT H c t ∧ widT t ∧ GxR.TabG H P1 ∧ rpPost H Q (plainF k m ds t [] 0)
section
variable {P : Program} {w : World} {K : PySem.W.Frag} {mg : Str → Option Value} {base : Heap} {CP En P1 : Addr} {F : Acts} {C : Cs}
theorem scRp : FnScope ["definitions", "core", "most", "run", "outcome"] ["definitions", "core", "most"] (defScope sRp) := ⟨rfl, rfl, rfl, by decide +kernel, rfl, by decide +kernel, by decide +kernel⟩
theorem ok_rp {f fI fC : Addr} {fd dI dC : FuncData} (Fn : Fun K "run_plain" "run_plain" sRp f fd) (U : FldC K CP fR5) (MP : MkC P w K mg base 2 "PlainRun" ["self", "most"] (spPin CP) CP fI dI)
    (MC : MCal P w K mg base CX0 71 CP "carry_out_program" ["self", "definitions", "last"] (spCop En P1 (cdP CP F C)) fC dC) : FnOk P w K mg base CX0 72 f fd ["definitions", "core", "most"] (spRp P1) := by
  refine Fn.ok scRp (fun vs H Q E h => ?_) (fun cdv A outer s H vs Q E hr h => ?_)
  · obtain ⟨l, us, ds, c, m, t, k, rfl, _⟩ := h
    rfl
  obtain ⟨l, us, ds, c, m, t, k, rfl, hl, al, ld, rt, wt, tg, q⟩ := h
  have nd := scRp.nd
  have r3 := hr.mono (show 3 ≤ 71 by decide)
  refine ⟨_, (pss_cons (ps_set (i := 3) nd rfl (Or.inl rfl) (pe_make (E := fun _ _ _ => False) MP.m MP.ok r3 rfl MP.g MP.b .nil pass0 (pa_cons (pv 2) pa_nil)))
    (pss_cons (ps_set (i := 4) nd rfl (Or.inl rfl) (pe_meth (pv 3) MC.c MC.m MC.ok hr MC.b .nil pass0 (pa_cons (pv 0) (pa_cons (pv 1) pa_nil))))
    (pss_one (ps_ret (pe_tup (pa_cons (pv 4) (pa_cons (pe_fld (pv 3) rfl) pa_nil))))))), ?_⟩
  refine ⟨_, rfl, fun R dx hR hd ne => ⟨R, dx, m, rfl, upd_same, fun D T S H1 hD hT hS nTS f1 d1 t1 s1 r1 => ⟨rfl, ?_⟩⟩⟩
  have fx : Fr No H (upd (upd H dx (.own R)) R (.ins CP dx [])) := mk_fr hR hd ne
  have f01 : Fr No H H1 := fx.drop f1 fun b e => by rw [e]; exact hR
  have hT0 : H T = none := fx.dom hT
  have hS0 : H S = none := fx.dom hS
  have hD0 : H D = none := fx.dom hD
  have newX : ∀ b, (b = R ∨ b = T ∨ b = S ∨ b = D) → H b = none := fun b e => by
    rcases e with e | e | e | e <;> rw [e]
    · exact hR
    · exact hT0
    · exact hS0
    · exact hD0
  have st : PRn CP F C (fun b => b = R ∨ b = T ∨ b = S ∨ b = D) H1 ⟨R, dx, T, S, D⟩ ⟨m, []⟩ 0 [] [] := ⟨r1, ⟨[], t1, .nil⟩, ⟨[], s1, .nil⟩, .inl rfl, .inr (.inl rfl), .inr (.inr (.inl rfl)), ⟨[], d1, .nil⟩, nTS, fun b e => by
    rcases e with e | e | e | e <;> rw [e]
    · rw [r1]; simp
    · rw [t1]; simp
    · rw [s1]; simp
    · rw [d1]; simp⟩
  have nl : ¬ (l = R ∨ l = T ∨ l = S ∨ l = D) := fun z => by have := newX l z; rw [hl] at this; cases this
  refine ⟨_, rfl, R, dx, _, rfl, r1, rfl, _, rfl, _, rfl, ?_⟩
  refine ⟨⟨⟨R, dx, T, S, D⟩, m, k⟩, fun b => b = R ∨ b = T ∨ b = S ∨ b = D, (0 : Nat), l, us, ds, c, t, rfl, ⟨st, .inr (.inr (.inr rfl))⟩, f01.keep (fun z => z) rfl hl, nl, al.mono fun _ _ r => r.keep f01.tup, ld, ⟨rt.keep f01.tup, wt⟩, f01.sm.tab _ tg, ?_⟩
  rw [plainF_prog]
  dsimp only
  generalize plainF k m ds t [] 0 = r at q ⊢
  match r, q with
  | some (.ok (n', v)), q =>
    intro o u H2 f2 e2 ho rs
    refine ⟨_, rfl, _, rfl, R, CP, dx, _, _, rfl, e2, U.c, U.n _ (by simp), rfl, by show 2 ≤ sizeLine; decide, fun a ha => ?_⟩
    have fa : Fr No H2 (upd H2 a (.tup [.ref o, .int (n' : Nat)])) := Fr.new ha
    exact q a o u _ ((f01.drop (f2.trans fa.no) newX)) upd_same (fa.tup _ _ ho) (rs.keep fa.tup)
  | some (.error (ws, n')), q =>
    intro o H2 f2 e2 ho
    refine ⟨_, rfl, _, rfl, R, CP, dx, _, _, rfl, e2, U.c, U.n _ (by simp), rfl, by show 2 ≤ sizeLine; decide, fun a ha => ?_⟩
    have fa : Fr No H2 (upd H2 a (.tup [.ref o, .int (n' : Nat)])) := Fr.new ha
    exact q a o _ (f01.drop (f2.trans fa.no) newX) upd_same (fa.tup _ _ ho)
end
end My
namespace My
open PySem PySem.Spec PyProof.Rows L2 TL
/-! ### drafts of code -/
inductive DIn where
  | int (i : Int) | prim (p : Str) | glob (m x : Str) | src (s : Src) | fn (k : Nat) (ss : List Src) | put (n : Nat) | jump (l : Nat) | unless (l : Nat) | call (n : Nat) | tail (n : Nat) | end_
inductive RDi (H : Hp) : V → DIn → Prop
  | int {a : Addr} {i : Int} (h : H a = some (.tup [.str "int", .int i])) : RDi H (.ref a) (.int i)
  | prim {a : Addr} {p : Str} (h : H a = some (.tup [.str "prim", .str p])) : RDi H (.ref a) (.prim p)
  | glob {a : Addr} {m x : Str} (h : H a = some (.tup [.str "global", .str m, .str x])) : RDi H (.ref a) (.glob m x)
  | src {a : Addr} {s : Src} (h : H a = some (.tup (srcV s))) : RDi H (.ref a) (.src s)
  | fn {a q : Addr} {k : Nat} {vs : List V} {ss : List Src} (h : H a = some (.tup [.str "fn", .int k, .ref q])) (hq : H q = some (.tup vs)) (rs : RSs H vs ss) : RDi H (.ref a) (.fn k ss)
  | put {a : Addr} {n : Nat} (h : H a = some (.tup [.str "put", .int n])) : RDi H (.ref a) (.put n)
  | jump {a : Addr} {n : Nat} (h : H a = some (.tup [.str "jump", .int n])) : RDi H (.ref a) (.jump n)
  | unless {a : Addr} {n : Nat} (h : H a = some (.tup [.str "unless", .int n])) : RDi H (.ref a) (.unless n)
  | call {a : Addr} {n : Nat} (h : H a = some (.tup [.str "call", .int n])) : RDi H (.ref a) (.call n)
  | tail {a : Addr} {n : Nat} (h : H a = some (.tup [.str "tail", .int n])) : RDi H (.ref a) (.tail n)
  | end_ {a : Addr} (h : H a = some (.tup [.str "end"])) : RDi H (.ref a) .end_
theorem RDi.keep {H H' : Hp} (k : KpT H H') {v : V} {d : DIn} (r : RDi H v d) : RDi H' v d := by
  cases r with
  | int h => exact .int (k _ _ h)
  | prim h => exact .prim (k _ _ h)
  | glob h => exact .glob (k _ _ h)
  | src h => exact .src (k _ _ h)
  | fn h hq rs => exact .fn (k _ _ h) (k _ _ hq) (rs.keep k)
  | put h => exact .put (k _ _ h)
  | jump h => exact .jump (k _ _ h)
  | «unless» h => exact .unless (k _ _ h)
  | call h => exact .call (k _ _ h)
  | tail h => exact .tail (k _ _ h)
  | end_ h => exact .end_ (k _ _ h)
/-- a scope: where each number's value is read -/
abbrev Sc := List (Int × Src)
inductive RSc (H : Hp) : List (Key × V) → Sc → Prop
  | nil : RSc H [] []
  | cons {n : Int} {v : V} {s : Src} {kvs : List (Key × V)} {sc : Sc} (r : RSr H v s) (rs : RSc H kvs sc) : RSc H ((.inl n, v) :: kvs) ((n, s) :: sc)
theorem RSc.keep {H H' : Hp} (k : KpT H H') : ∀ {kvs : List (Key × V)} {sc : Sc}, RSc H kvs sc → RSc H' kvs sc
  | _, _, .nil => .nil
  | _, _, .cons r rs => .cons (r.keep k) (RSc.keep k rs)
theorem RSc.len {H : Hp} : ∀ {kvs : List (Key × V)} {sc : Sc}, RSc H kvs sc → kvs.length = sc.length
  | _, _, .nil => rfl
  | _, _, .cons _ r => congrArg (· + 1) (RSc.len r)
theorem RSc.app {H : Hp} : ∀ {kvs lvs : List (Key × V)} {sc sd : Sc}, RSc H kvs sc → RSc H lvs sd → RSc H (kvs ++ lvs) (sc ++ sd)
  | _, _, _, _, .nil, s => s
  | _, _, _, _, .cons r rs, s => .cons r (RSc.app rs s)
def scGet (n : Int) : Sc → Option Src
  | [] => none
  | (m, x) :: r => if m = n then some x else scGet n r
def scHas (n : Int) (sc : Sc) : Bool := sc.any fun p => decide (p.1 = n)
def scPut (n : Int) (y : Src) (sc : Sc) : Sc := if scHas n sc = true then sc.map (fun p => if p.1 = n then (p.1, y) else p) else sc ++ [(n, y)]
theorem RSc.get {H : Hp} {n : Int} : ∀ {kvs : List (Key × V)} {sc : Sc} {x : Src}, RSc H kvs sc → scGet n sc = some x → ∃ v, valV kvs (.inl n) = some v ∧ RSr H v x
  | _, _, _, .nil, e => by cases e
  | _, _, x, .cons (n := m) (v := v) (s := x') (kvs := kvs) (sc := sc) r rs, e => by
    unfold scGet at e
    by_cases c : m = n
    · rw [if_pos c] at e
      cases e
      exact ⟨v, valV_pos (by rw [c]), r⟩
    · rw [if_neg c] at e
      obtain ⟨u, h1, h2⟩ := RSc.get rs e
      exact ⟨u, by rw [valV_neg (fun z => c (Sum.inl.inj z))]; exact h1, h2⟩
theorem RSc.has {H : Hp} {n : Int} : ∀ {kvs : List (Key × V)} {sc : Sc}, RSc H kvs sc → (kvs.any fun kv => decide (kv.1 = .inl n)) = scHas n sc
  | _, _, .nil => rfl
  | _, _, .cons (n := m) (sc := sc) r rs => by
    unfold scHas
    rw [List.any_cons, List.any_cons, RSc.has rs]
    show (decide ((Sum.inl m : Key) = Sum.inl n) || scHas n sc) = (decide (m = n) || scHas n sc)
    rw [decide_eq_decide.mpr (show (Sum.inl m : Key) = Sum.inl n ↔ m = n from ⟨Sum.inl.inj, fun h => by rw [h]⟩)]
theorem RSc.map {H : Hp} {n : Int} {w : V} {y : Src} (rw' : RSr H w y) : ∀ {kvs : List (Key × V)} {sc : Sc}, RSc H kvs sc → RSc H (kvs.map fun kv => if kv.1 = .inl n then (kv.1, w) else kv) (sc.map fun p => if p.1 = n then (p.1, y) else p)
  | _, _, .nil => .nil
  | _, _, .cons (n := m) r rs => by
    rw [List.map_cons, List.map_cons]
    by_cases c : m = n
    · have c2 : (Sum.inl m : Key) = .inl n := by rw [c]
      simp only [c2, c, if_true]
      exact .cons rw' (RSc.map rw' rs)
    · have c2 : ¬ (Sum.inl m : Key) = .inl n := fun z => c (Sum.inl.inj z)
      simp only [c2, c, if_false]
      exact .cons r (RSc.map rw' rs)
theorem RSc.put {H : Hp} {n : Int} {w : V} {y : Src} {kvs : List (Key × V)} {sc : Sc} (r : RSc H kvs sc) (rw' : RSr H w y) : RSc H (putK kvs (.inl n) w) (scPut n y sc) := by
  unfold putK scPut
  rw [r.has]
  by_cases c : scHas n sc = true
  · rw [if_pos c, if_pos c]; exact r.map rw'
  · rw [if_neg c, if_neg c]; exact r.app (.cons rw' .nil)
theorem scPut_len (n : Int) (y : Src) (sc : Sc) : (scPut n y sc).length ≤ sc.length + 1 := by
  unfold scPut
  split
  · rw [List.length_map]; omega
  · rw [List.length_append]; exact Nat.le_refl _
def SDk (X : Addr → Prop) (H : Hp) (e : Addr) (sc : Sc) : Prop := ∃ kvs, H e = some (.dK kvs) ∧ ¬ X e ∧ RSc H kvs sc ∧ sc.length ≤ 1000000
theorem SDk.fr {X : Addr → Prop} {H H' : Hp} (f : Fr X H H') {e : Addr} {sc : Sc} (h : SDk X H e sc) : SDk X H' e sc := by
  obtain ⟨kvs, h1, h2, h3, h4⟩ := h
  exact ⟨kvs, f.keep h2 rfl h1, h2, h3.keep f.tup, h4⟩
/-- what is still to be written of a draft -/
inductive Pc where
  | tree (t : Tr) (sc : Sc) (last : Bool)
  | write (d : DIn)
  | label (n : Nat)
inductive RPc (X : Addr → Prop) (H : Hp) : V → Pc → Prop
  | tree {a e : Addr} {c : V} {t : Tr} {sc : Sc} {last : Bool} (h : H a = some (.tup [.str "tree", c, .ref e, .bl last])) (rt : RT H c t) (wt : widT t) (sd : SDk X H e sc) : RPc X H (.ref a) (.tree t sc last)
  | write {a : Addr} {v : V} {d : DIn} (h : H a = some (.tup [.str "write", v])) (r : RDi H v d) : RPc X H (.ref a) (.write d)
  | label {a : Addr} {n : Nat} (h : H a = some (.tup [.str "label", .int n])) : RPc X H (.ref a) (.label n)
theorem RPc.fr {X : Addr → Prop} {H H' : Hp} (f : Fr X H H') {v : V} {p : Pc} (r : RPc X H v p) : RPc X H' v p := by
  cases r with
  | tree h rt wt sd => exact .tree (f.tup _ _ h) (rt.keep f.tup) wt (sd.fr f)
  | write h r => exact .write (f.tup _ _ h) (r.keep f.tup)
  | label h => exact .label (f.tup _ _ h)
def leafP (d : DIn) (last : Bool) : List Pc := if last = true then [.write d, .write .end_] else [.write d]
abbrev fD6 : List Str := ["parameters", "places", "body", "scope", "instructions", "targets"]
abbrev sDrI : Stmt := inClass (top 39) 0
abbrev sDrP : Stmt := inClass (top 39) 1
abbrev sDrL : Stmt := inClass (top 39) 2
abbrev sLea : Stmt := top 42
def dfl (p : Int) (l : Int) (c : V) (e L G : Addr) : List (Str × V) := [("parameters", .int p), ("places", .int l), ("body", c), ("scope", .ref e), ("instructions", .ref L), ("targets", .ref G)]
def spDrI (CD : Addr) : Sp := fun vs H Q _ => ∃ (x dx e : Addr) (p : Int) (c : V), vs = [.ref x, .int p, c, .ref e] ∧ H x = some (.ins CD dx []) ∧
  ∀ L G H', H L = none → H G = none → L ≠ G → Fr (fun b => b = x) H H' → H' L = some (.lst []) → H' G = some (.lst []) → H' x = some (.ins CD dx (dfl p p c e L G)) → Q .non H'
/-- new_places, new_label -/
def spDrP (CD : Addr) : Sp := fun vs H Q _ => ∃ (x dx e L G : Addr) (p l : Int) (k : Nat) (c : V), vs = [.ref x, .int k] ∧ H x = some (.ins CD dx (dfl p l c e L G)) ∧ Q (.int l) (upd H x (.ins CD dx (dfl p (l + k) c e L G)))
def spDrL (CD : Addr) : Sp := fun vs H Q _ => ∃ (x dx e L G : Addr) (p l : Int) (c : V) (gs : List V), vs = [.ref x] ∧ H x = some (.ins CD dx (dfl p l c e L G)) ∧ H G = some (.lst gs) ∧ gs.length ≤ 1000000 ∧ Q (.int gs.length) (upd H G (.lst (gs ++ [.non])))
def spLea : Sp := fun vs H Q _ => ∃ (X : Addr → Prop) (v : V) (d : DIn) (last : Bool), vs = [v, .bl last] ∧ RDi H v d ∧ ∀ a us H', Fr No H H' → H a = none → H' a = some (.lst us) → Als (RPc X H') us (leafP d last) → Q (.ref a) H'
section
variable {P : Program} {w : World} {K : PySem.W.Frag} {mg : Str → Option Value} {base : Heap} {CD : Addr}
theorem scDrI : FnScope ["self", "parameters", "body", "scope"] ["self", "parameters", "body", "scope"] (defScope sDrI) := ⟨rfl, rfl, rfl, by decide +kernel, rfl, by decide +kernel, by decide +kernel⟩
theorem ok_drI {f : Addr} {fd : FuncData} (Fn : Fun K "__init__" "Draft.__init__" sDrI f fd) (U : FldC K CD fD6) : FnOk P w K mg base CX0 1 f fd ["self", "parameters", "body", "scope"] (spDrI CD) := by
  refine Fn.ok scDrI (fun vs H Q E h => ?_) (fun cdv A outer s H vs Q E hr h => ?_)
  · obtain ⟨x, dx, e, p, c, rfl, _⟩ := h
    rfl
  obtain ⟨x, dx, e, p, c, rfl, hx, q⟩ := h
  have nd := scDrI.nd
  refine ⟨_, (pss_cons (ps_fld (pv 0) (pv 1) rfl)
    (pss_cons (ps_fld (pv 0) (pv 1) rfl)
    (pss_cons (ps_fld (pv 0) (pv 2) rfl)
    (pss_cons (ps_fld (pv 0) (pv 3) rfl)
    (pss_cons (ps_fld (pv 0) (pe_lst pa_nil) rfl)
    (pss_one (ps_fld (pv 0) (pe_lst pa_nil) rfl))))))), ?_⟩
  refine ⟨_, rfl, _, rfl, x, CD, dx, _, rfl, hx, U.c, U.n _ (by simp), by decide, ?_⟩
  refine ⟨_, rfl, _, rfl, x, CD, dx, _, rfl, upd_same, U.c, U.n _ (by simp), by show 1 < 1000; decide, ?_⟩
  refine ⟨_, rfl, _, rfl, x, CD, dx, _, rfl, upd_same, U.c, U.n _ (by simp), by show 2 < 1000; decide, ?_⟩
  refine ⟨_, rfl, _, rfl, x, CD, dx, _, rfl, upd_same, U.c, U.n _ (by simp), by show 3 < 1000; decide, ?_⟩
  rw [upd_upd, upd_upd, upd_upd]
  have ep : putF ("scope" : Str) (V.ref e) (putF ("body" : Str) c (putF ("places" : Str) (V.int p) (putF ("parameters" : Str) (V.int p) []))) = ([("parameters", .int p), ("places", .int p), ("body", c), ("scope", .ref e)] : List (Str × V)) := rfl
  rw [ep]
  have f1 : Fr (fun b => b = x) H (upd H x (.ins CD dx [("parameters", .int p), ("places", .int p), ("body", c), ("scope", .ref e)])) := Fr.set rfl hx rfl
  have x1 : upd H x (.ins CD dx [("parameters", .int p), ("places", .int p), ("body", c), ("scope", .ref e)]) x = some (.ins CD dx [("parameters", .int p), ("places", .int p), ("body", c), ("scope", .ref e)]) := upd_same
  generalize upd H x (.ins CD dx [("parameters", .int p), ("places", .int p), ("body", c), ("scope", .ref e)]) = H1 at f1 x1 ⊢
  refine ⟨by show 0 ≤ sizeLine; decide, fun L hL => ?_⟩
  have nL : x ≠ L := ne_of_none x1 hL
  have e2 : upd H1 L (.lst []) x = some (.ins CD dx [("parameters", .int p), ("places", .int p), ("body", c), ("scope", .ref e)]) := by rw [upd_ne nL]; exact x1
  refine ⟨_, rfl, x, CD, dx, _, rfl, e2, U.c, U.n _ (by simp), by show 4 < 1000; decide, ?_⟩
  have ep2 : putF ("instructions" : Str) (V.ref L) ([("parameters", .int p), ("places", .int p), ("body", c), ("scope", .ref e)] : List (Str × V)) = ([("parameters", .int p), ("places", .int p), ("body", c), ("scope", .ref e), ("instructions", .ref L)] : List (Str × V)) := rfl
  rw [ep2]
  have f2 : Fr (fun b => b = x) H1 (upd (upd H1 L (.lst [])) x (.ins CD dx [("parameters", .int p), ("places", .int p), ("body", c), ("scope", .ref e), ("instructions", .ref L)])) := (Fr.new hL).trans (Fr.set rfl e2 rfl)
  have t2 : upd (upd H1 L (.lst [])) x (.ins CD dx [("parameters", .int p), ("places", .int p), ("body", c), ("scope", .ref e), ("instructions", .ref L)]) L = some (.lst []) := by rw [upd_ne (Ne.symm nL)]; exact upd_same
  have x2 : upd (upd H1 L (.lst [])) x (.ins CD dx [("parameters", .int p), ("places", .int p), ("body", c), ("scope", .ref e), ("instructions", .ref L)]) x = some (.ins CD dx [("parameters", .int p), ("places", .int p), ("body", c), ("scope", .ref e), ("instructions", .ref L)]) := upd_same
  generalize upd (upd H1 L (.lst [])) x (.ins CD dx [("parameters", .int p), ("places", .int p), ("body", c), ("scope", .ref e), ("instructions", .ref L)]) = H2 at f2 t2 x2 ⊢
  refine ⟨by show 0 ≤ sizeLine; decide, fun G hG => ?_⟩
  have nG : x ≠ G := ne_of_none x2 hG
  have nLG : L ≠ G := ne_of_none t2 hG
  have e3 : upd H2 G (.lst []) x = some (.ins CD dx [("parameters", .int p), ("places", .int p), ("body", c), ("scope", .ref e), ("instructions", .ref L)]) := by rw [upd_ne nG]; exact x2
  refine ⟨_, rfl, x, CD, dx, _, rfl, e3, U.c, U.n _ (by simp), by show 5 < 1000; decide, ?_⟩
  refine q L G _ (f1.dom hL) (f1.dom (f2.dom hG)) nLG (f1.trans (f2.trans ((Fr.new hG).trans (Fr.set rfl e3 rfl)))) ?_ ?_ upd_same
  · rw [upd_ne (Ne.symm nL), upd_ne nLG]; exact t2
  · rw [upd_ne (Ne.symm nG)]; exact upd_same
theorem scDrP : FnScope ["self", "many", "first"] ["self", "many"] (defScope sDrP) := ⟨rfl, rfl, rfl, by decide +kernel, rfl, by decide +kernel, by decide +kernel⟩
theorem ok_drP {f : Addr} {fd : FuncData} (Fn : Fun K "new_places" "Draft.new_places" sDrP f fd) (U : FldC K CD fD6) : FnOk P w K mg base CX0 1 f fd ["self", "many"] (spDrP CD) := by
  refine Fn.ok scDrP (fun vs H Q E h => ?_) (fun cdv A outer s H vs Q E hr h => ?_)
  · obtain ⟨x, dx, e, L, G, p, l, k, c, rfl, _⟩ := h
    rfl
  obtain ⟨x, dx, e, L, G, p, l, k, c, rfl, hx, q⟩ := h
  have nd := scDrP.nd
  refine ⟨_, (pss_cons (ps_set (i := 2) nd rfl (Or.inl rfl) (pe_fld (pv 0) rfl))
    (pss_cons (ps_fldaug (pv 0) (pv 1) in_add)
    (pss_one (ps_ret (pv 2))))), ?_⟩
  refine ⟨_, rfl, x, CD, dx, _, _, rfl, hx, U.c, U.n _ (by simp), rfl, ?_⟩
  refine ⟨_, rfl, x, CD, dx, _, _, rfl, hx, U.c, U.n _ (by simp), rfl, _, rfl, _, _, rfl, rfl, _, _, hx, by show 6 < 1000; decide, _, rfl, ?_⟩
  exact q
theorem scDrL : FnScope ["self"] ["self"] (defScope sDrL) := ⟨rfl, rfl, rfl, by decide +kernel, rfl, by decide +kernel, by decide +kernel⟩
theorem ok_drL {f : Addr} {fd : FuncData} (Fn : Fun K "new_label" "Draft.new_label" sDrL f fd) (B : Blt mg) (U : FldC K CD fD6) : FnOk P w K mg base CX0 1 f fd ["self"] (spDrL CD) := by
  refine Fn.ok scDrL (fun vs H Q E h => ?_) (fun cdv A outer s H vs Q E hr h => ?_)
  · obtain ⟨x, dx, e, L, G, p, l, c, gs, rfl, _⟩ := h
    rfl
  obtain ⟨x, dx, e, L, G, p, l, c, gs, rfl, hx, hG, lg, q⟩ := h
  have nd := scDrL.nd
  refine ⟨_, (pss_cons (ps_expr (pe_bm PySem.F.plainAttrs_list PySem.F.slot_list_append PySem.F.type_list_append mt_append (pe_fld (pv 0) rfl) (pa_cons pe_non pa_nil)))
    (pss_one (ps_ret (pe_op op_sub (pe_callB call_len_seq (by rfl) B.len PySem.boot_len (pa_cons (pe_fld (pv 0) rfl) pa_nil)) pe_int)))), ?_⟩
  refine ⟨_, rfl, x, CD, dx, _, _, rfl, hx, U.c, U.n _ (by simp), rfl, .inl ⟨rfl, _, SqL.of hG⟩, G, _, _, rfl, rfl, hG, Nat.lt_of_le_of_lt lg (by decide), ?_⟩
  have nx : x ≠ G := ne_of hx hG fun z => by cases z
  have hx2 : upd H G (.lst (gs ++ [.non])) x = some (.ins CD dx (dfl p l c e L G)) := by rw [upd_ne nx]; exact hx
  refine ⟨_, rfl, x, CD, dx, _, _, rfl, hx2, U.c, U.n _ (by simp), rfl, G, _, rfl, .inl (SqL.of upd_same), _, _, rfl, rfl, ?_⟩
  dsimp only
  rw [List.length_append, show (((gs.length + [V.non].length : Nat) : Int) - 1) = (gs.length : Int) by show (((gs.length + 1 : Nat) : Int) - 1) = _; omega]
  exact q
theorem scLea : FnScope ["instruction", "last"] ["instruction", "last"] (defScope sLea) := ⟨rfl, rfl, rfl, by decide +kernel, rfl, by decide +kernel, by decide +kernel⟩
theorem ok_lea {f : Addr} {fd : FuncData} (Fn : Fun K "leaf_pieces" "leaf_pieces" sLea f fd) : FnOk P w K mg base CX0 1 f fd ["instruction", "last"] spLea := by
  refine Fn.ok scLea (fun vs H Q E h => ?_) (fun cdv A outer s H vs Q E hr h => ?_)
  · obtain ⟨X, v, d, last, rfl, _⟩ := h
    rfl
  obtain ⟨X, v, d, last, rfl, rd, q⟩ := h
  have nd := scLea.nd
  refine ⟨_, (pss_cons (ps_if (pt_val (pv 1)) (pss_one (ps_ret (pe_lst (pa_cons (pe_tup (pa_cons pe_str (pa_cons (pv 0) pa_nil))) (pa_cons (pe_tup (pa_cons pe_str (pa_cons (pe_tup (pa_cons pe_str pa_nil)) pa_nil))) pa_nil))))) pss_nil)
    (pss_one (ps_ret (pe_lst (pa_cons (pe_tup (pa_cons pe_str (pa_cons (pv 0) pa_nil))) pa_nil))))), ?_⟩
  unfold leafP at q
  refine ⟨_, rfl, last, rfl, ?_⟩
  cases last with
  | true =>
    refine iteT ?_
    refine ⟨_, rfl, by show 2 ≤ sizeLine; decide, fun a1 h1 => ⟨by show 1 ≤ sizeLine; decide, fun a2 h2 => ⟨by show 2 ≤ sizeLine; decide, fun a3 h3 => ⟨by show 2 ≤ sizeLine; decide, fun a4 h4 => ?_⟩⟩⟩⟩
    have f1 : Fr No H (upd H a1 (.tup [.str "write", v])) := Fr.new h1
    have f2 : Fr No _ (upd (upd H a1 (.tup [.str "write", v])) a2 (.tup [.str "end"])) := Fr.new h2
    have f3 : Fr No _ (upd (upd (upd H a1 (.tup [.str "write", v])) a2 (.tup [.str "end"])) a3 (.tup [.str "write", .ref a2])) := Fr.new h3
    have f4 := Fr.new (X := No) (o := .lst [V.ref a1, .ref a3]) h4
    have f24 := f2.trans (f3.trans f4)
    have ff := f1.trans f24
    refine q a4 _ _ ff (f1.dom (f2.dom (f3.dom h4))) upd_same (.cons (.write (f24.tup _ _ upd_same) (rd.keep ff.tup)) (.cons (.write (f4.tup _ _ upd_same) (.end_ ((f3.trans f4).tup _ _ upd_same))) .nil))
  | false =>
    refine iteF ?_
    refine ⟨_, rfl, by show 2 ≤ sizeLine; decide, fun a1 h1 => ⟨by show 1 ≤ sizeLine; decide, fun a2 h2 => ?_⟩⟩
    have f1 : Fr No H (upd H a1 (.tup [.str "write", v])) := Fr.new h1
    have f2 := Fr.new (X := No) (o := .lst [V.ref a1]) h2
    have ff := f1.trans f2
    refine q a2 _ _ ff (f1.dom h2) upd_same (.cons (.write (f2.tup _ _ upd_same) (rd.keep ff.tup)) .nil)
end
end My
namespace My
open PySem PySem.Spec PyProof.Rows L2 TL
/-! ### outer_numbers -/
mutual
def depT : Tr → Nat
  | .fn _ b => 1 + depT b
  | .let_ _ ts b => 1 + max (depTs ts) (depT b)
  | .if_ a b c => 1 + max (depT a) (max (depT b) (depT c))
  | .call f ts => 1 + max (depT f) (depTs ts)
  | _ => 1
def depTs : List Tr → Nat
  | [] => 0
  | t :: ts => max (depT t) (depTs ts)
end
theorem depTs_mem : ∀ {ts : List Tr} {t : Tr}, t ∈ ts → depT t ≤ depTs ts
  | [], _, h => by cases h
  | x :: r, t, h => by
    unfold depTs
    rcases List.mem_cons.mp h with e | e
    · rw [e]; exact Nat.le_max_left _ _
    · exact Nat.le_trans (depTs_mem e) (Nat.le_max_right _ _)
theorem dep_kids {t : Tr} {kn : List Int} : ∀ p ∈ kids t kn, depT p.1 + 1 ≤ depT t := by
  intro p hp
  cases t with
  | int i => cases hp
  | loc i => cases hp
  | glob i j => cases hp
  | prim i => cases hp
  | fn ns b =>
    rw [List.mem_singleton.mp hp]
    conv => rhs; unfold depT
    show depT b + 1 ≤ 1 + depT b
    omega
  | let_ ns ts b =>
    conv => rhs; unfold depT
    rcases List.mem_append.mp hp with m | m
    · obtain ⟨t, ht, e⟩ := List.mem_map.mp m
      rw [← e]
      have := depTs_mem ht
      show depT t + 1 ≤ _
      omega
    · rw [List.mem_singleton.mp m]
      show depT b + 1 ≤ _
      omega
  | if_ a b c =>
    conv => rhs; unfold depT
    simp only [kids, List.mem_cons, List.mem_nil_iff, or_false] at hp
    rcases hp with e | e | e <;> rw [e] <;> (show depT _ + 1 ≤ _; simp only []; omega)
  | call f ts =>
    conv => rhs; unfold depT
    rcases List.mem_cons.mp hp with e | e
    · rw [e]; show depT f + 1 ≤ _; omega
    · obtain ⟨t, ht, e⟩ := List.mem_map.mp e
      rw [← e]
      have := depTs_mem ht
      show depT t + 1 ≤ _
      omega
def insNew (n : Int) (found : List Int) : List Int := if n ∈ found then found else found ++ [n]
def outStep : Tr → List Int → List Int → List Int
  | .loc n, kn, found => if n ∈ kn then found else insNew n found
  | _, _, found => found
def outF : Nat → List (Tr × List Int) → List Int → List Int
  | 0, _, found => found
  | _ + 1, [], found => found
  | k + 1, (t, kn) :: rest, found => outF k (kids t kn ++ rest) (outStep t kn found)
/-- the numbers that a function keeps -/
def outT (t : Tr) : List Int := outF (szT t) [(t, [])] []
def fkv (found : List Int) : List (Key × V) := found.map fun n => (.inl n, .bl true)
theorem fkv_put (n : Int) (found : List Int) : putK (fkv found) (.inl n) (.bl true) = fkv (insNew n found) := by
  unfold putK insNew
  have ea : ((fkv found).any fun kv => decide (kv.1 = .inl n)) = decide (n ∈ found) := by
    unfold fkv
    induction found with
    | nil => rfl
    | cons m r ih =>
      rw [List.map_cons, List.any_cons, ih]
      show (decide ((Sum.inl m : Key) = .inl n) || decide (n ∈ r)) = decide (n ∈ m :: r)
      by_cases c : m = n
      · rw [decide_eq_true (show (Sum.inl m : Key) = .inl n by rw [c]), Bool.true_or, decide_eq_true (by rw [c]; exact List.mem_cons_self)]
      · rw [decide_eq_false (show ¬ (Sum.inl m : Key) = .inl n from fun z => c (Sum.inl.inj z)), Bool.false_or]
        exact decide_eq_decide.mpr ⟨fun z => List.mem_cons_of_mem _ z, fun z => (List.mem_cons.mp z).resolve_left fun e => c e.symm⟩
  rw [ea]
  by_cases c : n ∈ found
  · rw [decide_eq_true c, if_pos rfl, if_pos c]
    unfold fkv
    rw [List.map_map]
    apply List.map_congr_left
    intro m _
    show (if (Sum.inl m : Key) = .inl n then ((Sum.inl m : Key), V.bl true) else (.inl m, .bl true)) = (.inl m, .bl true)
    split <;> rfl
  · rw [decide_eq_false c, if_neg Bool.false_ne_true, if_neg c]
    unfold fkv
    rw [List.map_append]
    rfl
/-- an item of the pile -/
def OIt (Y : Addr → Prop) (H : Hp) (v : V) (p : Tr × List Int) : Prop := ∃ M, PairR (fun b => ¬ Y b) H M v p ∧ M + 1000 * depT p.1 ≤ 1000000 ∧ widT p.1
theorem OIt.fr {Y : Addr → Prop} {H H' : Hp} (f : Fr Y H H') {v : V} {p : Tr × List Int} (h : OIt Y H v p) : OIt Y H' v p := by
  obtain ⟨M, ⟨q, x, d, h1, h2, h3, ⟨kvs, k1, k2, k3⟩, h5⟩, h6, h7⟩ := h
  exact ⟨M, ⟨q, x, d, h1, f.tup _ _ h2, h3.keep f.tup, ⟨kvs, f.keep h5 rfl k1, k2, k3⟩, h5⟩, h6, h7⟩
theorem kids_oit {Y : Addr → Prop} {H : Hp} {M : Nat} : ∀ {us : List V} {ps : List (Tr × List Int)}, PairsR (fun b => ¬ Y b) H M us ps → (∀ p ∈ ps, M + 1000 * depT p.1 ≤ 1000000 ∧ widT p.1) → Als (OIt Y H) us ps
  | _, _, .nil, _ => .nil
  | _, _, .cons h r, w => .cons ⟨M, h, w _ List.mem_cons_self⟩ (kids_oit r fun p m => w p (List.mem_cons_of_mem _ m))
theorem szK_app (a b : List (Tr × List Int)) : szK (a ++ b) = szK a + szK b := by
  unfold szK
  rw [List.map_append, List.sum_append]
theorem len_szK : ∀ l : List (Tr × List Int), l.length ≤ szK l
  | [] => Nat.zero_le _
  | p :: r => by
    have h1 := len_szK r
    have h2 := szT_pos p.1
    have h3 : szK (p :: r) = szT p.1 + szK r := rfl
    rw [h3, List.length_cons]
    omega
theorem outF_nil (m : Nat) (found : List Int) : outF m [] found = found := by
  cases m <;> rfl
theorem insNew_len (n : Int) (found : List Int) : (insNew n found).length ≤ found.length + 1 := by
  unfold insNew
  split
  · omega
  · rw [List.length_append]; exact Nat.le_refl _
theorem outStep_loc (n : Int) (kn found : List Int) : outStep (.loc n) kn found = if n ∈ kn then found else insNew n found := rfl
theorem outStep_len (t : Tr) (kn found : List Int) : (outStep t kn found).length ≤ found.length + 1 := by
  unfold outStep
  split
  · split
    · omega
    · exact insNew_len _ _
  · omega
abbrev sOut : Stmt := top 40
abbrev NOut : List Str := ["core", "found", "rest", "tree", "bound"]
def spOut : Sp := fun vs H Q _ => ∃ (c : V) (t : Tr), vs = [c] ∧ RT H c t ∧ widT t ∧ depT t ≤ 900 ∧ szT t ≤ 1000000 ∧ ∀ a H', Fr No H H' → H a = none → H' a = some (.lst ((outT t).map V.int)) → Q (.ref a) H'
section
variable {P : Program} {w : World} {K : PySem.W.Frag} {mg : Str → Option Value} {base : Heap}
theorem scOut : FnScope NOut ["core"] (defScope sOut) := ⟨rfl, rfl, rfl, by decide +kernel, rfl, by decide +kernel, by decide +kernel⟩
theorem ok_out {f fI : Addr} {fd dI : FuncData} (Fn : Fun K "outer_numbers" "outer_numbers" sOut f fd) (B : Blt mg) (GI : Cal P w K mg base CX0 2 "inner_trees" ["core", "known"] spInner fI dI) : FnOk P w K mg base CX0 3 f fd ["core"] spOut := by
  refine Fn.ok scOut (fun vs H Q E h => ?_) (fun cdv A outer s H vs Q E hr h => ?_)
  · obtain ⟨c, t, rfl, _⟩ := h
    rfl
  obtain ⟨c, t, rfl, rt, wt, dt, zt, q⟩ := h
  have nd := scOut.nd
  have hu := hu_of hr
  refine ⟨_, (pss_cons (ps_set (i := 1) nd rfl (Or.inl rfl) pe_dnewK)
    (pss_cons (ps_set (i := 2) nd rfl (Or.inl rfl) (pe_lst (pa_cons (pe_tup (pa_cons (pv 0) (pa_cons pe_dnewK pa_nil))) pa_nil)))
    (pss_cons (ps_while PassesOwn.never (pt_truth (pv 2) (by intro _; rfl))
      (pss_cons (ps_asg (pe_bm0 PySem.F.plainAttrs_list PySem.F.slot_list_pop PySem.F.type_list_pop mt_pop (pv 2)) (pg_tup rfl (pgs_cons (pg_name (i := 3) nd rfl (Or.inl rfl)) (pgs_cons (pg_name (i := 4) nd rfl (Or.inl rfl)) pgs_nil))))
      (C8.pss_cut (ps_if (PW.pt (pw_and (pt_cmpR op_eq (pe_ix (r := rIxT K) ix_tup (pv 3) pe_int (fun _ _ => rfl)) pe_str (nomark _)) (pw_and1 (pt_cmp (pc_dnotin hu (pe_ix (r := rIxT K) ix_tup (pv 3) pe_int (fun _ _ => rfl)) (pv 4)))))) (pss_one (ps_dput hu (pv 1) (pe_ix (r := rIxT K) ix_tup (pv 3) pe_int (fun _ _ => rfl)) pe_bl rfl)) pss_nil)
      (pss_one (ps_expr (pe_bm PySem.F.plainAttrs_list PySem.F.slot_list_extend PySem.F.type_list_extend mt_extend (pv 2) (pa_cons (pe_revL (pe_call GI.ok hr rfl GI.g GI.k GI.b .nil pass0 (pa_cons (pv 3) (pa_cons (pv 4) pa_nil)))) pa_nil)))))))
    (pss_one (ps_ret (pe_callTy (call_listD rfl) (by rfl) B.list (by decide +kernel) (pa_cons (pv 1) pa_nil))))))), ?_⟩
  refine fun fd0 hfd => ?_
  refine ⟨_, rfl, fun d0 hd0 => ⟨by show 2 ≤ sizeLine; decide, fun q0 hq0 => ⟨by show 1 ≤ sizeLine; decide, fun R hR => ?_⟩⟩⟩
  have f1 : Fr No H (upd H fd0 (.dK [])) := Fr.new hfd
  have f2 : Fr No (upd H fd0 (.dK [])) (upd (upd H fd0 (.dK [])) d0 (.dK [])) := Fr.new hd0
  have f3 : Fr No (upd (upd H fd0 (.dK [])) d0 (.dK [])) (upd (upd (upd H fd0 (.dK [])) d0 (.dK [])) q0 (.tup [c, .ref d0])) := Fr.new hq0
  have f4 : Fr No _ (upd (upd (upd (upd H fd0 (.dK [])) d0 (.dK [])) q0 (.tup [c, .ref d0])) R (.lst [.ref q0])) := Fr.new hR
  have f24 := f2.trans (f3.trans f4)
  have f14 := f1.trans f24
  have e1 : upd (upd (upd (upd H fd0 (.dK [])) d0 (.dK [])) q0 (.tup [c, .ref d0])) R (.lst [.ref q0]) fd0 = some (.dK []) := f24.keep (fun z => z) rfl upd_same
  have e2 : upd (upd (upd (upd H fd0 (.dK [])) d0 (.dK [])) q0 (.tup [c, .ref d0])) R (.lst [.ref q0]) d0 = some (.dK []) := (f3.trans f4).keep (fun z => z) rfl upd_same
  have e3 : upd (upd (upd (upd H fd0 (.dK [])) d0 (.dK [])) q0 (.tup [c, .ref d0])) R (.lst [.ref q0]) q0 = some (.tup [c, .ref d0]) := f4.tup _ _ upd_same
  have e4 : upd (upd (upd (upd H fd0 (.dK [])) d0 (.dK [])) q0 (.tup [c, .ref d0])) R (.lst [.ref q0]) R = some (.lst [.ref q0]) := upd_same
  have hR0 : H R = none := f1.dom (f2.dom (f3.dom hR))
  have nd0 : d0 ≠ fd0 := fun z => by rw [z, upd_same] at hd0; cases hd0
  have ndR : d0 ≠ R := ne_of e2 e4 fun z => by cases z
  have nfR : fd0 ≠ R := ne_of e1 e4 fun z => by cases z
  generalize upd (upd (upd (upd H fd0 (.dK [])) d0 (.dK [])) q0 (.tup [c, .ref d0])) R (.lst [.ref q0]) = H1 at f14 e1 e2 e3 e4 ⊢
  let Y : Addr → Prop := fun b => b = fd0 ∨ b = R
  have it0 : OIt Y H1 (.ref q0) (t, []) := ⟨0, ⟨q0, c, d0, rfl, e3, rt.keep f14.tup, ⟨[], e2, Nat.le_refl _, fun n => rfl⟩, fun z => z.elim nd0 ndR⟩, by show 0 + 1000 * depT t ≤ 1000000; omega, wt⟩
  dsimp only
  refine seq_of (while_n (fun m σ H' => ∃ (us : List V) (rest : List (Tr × List Int)) (found : List Int) (x3 x4 : Option V), σ = [some c, some (.ref fd0), some (.ref R), x3, x4] ∧ H' R = some (.lst us) ∧ Als (OIt Y H') us rest.reverse ∧ H' fd0 = some (.dK (fkv found)) ∧ szK rest = m ∧ found.length + m ≤ 1000000 ∧ outF m rest found = outT t ∧ Fr No H H') (szT t)
    ⟨[.ref q0], [(t, [])], [], none, none, rfl, e4, .cons it0 .nil, e1, rfl, by show 0 + szT t ≤ 1000000; omega, rfl, f14⟩ ?_ ?_)
  · rintro m σ H' ⟨us, rest, found, x3, x4, rfl, g1, g2, g3, g4, g5, g6, g7⟩
    refine ⟨_, rfl, !us.isEmpty, .inl ⟨us, SqL.of g1, rfl⟩, ?_⟩
    cases rest with
    | nil =>
      cases g2
      refine iteF ?_
      rw [outF_nil] at g6
      refine ⟨_, rfl, fd0, _, rfl, .inl g3, fun p hp => ?_⟩
      have em : ((fkv found).map fun kv => kV kv.1) = (outT t).map V.int := by
        rw [← g6]
        unfold fkv
        rw [List.map_map]
        rfl
      rw [em]
      exact q p _ (g7.trans (Fr.new hp)) (g7.dom hp) upd_same
    | cons p rest =>
      obtain ⟨tt, kn⟩ := p
      obtain ⟨v, ws, rfl, ⟨M, ⟨q1, x, d, rfl, hq, rx, dk, nY⟩, bM, wx⟩, al⟩ := g2.last
      have ie : (!(ws ++ [V.ref q1]).isEmpty) = true := by cases ws <;> rfl
      rw [ie]
      refine iteT ?_
      refine ⟨_, rfl, .inl ⟨rfl, _, SqL.of g1⟩, R, _, .ref q1, rfl, rfl, g1, by simp, ?_⟩
      rw [List.dropLast_concat]
      have fY : Fr Y H' (upd H' R (.lst ws)) := Fr.set (.inr rfl) g1 rfl
      have fN : Fr No H (upd H' R (.lst ws)) := g7.mut hR0 g1 rfl
      have h1 : upd H' R (.lst ws) R = some (.lst ws) := upd_same
      have h3 : upd H' R (.lst ws) fd0 = some (.dK (fkv found)) := by rw [upd_ne nfR]; exact g3
      have hq2 := fY.tup _ _ hq
      have rx2 := rx.keep fY.tup
      obtain ⟨ks, k1, k2, k3⟩ := dk
      have k1 := fY.keep nY rfl k1
      have al2 := al.mono fun _ _ r => r.fr fY
      generalize upd H' R (.lst ws) = H2 at fY fN h1 h3 hq2 rx2 k1 al2 ⊢
      refine ⟨q1, _, rfl, SqT.of hq2, rfl, _, _, rfl, ?_⟩
      refine ⟨_, _, rfl, rfl, ?_⟩
      have zz : szK ((tt, kn) :: rest) = szT tt + szK rest := rfl
      have zk := szK_kids tt kn
      rw [zz] at g4
      have lf : found.length ≤ 1000000 := by omega
      refine ⟨fun σ' H'' => σ' = [some c, some (.ref fd0), some (.ref R), some x, some (.ref d)] ∧ H'' fd0 = some (.dK (fkv (outStep tt kn found))) ∧ Fr Y H2 H'' ∧ Fr No H H'' ∧ H'' R = some (.lst ws), ?_, ?_⟩
      · refine ev_head rfl rx2 ?_
        refine ite2 (fun c2 => ?_) (fun c2 => ?_)
        · obtain ⟨n, rfl⟩ := word_local (of_decide_eq_true c2)
          cases rx2 with
          | @loc a1 _ ha =>
          refine ⟨_, rfl, a1, _, 1, _, rfl, rfl, SqT.of ha, at1 _ _ _, _, rfl, d, _, rfl, DGet.k (k := Sum.inl n) k1, _, rfl, ?_⟩
          have hb := k3 n
          cases hv : (valV ks (Sum.inl n)).isSome with
          | false =>
            rw [hv] at hb
            have nk : ¬ n ∈ kn := fun z => by rw [decide_eq_true z] at hb; cases hb
            refine iteT ?_
            refine ⟨_, rfl, _, rfl, a1, _, 1, _, rfl, rfl, SqT.of ha, at1 _ _ _, fd0, _, rfl, DPut.k (k := .inl n) h3 (by unfold fkv; rw [List.length_map]; exact Nat.lt_of_le_of_lt lf (by decide)), ?_⟩
            refine ⟨rfl, ?_, Fr.set (.inl rfl) h3 rfl, fN.mut hfd h3 rfl, by rw [upd_ne (Ne.symm nfR)]; exact h1⟩
            rw [upd_same, fkv_put]
            rw [outStep_loc, if_neg nk]
          | true =>
            rw [hv] at hb
            have nk : n ∈ kn := of_decide_eq_true hb.symm
            refine iteF ?_
            refine ⟨rfl, ?_, Fr.refl _ _, fN, h1⟩
            rw [h3]
            rw [outStep_loc, if_pos nk]
        · refine ⟨rfl, ?_, Fr.refl _ _, fN, h1⟩
          rw [h3]
          cases tt with
          | loc n => exact absurd (decide_eq_true rfl) c2
          | _ => rfl
      rintro σ' H3 ⟨rfl, u1, fY3, fN3, u2⟩
      have newN : ∀ b, H3 b = none → ¬ Y b := fun b e z => by
        rcases z with z | z
        · rw [z, u1] at e; cases e
        · rw [z, u2] at e; cases e
      have hM : M ≤ 1000000 := by have := Nat.zero_le (1000 * depT tt); omega
      refine ⟨_, rfl, .inl ⟨rfl, _, SqL.of u2⟩, _, rfl, _, rfl, x, tt, d, kn, M, fun b => ¬ Y b, rfl, nY, newN, rx2.keep fY3.tup, wx, ⟨ks, fY3.keep nY rfl k1, k2, k3⟩, hM, fun L us' H4 hL hL4 pr s4 => ⟨L, us', rfl, SqL.of hL4, fun p hp => ?_⟩⟩
      have f4 : Fr No H3 H4 := Fr.of s4
      have f5 : Fr No H4 (upd H4 p (.lst us'.reverse)) := Fr.new hp
      have f35 := f4.trans f5
      have u5 := f35.keep (fun z => z) rfl u2
      have lk := pr.len
      have lw : ws.length = rest.length := by rw [al.len, List.length_reverse]
      have l1 := len_szK rest
      have l2 := len_szK (kids tt kn)
      refine ⟨R, p, _, _, rfl, rfl, u5, upd_same, ?_, ?_⟩
      · rw [List.length_reverse, lk, lw]
        exact Nat.le_trans (show rest.length + (kids tt kn).length ≤ 1000000 by omega) (by decide)
      have fY6 : Fr Y (upd H4 p (.lst us'.reverse)) (upd (upd H4 p (.lst us'.reverse)) R (.lst (ws ++ us'.reverse))) := Fr.set (.inr rfl) u5 rfl
      have bM2 : M + 1000 * depT tt ≤ 1000000 := bM
      have nk := kids_oit pr fun p m => ⟨by have := dep_kids p m; have e : 1000 * (depT p.1 + 1) ≤ 1000 * depT tt := Nat.mul_le_mul_left _ this; omega, wid_kids wx p m⟩
      have sl := outStep_len tt kn found
      refine ⟨szK (kids tt kn ++ rest), by rw [szK_app]; omega, ws ++ us'.reverse, kids tt kn ++ rest, outStep tt kn found, _, _, rfl, upd_same, ?_, ?_, rfl, ?_, ?_, (fN3.trans f35).mut hR0 u5 rfl⟩
      · rw [List.reverse_append]
        exact ((al2.mono fun _ _ r => r.fr (fY3.trans (f35.no.trans fY6)))).app ((nk.mono fun _ _ r => r.fr (f5.no.trans fY6)).rev)
      · rw [upd_ne nfR]
        exact f35.keep (fun z => z) rfl u1
      · rw [szK_app]; omega
      · rw [← g6, szK_app, ← g4, ← zk, show szK (kids tt kn) + 1 + szK rest = (szK (kids tt kn) + szK rest) + 1 by omega]
        rfl
  · rintro σ H0 Q1 Q2 hm ⟨x, e, kk, h6, h7⟩
    exact ⟨x, e, kk, h6, hm _ _ h7⟩
end
end My
namespace My
open PySem PySem.Spec PyProof.Rows L2 TL
/-! ### for i, x in enumerate(t), t a tuple -/
theorem meets_enum1 {v : Value} {o : Obj} {H : Heap → Prop} (B : Begins v o H) :
    Meets (Builtin.«enumerate.__new__» ⟨[.type "enumerate", v], []⟩) (fun _ R s => H s.heap ∧
      R (.ok (.ret (.ref (s.heap.push o).objs.size))) { s with heap := (s.heap.push o).push { cls := .type "enumerate", data := .fields #[.none, .bool false, .ref s.heap.objs.size, rawInt 0, .none, .none] } }) :=
  .of_wp fun prog w A R s h => by
    obtain ⟨hp, g, d, tk, os⟩ := s; obtain ⟨h1, h⟩ := h
    have hsub := sub_enumerate
    have q1 : ∀ {A' : Around} {E : Value → Shared → Prop} {Q : Value → Shared → Prop}, Q (.ref hp.objs.size) ⟨hp.push o, g, d, tk, os⟩ → wpAny (model prog w) A' (pyIter v) Q E ⟨hp, g, d, tk, os⟩ :=
      fun q => B.iter prog w _ _ ⟨hp, g, d, tk, os⟩ _ h1 q
    wp_walk using q1
    refine wpAny_stack_any fun st => wpAny_pure ?_
    split
    · rename_i c _ _ _ _ _
      cases (c == Value.type "enumerate")
      · wp_walk using q1
        exact ⟨_, rfl, h⟩
      · wp_walk using q1
        exact ⟨_, rfl, h⟩
    · wp_walk using q1
      exact ⟨_, rfl, h⟩
section
variable {prog : Program} {w : World} {A : Around} {E : Value → Shared → Prop} {s : Shared}
theorem call_enum_tup {t : Addr} {items : Array Value} {Q : Value → Shared → Prop} (hT : s.heap.IsTuple t items)
    (h : ∀ h', IsEnum h' (s.heap.objs.size + 1) s.heap.objs.size 0 .none → h'.IsTupleIter s.heap.objs.size t 0 → h'.objs.size = s.heap.objs.size + 2 →
      (∀ b o, s.heap.get? b = some o → h'.get? b = some o) → Q (.ref (s.heap.objs.size + 1)) { s with heap := h' }) :
    wpAny (model prog w) A (call (.type "enumerate") [.ref t]) Q E s := by
  refine callType_new F.called_enumerate (by decide) (F.typeCall_enumerate_1 _) (F.newCall_enumerate_1 _) (fun obj => F.args_object_init_2 obj _) F.entry_enumerate_new
    (meets_enum1 (begins_tuple t items)) ⟨hT, ?_⟩
  have hz : (s.heap.push { cls := .type "tuple_iterator", data := .fields #[.ref t, .int 0 0] }).objs.size = s.heap.objs.size + 1 := Heap.size_push ..
  show _ ∧ _
  rw [hz]
  have he : IsEnum ((s.heap.push { cls := .type "tuple_iterator", data := .fields #[.ref t, .int 0 0] }).push
      { cls := .type "enumerate", data := .fields #[.none, .bool false, .ref s.heap.objs.size, rawInt 0, .none, .none] }) (s.heap.objs.size + 1) s.heap.objs.size 0 .none := by
    have := Heap.get?_push_size (s.heap.push { cls := .type "tuple_iterator", data := .fields #[.ref t, .int 0 0] })
      (o := { cls := .type "enumerate", data := .fields #[.none, .bool false, .ref s.heap.objs.size, rawInt 0, .none, .none] }) rfl
    rw [hz] at this; exact this
  refine ⟨⟨_, he, rfl⟩, h _ he ⟨_, Heap.get?_push_of_some _ (Heap.get?_push_size _ rfl), rfl, rfl⟩ (by rw [Heap.size_push, hz]) fun b o x => Heap.get?_push_of_some _ (Heap.get?_push_of_some _ x)⟩
end
section
variable {prog : Program} {w : World} {A : Around} {E : Value → Shared → Prop} {s : Shared}
theorem next_enumT_end {e it l : Addr} {i : Int} {j : Nat} {items : Array Value} {old : Value} {Q : Option Value → Shared → Prop} (hh : A.handled = none)
    (he : IsEnum s.heap e it i old) (hit : s.heap.IsTupleIter it l j) (hl : s.heap.IsTuple l items) (hx : items[j]? = none)
    (hQ : ∀ h', Heap.ExtBut it s.heap h' → Q none { s with heap := h' }) : wpAny (model prog w) A (pyNext (.ref e)) Q E s := by
  have hT : s.TypeIs (.ref e) "enumerate" := ⟨_, he, rfl⟩
  unfold pyNext
  refine wpAny_bind (wpAny_attempt (wpAny_callSpecial?_slot (name := Str.ofString "__next__") hT F.slot_enumerate_next
    (wpAny_call_entry F.slot_enumerate_next hT F.entry_enumerate_next ?_ (F.args_enumerate_next_1 _))))
  show wpAny _ _ (field (.ref e) 2 >>= _) _ _ _
  refine wpAny_bind (wpAny_field he rfl (x := .ref it) rfl ?_)
  refine wpAny_bind (wpAny_nextOf_tuple_end hh hit hl hx fun h' x he' hx' => ?_)
  obtain ⟨o, ho, hc⟩ := hx'
  refine wpAny_bind (wpAny_isInstance (T := "StopIteration") (b := true) ⟨o, ho, hc⟩ isSubtype_stop ?_)
  exact wpAny_pure (hQ _ he')
end
def IteT (K : PySem.W.Frag) (a : Addr) : It :=
  ⟨fun i H => ∃ (xs : List V) (x : V), SqT K H a xs ∧ xs[i]? = some x, fun i H v H' => ∃ T x, v = .ref T ∧ H T = none ∧ H' = upd H T (.tup [.int (i : Nat), x]) ∧ ∀ xs, SqT K H a xs → xs[i]? = some x, fun i H => ∃ xs : List V, SqT K H a xs ∧ xs.length ≤ i⟩
theorem turn_enumT {P : Program} {w : World} {K : PySem.W.Frag} {elts : List Expr} {kk : Nat} {tpos : Pos} (a e it : Addr) (hai : a ≠ it) (hae : e ≠ a) :
    Turn P w K (.Tuple elts kk tpos) (IteT K a) [e, it] e (fun i h => (∃ old, IsEnum h e it ((i : Nat) : Int) old) ∧ h.IsTupleIter it a i ∧ e ≠ it) where
  mem := by simp
  obj := fun i h st b hb => by
    obtain ⟨⟨old, he⟩, ⟨o, ho, hc, hd⟩, _⟩ := st
    have e' : b = e ∨ b = it := by simpa using hb
    rcases e' with z | z
    · rw [z]; exact ⟨_, he, fun v q => nomatch q⟩
    · rw [z]; exact ⟨o, ho, fun v q => by rw [hd] at q; cases q⟩
  keep := fun i h h' st k => let ⟨⟨old, he⟩, hi, hne⟩ := st; ⟨⟨old, k e (by simp) _ he⟩, hi.at fun o q => k it (by simp) o q, hne⟩
  item := by
    intro X hP hw hK hc i pins s σ H E I hf st hg
    subst hP hw hK
    obtain ⟨⟨old, he⟩, hit, hne⟩ := st
    obtain ⟨xs, x, hq, hx⟩ := hg
    obtain ⟨its, rv, p, hz⟩ := I.tuple hq
    obtain ⟨u, hu, ru⟩ := rv.get hx
    have hel : e < s.heap.objs.size := Heap.lt_size he
    have hil : it < s.heap.objs.size := by obtain ⟨_, q, _⟩ := hit; exact Heap.lt_size q
    have ilt : i < its.toArray.size := by
      rw [List.size_toArray]
      exact (List.getElem?_eq_some_iff.mp hu).1
    refine wpAny_pyNext_enum_itemD (Draws.tuple (prog := X.prog) (w := X.w) (A := X.A.in1) (I.ok.hd hc) it a hai its.toArray) he ⟨hit, p⟩ ilt hne (by simp [hne, hae]) fun x' h' tk hP ho hst' hT hsz hk => ?_
    have ex : x' = u := by
      have : its.toArray[i]? = some x' := hP
      rw [show its.toArray[i]? = its[i]? by simp, hu] at this
      exact (Option.some.inj this).symm
    subst ex
    refine ⟨_, rfl, wpAny_letOwnedTupleGo_enum (s := { s with heap := h', toks := tk + 1 }) ho fun h'' he' sb => ?_⟩
    have hT2 : h''.get? s.heap.objs.size = some { cls := .type "tuple", data := .seq #[.int i tk, x'] } := (sb.2 _ (Nat.ne_of_gt hel)).trans hT
    have new : ObjOk X.prog X.w (upd H s.heap.objs.size (.tup [.int (i : Nat), x])) h'' s.heap.objs.size (.tup [.int (i : Nat), x]) :=
      ⟨by show 2 ≤ sizeLine; decide, [.int i tk, x'], .cons ⟨_, rfl⟩ (.cons ru .nil), ⟨_, hT2, rfl, _, rfl⟩⟩
    have I1 : Inv X pins σ (upd H s.heap.objs.size (.tup [.int (i : Nat), x])) { s with heap := h'', toks := tk + 1 } :=
      I.turnedNew (ch := [e, it]) (fun b ob hb q => (sb.2 b (fun z => hb (by simp [z]))).trans (hk b ob (fun z => hb (by simp [z])) (fun z => hb (by simp [z])) q)) hf (Nat.le_refl _) new
    refine ⟨.ref s.heap.objs.size, _, I1, rfl, ⟨_, x, rfl, I.hok.fresh (Nat.le_refl _), rfl, fun ys hy => by rw [I.tuple_inj hy hq]; exact hx⟩, ⟨⟨x', ?_⟩, hst'.1.at fun o q => (sb.2 it (Ne.symm hne)).trans q, hne⟩, fun b hb => ?_⟩
    · have e1 : ((i + 1 : Nat) : Int) = (i : Int) + 1 := by omega
      rw [e1]; exact he'
    · have hb' : b < s.heap.objs.size := by
        have e' : b = e ∨ b = it := by simpa using hb
        rcases e' with z | z
        · rw [z]; exact hel
        · rw [z]; exact hil
      rw [upd_ne (Nat.ne_of_lt hb')]
      exact (hf b hb).1
  done := by
    intro X hP hw hK hc i pins s σ H E I hf st hg
    subst hP hw hK
    obtain ⟨⟨old, he⟩, hit, hne⟩ := st
    obtain ⟨xs, hq, hx⟩ := hg
    obtain ⟨its, rv, p, hz⟩ := I.tuple hq
    obtain ⟨f0, f1, f2, f3, f4, f5⟩ := hf it (by simp)
    have hl := rv.length
    exact next_enumT_end (I.ok.hd hc) he hit p (by simp; omega) fun h' eb => ⟨rfl, I.turned (t' := s.toks) (fun b o hb q => eb b o hb q) f0 f1 f3 f4 f5⟩
  self := fun A i s Q E st h => let ⟨⟨_, he⟩, _⟩ := st; wpAny_pyIter_enum he h
def iEnumT (K : PySem.W.Frag) (ta : TA) : TI := fun σ H R => ta σ H fun vs H1 => ∃ a xs, vs = [.ref a] ∧ SqT K H1 a xs ∧ R (IteT K a) H1
theorem pi_enumT {X : Cx} {e : Expr} {ta : TA} {p pos tpos : Pos} {elts : List Expr} {kk : Nat} (hg : L2.Gl X "enumerate") (hm : X.mg "enumerate" = none) (ha : PA X [e] ta) (hs : starEach [e] X.env = [(false, eval e X.env)] := by rfl) :
    PI X (.Tuple elts kk tpos) (.Call (.Name "enumerate" p) [e] [] pos) (iEnumT X.K ta) := by
  refine ⟨fun pins s σ H R I h => ?_⟩
  refine Call_ (ld_blt I hg hm boot_enumerate (PyProof.Rows.callWith_type1 (thn (ha.run pos pins s σ H _ I h) fun us s1 ⟨vs, H1, I1, r1, q1⟩ => ?_) hs rfl))
  obtain ⟨a, xs, ex, hq, q⟩ := q1
  subst ex
  cases r1 with
  | cons r0 rr =>
    cases rr
    cases r0
    obtain ⟨its, rv, p', hz⟩ := I1.tuple hq
    have al : a < s1.heap.objs.size := by obtain ⟨_, e, _⟩ := p'; exact Heap.lt_size e
    refine call_enum_tup p' fun h' he hit hsz hk => wpAny_pyIter_enum he ?_
    have I2 : Inv X pins σ H1 { s1 with heap := h' } := I1.kept (t' := s1.toks) hk
    refine ⟨s1.heap.objs.size + 1, [s1.heap.objs.size + 1, s1.heap.objs.size], _, _, H1, rfl, I2, turn_enumT a (s1.heap.objs.size + 1) s1.heap.objs.size (Nat.ne_of_lt al) (Nat.ne_of_gt (Nat.lt_succ_of_lt al)), ⟨⟨.none, he⟩, hit, Nat.succ_ne_self _⟩, fun b hb => ?_, q⟩
    have e' : b = s1.heap.objs.size + 1 ∨ b = s1.heap.objs.size := by simpa using hb
    have hle : s1.heap.objs.size ≤ b := by
      rcases e' with z | z
      · rw [z]; exact Nat.le_add_right _ _
      · rw [z]; exact Nat.le_refl _
    exact I1.fpOk hle (I1.hok.fresh hle)
end My
namespace My
open PySem PySem.Spec PyProof.Rows L2 TL
theorem walk_enumT {K : PySem.W.Frag} {a : Addr} {xs : List V} : Walk (IteT K a) xs.length (fun H => SqT K H a xs) (YPair (fun i => some (.int (i : Nat))) (fun i => xs[i]?)) := by
  refine ⟨fun i _ hi q => ⟨xs, xs[i], q, by simp [hi]⟩, fun _ q => ⟨xs, q, Nat.le_refl _⟩, fun i H v H' _ q y => ?_⟩
  obtain ⟨T, x, h1, h2, h3, h4⟩ := y
  exact ⟨T, .int (i : Nat), x, h1, h2, h3, rfl, h4 xs q⟩
theorem RPc.mono {X Y : Addr → Prop} (h : ∀ b, Y b → X b) {H : Hp} {v : V} {p : Pc} (r : RPc X H v p) : RPc Y H v p := by
  cases r with
  | tree h1 rt wt sd =>
    obtain ⟨kvs, k1, k2, k3, k4⟩ := sd
    exact .tree h1 rt wt ⟨kvs, k1, fun z => k2 (h _ z), k3, k4⟩
  | write h1 r => exact .write h1 r
  | label h1 => exact .label h1
/-! ### let_pieces -/
def letSc : Nat → List Int → Sc → Sc
  | _, [], sc => sc
  | f, n :: ns, sc => letSc (f + 1) ns (scPut n (.place f) sc)
def letPs (sc : Sc) : Nat → List Tr → List Pc
  | _, [] => []
  | f, t :: ts => .tree t sc false :: .write (.put f) :: letPs sc (f + 1) ts
def letP (ns : List Int) (ts : List Tr) (b : Tr) (f : Nat) (sc : Sc) (last : Bool) : List Pc := letPs sc f ts ++ [.tree b (letSc f ns sc) last]
theorem letSc_snoc (n : Int) : ∀ (ns : List Int) (f : Nat) (sc : Sc), letSc f (ns ++ [n]) sc = scPut n (.place (f + ns.length)) (letSc f ns sc)
  | [], f, sc => rfl
  | m :: ns, f, sc => by
    show letSc (f + 1) (ns ++ [n]) (scPut m (.place f) sc) = scPut n (.place (f + (ns.length + 1))) (letSc (f + 1) ns (scPut m (.place f) sc))
    rw [letSc_snoc n ns (f + 1), show f + 1 + ns.length = f + (ns.length + 1) by omega]
theorem letPs_snoc (sc : Sc) (t : Tr) : ∀ (ts : List Tr) (f : Nat), letPs sc f (ts ++ [t]) = letPs sc f ts ++ [.tree t sc false, .write (.put (f + ts.length))]
  | [], f => rfl
  | u :: ts, f => by
    show .tree u sc false :: .write (.put f) :: letPs sc (f + 1) (ts ++ [t]) = .tree u sc false :: .write (.put f) :: (letPs sc (f + 1) ts ++ [.tree t sc false, .write (.put (f + (ts.length + 1)))])
    rw [letPs_snoc sc t ts (f + 1), show f + 1 + ts.length = f + (ts.length + 1) by omega]
theorem letPs_len (sc : Sc) : ∀ (ts : List Tr) (f : Nat), (letPs sc f ts).length = 2 * ts.length
  | [], _ => rfl
  | u :: ts, f => by
    show (letPs sc (f + 1) ts).length + 1 + 1 = 2 * (ts.length + 1)
    rw [letPs_len sc ts (f + 1)]; omega
theorem letSc_len : ∀ (ns : List Int) (f : Nat) (sc : Sc), (letSc f ns sc).length ≤ sc.length + ns.length
  | [], _, _ => Nat.le_refl _
  | n :: ns, f, sc => by
    have h1 := letSc_len ns (f + 1) (scPut n (.place f) sc)
    have h2 := scPut_len n (.place f) sc
    show (letSc (f + 1) ns (scPut n (.place f) sc)).length ≤ sc.length + (ns.length + 1)
    omega
abbrev sLet : Stmt := top 43
abbrev NLet : List Str := ["draft", "core", "scope", "last", "first", "inside", "pieces", "at", "number", "part"]
def spLet (CD : Addr) : Sp := fun vs H Q _ => ∃ (X : Addr → Prop) (x dx e e0 L G : Addr) (p : Int) (f : Nat) (cb c : V) (ns : List Int) (ts : List Tr) (b : Tr) (sc : Sc) (last : Bool), vs = [.ref x, c, .ref e, .bl last] ∧ H x = some (.ins CD dx (dfl p (f : Nat) cb e0 L G)) ∧ X x ∧
  (∀ q, X q → H q ≠ none) ∧ RT H c (.let_ ns ts b) ∧ widT (.let_ ns ts b) ∧ SDk X H e sc ∧ sc.length + ns.length ≤ 1000000 ∧
  ∀ a us H', Fr (fun q => q = x) H H' → H' x = some (.ins CD dx (dfl p (f + ns.length : Nat) cb e0 L G)) → H a = none → H' a = some (.lst us) → Als (RPc X H') us (letP ns ts b f sc last) → Q (.ref a) H'
section
variable {P : Program} {w : World} {K : PySem.W.Frag} {mg : Str → Option Value} {base : Heap} {CD : Addr}
theorem scLet : FnScope NLet ["draft", "core", "scope", "last"] (defScope sLet) := ⟨rfl, rfl, rfl, by decide +kernel, rfl, by decide +kernel, by decide +kernel⟩
theorem ok_let {f fP : Addr} {fd dP : FuncData} (Fn : Fun K "let_pieces" "let_pieces" sLet f fd) (B : Blt mg) (B2 : Bl2 mg) (MP : MCal P w K mg base CX0 1 CD "new_places" ["self", "many"] (spDrP CD) fP dP) : FnOk P w K mg base CX0 2 f fd ["draft", "core", "scope", "last"] (spLet CD) := by
  refine Fn.ok scLet (fun vs H Q E h => ?_) (fun cdv A outer s H vs Q E hr h => ?_)
  · obtain ⟨X, x, dx, e, e0, L, G, p, f, cb, c, ns, ts, b, sc, last, rfl, _⟩ := h
    rfl
  obtain ⟨X, x, dx, e, e0, L, G, p, f, cb, c, ns, ts, b, sc, last, rfl, hx, Xx, dom, rt, wt, sd, lsc, q⟩ := h
  have nd := scLet.nd
  have hu := hu_of hr
  unfold widT at wt
  cases rt with
  | @let_ a l y vs _ _ _ ha hl rs rb =>
  have ⟨l1, l2⟩ := rs.len
  refine ⟨_, (pss_cons (ps_set (i := 4) nd rfl (Or.inl rfl) (pe_meth (pv 0) MP.c MP.m MP.ok hr MP.b .nil pass0 (pa_cons (pe_callB call_len_seq (by rfl) B.len PySem.boot_len (pa_cons (pe_ix (r := rIxT K) ix_tup (pv 1) pe_int (fun _ _ => rfl)) pa_nil)) pa_nil)))
    (pss_cons (ps_set (i := 5) nd rfl (Or.inl rfl) (pe_callTy call_dictD (by rfl) B2.dict (by decide +kernel) (pa_cons (pv 2) pa_nil)))
    (pss_cons (ps_set (i := 6) nd rfl (Or.inl rfl) (pe_lst pa_nil))
    (pss_cons (ps_for PassesOwn.never rfl (pi_enumT (by rfl) B2.enumerate (pa_cons (pe_ix (r := rIxT K) ix_tup (pv 1) pe_int (fun _ _ => rfl)) pa_nil)) (pg_tup rfl (pgs_cons (pg_name (i := 7) nd rfl (Or.inl rfl)) (pgs_cons (pg_tup rfl (pgs_cons (pg_name (i := 8) nd rfl (Or.inl rfl)) (pgs_cons (pg_name (i := 9) nd rfl (Or.inl rfl)) pgs_nil))) pgs_nil)))
      (pss_cons (ps_dput hu (pv 5) (pv 8) (pe_tup (pa_cons pe_str (pa_cons (pe_op op_add (pv 4) (pv 7)) pa_nil))) rfl)
      (pss_cons (ps_expr (pe_bm PySem.F.plainAttrs_list PySem.F.slot_list_append PySem.F.type_list_append mt_append (pv 6) (pa_cons (pe_tup (pa_cons pe_str (pa_cons (pv 9) (pa_cons (pv 2) (pa_cons pe_bl pa_nil))))) pa_nil)))
      (pss_one (ps_expr (pe_bm PySem.F.plainAttrs_list PySem.F.slot_list_append PySem.F.type_list_append mt_append (pv 6) (pa_cons (pe_tup (pa_cons pe_str (pa_cons (pe_tup (pa_cons pe_str (pa_cons (pe_op op_add (pv 4) (pv 7)) pa_nil))) pa_nil))) pa_nil)))))))
    (pss_cons (ps_expr (pe_bm PySem.F.plainAttrs_list PySem.F.slot_list_append PySem.F.type_list_append mt_append (pv 6) (pa_cons (pe_tup (pa_cons pe_str (pa_cons (pe_ix (r := rIxT K) ix_tup (pv 1) pe_int (fun _ _ => rfl)) (pa_cons (pv 5) (pa_cons (pv 3) pa_nil))))) pa_nil)))
    (pss_one (ps_ret (pv 6)))))))), ?_⟩
  refine ⟨_, rfl, x, dx, _, rfl, hx, rfl, _, rfl, a, _, 1, _, rfl, rfl, SqT.of ha, at1 _ _ _, l, _, rfl, .inr (SqT.of hl), ?_⟩
  refine ⟨x, dx, e0, L, G, p, (f : Nat), vs.length, cb, rfl, hx, ?_⟩
  have hl' : ((f : Int) + (vs.length : Nat)) = ((f + ns.length : Nat) : Int) := by rw [l1]; rfl
  rw [hl']
  have fx : Fr (fun q => q = x) H (upd H x (.ins CD dx (dfl p (f + ns.length : Nat) cb e0 L G))) := Fr.set rfl hx rfl
  have wX : ∀ q : Addr, q = x → X q := fun q z => by rw [z]; exact Xx
  have x1 : upd H x (.ins CD dx (dfl p (f + ns.length : Nat) cb e0 L G)) x = some (.ins CD dx (dfl p (f + ns.length : Nat) cb e0 L G)) := upd_same
  have ha1 := fx.tup _ _ ha
  have hl1 := fx.tup _ _ hl
  have rs1 : RTp _ vs ns ts := rs.keep fx.tup
  have rb1 := rb.keep fx.tup
  have sd1 := sd.fr (fx.wide wX)
  generalize upd H x (.ins CD dx (dfl p (f + ns.length : Nat) cb e0 L G)) = H1 at fx x1 ha1 hl1 rs1 rb1 sd1 ⊢
  obtain ⟨kvs, k1, k2, k3, k4⟩ := sd1
  refine ⟨_, rfl, e, kvs, rfl, .inl k1, fun d hd => ⟨by show 0 ≤ sizeLine; decide, fun o ho => ?_⟩⟩
  have f2 : Fr No H1 (upd H1 d (.dK kvs)) := Fr.new hd
  have f3 : Fr No (upd H1 d (.dK kvs)) (upd (upd H1 d (.dK kvs)) o (.lst [])) := Fr.new ho
  have d2 : upd (upd H1 d (.dK kvs)) o (.lst []) d = some (.dK kvs) := f3.keep (fun z => z) rfl upd_same
  have o2 : upd (upd H1 d (.dK kvs)) o (.lst []) o = some (.lst []) := upd_same
  have f23 := f2.trans f3
  have ho1 : H1 o = none := f2.dom ho
  have ndo : d ≠ o := ne_of d2 o2 fun z => by cases z
  have ne_d : ∀ {q : Addr} {u : HO}, H1 q = some u → q ≠ d ∧ q ≠ o := fun {q u} z => ⟨ne_of_none z hd, ne_of_none z ho1⟩
  generalize upd (upd H1 d (.dK kvs)) o (.lst []) = H2 at f23 d2 o2 ⊢
  let X2 : Addr → Prop := fun q => X q ∨ q = d ∨ q = o
  have sd2 : SDk X2 H2 e sc := ⟨kvs, f23.keep (fun z => z) rfl k1, fun z => by
    rcases z with z | z | z
    · exact k2 z
    · exact (ne_d k1).1 z
    · exact (ne_d k1).2 z, k3.keep f23.tup, k4⟩
  refine ⟨_, rfl, a, _, 1, _, rfl, rfl, SqT.of (f23.tup _ _ ha1), at1 _ _ _, l, vs, rfl, SqT.of (f23.tup _ _ hl1), ?_⟩
  have w2 : ∀ q : Addr, (q = d ∨ q = o) → X2 q := fun q z => .inr z
  refine for_it (walk_enumT (K := K) (a := l) (xs := vs)) (fun i σ H' => ∃ (v7 v8 v9 : Option V) (lvs : List (Key × V)) (us : List V), σ = [some (.ref x), some (.ref a), some (.ref e), some (.bl last), some (.int (f : Nat)), some (.ref d), some (.ref o), v7, v8, v9] ∧ H' d = some (.dK lvs) ∧ RSc H' lvs (letSc f (ns.take i) sc) ∧
      H' o = some (.lst us) ∧ Als (RPc X2 H') us (letPs sc f (ts.take i)) ∧ SDk X2 H' e sc ∧ Fr No H1 H')
    ⟨none, none, none, kvs, [], rfl, d2, k3.keep f23.tup, o2, .nil, sd2, f23⟩ (fun i σ H' _ ⟨_, _, _, _, _, _, _, _, _, _, _, g⟩ => SqT.of (g.tup _ _ hl1)) ?_ ?_
  · rintro i v σ H' H3 hi ⟨v7, v8, v9, lvs, us, rfl, hd', rl, ho', al, sd', fN⟩ ⟨T, xx, yy, rfl, hT, rfl, exx, eyy⟩
    cases exx
    obtain ⟨q0, pv0, n, t1, rfl, hq0, hn, ht1, rt1⟩ := rs1.get eyy
    have il : i < ns.length := (List.getElem?_eq_some_iff.mp hn).1
    have tn : ns.take (i + 1) = ns.take i ++ [n] := take_more hn
    have tt : ts.take (i + 1) = ts.take i ++ [t1] := take_more ht1
    have lni : (ns.take i).length = i := by rw [List.length_take]; omega
    have lti : (ts.take i).length = i := by rw [List.length_take]; omega
    have fT : Fr No H' (upd H' T (.tup [.int (i : Nat), .ref q0])) := Fr.new hT
    refine ⟨T, _, rfl, SqT.of upd_same, rfl, _, _, rfl, ?_⟩
    refine ⟨_, _, rfl, q0, _, rfl, SqT.of ((fN.trans fT).tup _ _ hq0), rfl, _, _, rfl, ?_⟩
    refine ⟨_, _, rfl, rfl, rfl, ?_⟩
    have hd3 := fT.keep (fun z => z) rfl hd'
    have ho3 := fT.keep (fun z => z) rfl ho'
    generalize upd H' T (.tup [.int (i : Nat), .ref q0]) = H3 at fT hd3 ho3 ⊢
    refine ⟨_, rfl, _, rfl, _, _, rfl, rfl, by show 2 ≤ sizeLine; decide, fun s1 hs1 => ?_⟩
    have fs : Fr No H3 (upd H3 s1 (.tup (srcV (.place (f + i))))) := Fr.new hs1
    have es : upd H3 s1 (.tup (srcV (.place (f + i)))) s1 = some (.tup (srcV (.place (f + i)))) := upd_same
    have hd4 := fs.keep (fun z => z) rfl hd3
    have ho4 := fs.keep (fun z => z) rfl ho3
    have f4 := fT.trans fs
    have e4 : (upd H3 s1 (.tup [.str "place", .int ((f : Int) + (i : Int))])) = upd H3 s1 (.tup (srcV (.place (f + i)))) := rfl
    rw [show (upd H3 s1 (HO.tup [V.str "place", (fun i j => V.int (i + j)) (f : Int) (i : Int)])) = upd H3 s1 (.tup (srcV (.place (f + i)))) from rfl]
    generalize upd H3 s1 (.tup (srcV (.place (f + i)))) = H4 at fs es hd4 ho4 f4 ⊢
    have ll : lvs.length < sizeLine := by
      rw [rl.len]
      have h1 := letSc_len (ns.take i) f sc
      rw [lni] at h1
      exact Nat.lt_of_le_of_lt (show _ ≤ 1001000 by omega) (by decide)
    refine ⟨_, rfl, _, rfl, d, _, rfl, DPut.k (k := .inl n) hd4 ll, ?_⟩
    have f5 : Fr (fun q => q = d ∨ q = o) H4 (upd H4 d (.dK (putK lvs (.inl n) (.ref s1)))) := Fr.set (.inl rfl) hd4 rfl
    have n5 : Fr No H1 (upd H4 d (.dK (putK lvs (.inl n) (.ref s1)))) := (fN.trans f4).mut hd hd4 rfl
    have d5 : upd H4 d (.dK (putK lvs (.inl n) (.ref s1))) d = some (.dK (putK lvs (.inl n) (.ref s1))) := upd_same
    have o5 : upd H4 d (.dK (putK lvs (.inl n) (.ref s1))) o = some (.lst us) := by rw [upd_ne (Ne.symm ndo)]; exact ho4
    have es5 := f5.tup _ _ es
    generalize upd H4 d (.dK (putK lvs (.inl n) (.ref s1))) = H5 at f5 n5 d5 o5 es5 ⊢
    have lus : us.length = 2 * i := by rw [al.len, letPs_len, lti]
    refine ⟨_, rfl, .inl ⟨rfl, _, SqL.of o5⟩, _, rfl, _, rfl, by show 4 ≤ sizeLine; decide, fun s2 hs2 => ?_⟩
    have f6 : Fr No H5 (upd H5 s2 (.tup [.str "tree", pv0, .ref e, .bl false])) := Fr.new hs2
    have es6 : upd H5 s2 (.tup [.str "tree", pv0, .ref e, .bl false]) s2 = some (.tup [.str "tree", pv0, .ref e, .bl false]) := upd_same
    have d6 := f6.keep (fun z => z) rfl d5
    have o6 := f6.keep (fun z => z) rfl o5
    have n6 := n5.trans f6
    generalize upd H5 s2 (.tup [.str "tree", pv0, .ref e, .bl false]) = H6 at f6 es6 d6 o6 n6 ⊢
    refine ⟨o, _, _, rfl, rfl, o6, Nat.lt_of_le_of_lt (show us.length ≤ 2001 by omega) (by decide), ?_⟩
    have f7 : Fr (fun q => q = d ∨ q = o) H6 (upd H6 o (.lst (us ++ [.ref s2]))) := Fr.set (.inr rfl) o6 rfl
    have n7 : Fr No H1 (upd H6 o (.lst (us ++ [.ref s2]))) := n6.mut ho1 o6 rfl
    have d7 : upd H6 o (.lst (us ++ [.ref s2])) d = some (.dK (putK lvs (.inl n) (.ref s1))) := by rw [upd_ne ndo]; exact d6
    have o7 : upd H6 o (.lst (us ++ [.ref s2])) o = some (.lst (us ++ [.ref s2])) := upd_same
    generalize upd H6 o (.lst (us ++ [.ref s2])) = H7 at f7 n7 d7 o7 ⊢
    refine ⟨_, rfl, .inl ⟨rfl, _, SqL.of o7⟩, _, rfl, _, rfl, _, _, rfl, rfl, by show 2 ≤ sizeLine; decide, fun s3 hs3 => ⟨by show 2 ≤ sizeLine; decide, fun s4 hs4 => ?_⟩⟩
    have f8 : Fr No H7 (upd H7 s3 (.tup [.str "put", .int (f + i : Nat)])) := Fr.new hs3
    have f9 : Fr No (upd H7 s3 (.tup [.str "put", .int (f + i : Nat)])) (upd (upd H7 s3 (.tup [.str "put", .int (f + i : Nat)])) s4 (.tup [.str "write", .ref s3])) := Fr.new hs4
    have es8 := f9.tup _ _ (show upd H7 s3 (.tup [.str "put", .int (f + i : Nat)]) s3 = some (.tup [.str "put", .int (f + i : Nat)]) from upd_same)
    have es9 : upd (upd H7 s3 (.tup [.str "put", .int (f + i : Nat)])) s4 (.tup [.str "write", .ref s3]) s4 = some (.tup [.str "write", .ref s3]) := upd_same
    have f89 := f8.trans f9
    have d9 := f89.keep (fun z => z) rfl d7
    have o9 := f89.keep (fun z => z) rfl o7
    have n9 := n7.trans f89
    rw [show (upd (upd H7 s3 (HO.tup [V.str "put", (fun i j => V.int (i + j)) (f : Int) (i : Int)])) s4 (.tup [.str "write", .ref s3])) = (upd (upd H7 s3 (.tup [.str "put", .int (f + i : Nat)])) s4 (.tup [.str "write", .ref s3])) from rfl]
    generalize upd (upd H7 s3 (.tup [.str "put", .int (f + i : Nat)])) s4 (.tup [.str "write", .ref s3]) = H9 at f89 es8 es9 d9 o9 n9 ⊢
    refine ⟨o, _, _, rfl, rfl, o9, Nat.lt_of_le_of_lt (show (us ++ [V.ref s2]).length ≤ 2001 by rw [List.length_append]; show us.length + 1 ≤ 2001; omega) (by decide), ?_⟩
    have f10 : Fr (fun q => q = d ∨ q = o) H9 (upd H9 o (.lst (us ++ [.ref s2] ++ [.ref s4]))) := Fr.set (.inr rfl) o9 rfl
    have n10 : Fr No H1 (upd H9 o (.lst (us ++ [.ref s2] ++ [.ref s4]))) := n9.mut ho1 o9 rfl
    have d10 : upd H9 o (.lst (us ++ [.ref s2] ++ [.ref s4])) d = some (.dK (putK lvs (.inl n) (.ref s1))) := by rw [upd_ne ndo]; exact d9
    have o10 : upd H9 o (.lst (us ++ [.ref s2] ++ [.ref s4])) o = some (.lst (us ++ [.ref s2] ++ [.ref s4])) := upd_same
    generalize upd H9 o (.lst (us ++ [.ref s2] ++ [.ref s4])) = H10 at f10 n10 d10 o10 ⊢
    have g9 : Fr X2 H9 H10 := f10.wide w2
    have g6 : Fr X2 H6 H10 := (f7.wide w2).trans (f89.no.trans g9)
    have g5 : Fr X2 H5 H10 := f6.no.trans g6
    have g : Fr X2 H' H10 := f4.no.trans ((f5.wide w2).trans g5)
    have sdN := sd'.fr g
    refine ⟨_, _, _, putK lvs (.inl n) (.ref s1), us ++ [.ref s2] ++ [.ref s4], rfl, d10, ?_, o10, ?_, sdN, n10⟩
    · rw [tn, letSc_snoc, lni]
      exact (rl.keep g.tup).put ⟨s1, rfl, g5.tup _ _ es5⟩
    · rw [tt, letPs_snoc, lti, List.append_assoc]
      exact (al.mono fun _ _ r => r.fr g).app (.cons (.tree (g6.tup _ _ es6) (rt1.keep n10.tup) (widTs_mem wt.2.1 _ (List.mem_of_getElem? ht1)) sdN) (.cons (.write (g9.tup _ _ es9) (.put (g9.tup _ _ es8))) .nil))
  · rintro σ H' ⟨v7, v8, v9, lvs, us, rfl, hd', rl, ho', al, sd', fN⟩
    rw [l1, List.take_length] at rl
    rw [l1, ← l2, List.take_length] at al
    have lus : us.length = 2 * ts.length := by rw [al.len, letPs_len]
    refine ⟨_, rfl, .inl ⟨rfl, _, SqL.of ho'⟩, _, rfl, a, _, 2, _, rfl, rfl, SqT.of (fN.tup _ _ ha1), atI_nat (j := 2) rfl, _, rfl, _, rfl, by show 4 ≤ sizeLine; decide, fun s2 hs2 => ?_⟩
    have f6 : Fr No H' (upd H' s2 (.tup [.str "tree", y, .ref d, .bl last])) := Fr.new hs2
    have es6 : upd H' s2 (.tup [.str "tree", y, .ref d, .bl last]) s2 = some (.tup [.str "tree", y, .ref d, .bl last]) := upd_same
    have d6 := f6.keep (fun z => z) rfl hd'
    have o6 := f6.keep (fun z => z) rfl ho'
    have n6 := fN.trans f6
    generalize upd H' s2 (.tup [.str "tree", y, .ref d, .bl last]) = H6 at f6 es6 d6 o6 n6 ⊢
    refine ⟨o, _, _, rfl, rfl, o6, Nat.lt_of_le_of_lt (show us.length ≤ 2001 by omega) (by decide), ?_⟩
    have f7 : Fr (fun q => q = o) H6 (upd H6 o (.lst (us ++ [.ref s2]))) := Fr.set rfl o6 rfl
    have n7 : Fr No H1 (upd H6 o (.lst (us ++ [.ref s2]))) := n6.mut ho1 o6 rfl
    have d7 : upd H6 o (.lst (us ++ [.ref s2])) d = some (.dK lvs) := by rw [upd_ne ndo]; exact d6
    have o7 : upd H6 o (.lst (us ++ [.ref s2])) o = some (.lst (us ++ [.ref s2])) := upd_same
    generalize upd H6 o (.lst (us ++ [.ref s2])) = H7 at f7 n7 d7 o7 ⊢
    have g7 : Fr X2 H' H7 := f6.no.trans (f7.wide fun q z => .inr (.inr z))
    have hXd : ¬ X d := fun z => dom d z (fx.dom hd)
    refine ⟨_, rfl, q o (us ++ [.ref s2]) H7 (fx.trans n7.no) (n7.keep (fun z => z) rfl x1) (fx.dom ho1) o7 ?_⟩
    unfold letP
    refine ((al.mono fun _ _ r => (r.fr g7).mono fun q z => .inl z)).app (.one ?_)
    refine .tree (f7.tup _ _ es6) (rb1.keep n7.tup) wt.2.2 ⟨lvs, d7, hXd, (rl.keep f6.tup).keep f7.tup, ?_⟩
    have := letSc_len ns f sc
    omega
end
end My
namespace My
open PySem PySem.Spec PyProof.Rows L2 TL
/-! ### call_pieces -/
def callP (f : Tr) (ts : List Tr) (sc : Sc) (last : Bool) : List Pc := (f :: ts).map (fun t => .tree t sc false) ++ [.write (if last = true then .tail ts.length else .call ts.length)]
abbrev sCp : Stmt := top 45
abbrev NCp : List Str := ["core", "scope", "last", "word", "trees", "part"]
def spCp : Sp := fun vs H Q _ => ∃ (X : Addr → Prop) (e : Addr) (c : V) (f : Tr) (ts : List Tr) (sc : Sc) (last : Bool), vs = [c, .ref e, .bl last] ∧ RT H c (.call f ts) ∧ widT (.call f ts) ∧ SDk X H e sc ∧
  ∀ a us H', Fr No H H' → H a = none → H' a = some (.lst us) → Als (RPc X H') us (callP f ts sc last) → Q (.ref a) H'
section
variable {P : Program} {w : World} {K : PySem.W.Frag} {mg : Str → Option Value} {base : Heap}
theorem scCp : FnScope NCp ["core", "scope", "last"] (defScope sCp) := ⟨rfl, rfl, rfl, by decide +kernel, rfl, by decide +kernel, by decide +kernel⟩
theorem ok_cp {f : Addr} {fd : FuncData} (Fn : Fun K "call_pieces" "call_pieces" sCp f fd) (B : Blt mg) : FnOk P w K mg base CX0 1 f fd ["core", "scope", "last"] spCp := by
  refine Fn.ok scCp (fun vs H Q E h => ?_) (fun cdv A outer s H vs Q E hr h => ?_)
  · obtain ⟨X, e, c, f, ts, sc, last, rfl, _⟩ := h
    rfl
  obtain ⟨X, e, c, tf, ts, sc, last, rfl, rt, wt, sd, q⟩ := h
  have nd := scCp.nd
  unfold widT at wt
  cases rt with
  | @call a l x vs _ _ ha hl rf rs =>
  refine ⟨_, (pss_cons (ps_set (i := 3) nd rfl (Or.inl rfl) (pe_ifExp (pt_val (pv 2)) pe_str pe_str))
    (pss_cons (ps_setLc (i := 4) (own := [("part", 5)]) (g := gName 5) (tt := tYes) rfl nd rfl rfl (sw_true rfl rfl rfl (by decide +kernel)) (pi_tup (pe_tup (pa_cons (pe_ix (r := rIxT K) ix_tup (pv 0) pe_int (fun _ _ => rfl)) (StX.pa_star (pe_ix (r := rIxT K) ix_tup (pv 0) pe_int (fun _ _ => rfl)) pa_nil)))) (blkOk_by (N := NCp) (sc := defScope sCp) (by decide +kernel)) (fun _ _ _ _ _ => (pg_name (i := 5) nd rfl (Or.inl rfl) (hf := Or.inr rfl))) (fun _ _ _ _ _ => pts_nil) (fun _ _ _ _ _ => (pe_tup (pa_cons pe_str (pa_cons (pv 5) (pa_cons (pv 1) (pa_cons pe_bl pa_nil)))))))
    (pss_one (ps_ret (pe_op op_cat (pv 4) (pe_lst (pa_cons (pe_tup (pa_cons pe_str (pa_cons (pe_tup (pa_cons (pv 3) (pa_cons (pe_callB call_len_seq (by rfl) B.len PySem.boot_len (pa_cons (pe_ix (r := rIxT K) ix_tup (pv 0) pe_int (fun _ _ => rfl)) pa_nil)) pa_nil))) pa_nil))) pa_nil))))))), ?_⟩
  have lv : vs.length = ts.length := rs.len
  refine ⟨_, rfl, last, rfl, ?_⟩
  cases last with
  | true =>
    refine iteT ?_
    refine ⟨_, rfl, a, _, 1, _, rfl, rfl, SqT.of ha, at1 _ _ _, _, rfl, a, _, 2, _, rfl, rfl, SqT.of ha, atI_nat (j := 2) rfl, l, _, rfl, .inl (SqT.of hl), ?_, fun T hT => ?_⟩
    · show (x :: (vs ++ [])).length ≤ sizeLine
      rw [List.append_nil, List.length_cons, lv]
      exact Nat.le_trans (show ts.length + 1 ≤ 1001 by omega) (by decide)
    have ec : (x :: (vs ++ [])) = x :: vs := by rw [List.append_nil]
    rw [ec]
    have fT : Fr No H (upd H T (.tup (x :: vs))) := Fr.new hT
    have hT1 : upd H T (.tup (x :: vs)) T = some (.tup (x :: vs)) := upd_same
    generalize upd H T (.tup (x :: vs)) = H1 at fT hT1 ⊢
    have rs0 : RTs H (x :: vs) (tf :: ts) := .cons rf rs
    refine ⟨T, rfl, ⟨_, SqT.of hT1⟩, fun D hD => ?_⟩
    have hD0 : H D = none := fT.dom hD
    let X2 : Addr → Prop := fun q => X q ∨ q = D
    have sd1 : SDk X2 (upd H1 D (.lst [])) e sc := by
      obtain ⟨kvs, k1, k2, k3, k4⟩ := sd
      have f := fT.trans (Fr.new (X := No) (o := .lst []) hD)
      exact ⟨kvs, f.keep (fun z => z) rfl k1, fun z => z.elim k2 (ne_of_none k1 hD0), k3.keep f.tup, k4⟩
    refine lc_tup (xs := x :: vs) (fun i H' => ∃ us, H' D = some (.lst us) ∧ us.length = i ∧ Als (RPc X2 H') us (((tf :: ts).take i).map fun t => .tree t sc false) ∧ SDk X2 H' e sc ∧ H' T = some (.tup (x :: vs)) ∧ Fr No H H') ⟨[], upd_same, rfl, .nil, sd1, (Fr.new (X := No) hD).tup _ _ hT1, fT.trans (Fr.new hD)⟩ (fun i H' _ ⟨us, _, _, _, _, g, _⟩ => SqT.of g) ?_ ?_
    · rintro i x1 H' hi ⟨us, h1, h2, h3, h4, h6, h5⟩
      obtain ⟨t1, e1, r1⟩ := rs0.get hi
      refine ⟨rfl, _, rfl, _, rfl, by show 4 ≤ sizeLine; decide, fun q1 hq1 => ?_⟩
      have nqD : D ≠ q1 := fun z => by rw [z, hq1] at h1; cases h1
      have il : i < (tf :: ts).length := (List.getElem?_eq_some_iff.mp e1).1
      rw [List.length_cons] at il
      have e2 : upd H' q1 (.tup [.str "tree", x1, .ref e, .bl false]) D = some (.lst us) := by rw [upd_ne nqD]; exact h1
      have f1 : Fr No H' (upd H' q1 (.tup [.str "tree", x1, .ref e, .bl false])) := Fr.new hq1
      have f2 : Fr (fun q => q = D) (upd H' q1 (.tup [.str "tree", x1, .ref e, .bl false])) (upd (upd H' q1 (.tup [.str "tree", x1, .ref e, .bl false])) D (.lst (us ++ [.ref q1]))) := Fr.set rfl e2 rfl
      have fX : Fr X2 H' (upd (upd H' q1 (.tup [.str "tree", x1, .ref e, .bl false])) D (.lst (us ++ [.ref q1]))) := f1.no.trans (f2.wide fun q z => .inr z)
      have wt1 : widT t1 := by
        rcases List.mem_cons.mp (List.mem_of_getElem? e1) with z | z
        · rw [z]; exact wt.2.1
        · exact widTs_mem wt.2.2 t1 z
      have sd2 := h4.fr fX
      have fN : Fr No H (upd (upd H' q1 (.tup [.str "tree", x1, .ref e, .bl false])) D (.lst (us ++ [.ref q1]))) := (h5.trans f1).mut hD0 e2 rfl
      refine ⟨us, e2, Nat.lt_of_le_of_lt (show us.length ≤ 1001 by omega) (by decide), us ++ [.ref q1], upd_same, by simp [h2], ?_, sd2, fX.tup _ _ h6, fN⟩
      rw [take_more e1, List.map_append]
      exact (h3.mono fun _ _ r => r.fr fX).app (.one (.tree (f2.tup _ _ upd_same) (r1.keep fN.tup) wt1 sd2))
    · rintro H' ⟨us, h1, h2, h3, h4, h6, h5⟩
      have lxs : (x :: vs).length = (tf :: ts).length := rs0.len
      rw [lxs, List.take_length] at h3
      refine ⟨_, rfl, _, rfl, _, rfl, a, _, 2, _, rfl, rfl, SqT.of (h5.tup _ _ ha), atI_nat (j := 2) rfl, l, _, rfl, .inr (SqT.of (h5.tup _ _ hl)), by show 2 ≤ sizeLine; decide, fun s1 hs1 => ⟨by show 2 ≤ sizeLine; decide, fun s2 hs2 => ⟨by show 1 ≤ sizeLine; decide, fun s3 hs3 => ?_⟩⟩⟩
      have g1 : Fr No H' (upd H' s1 (.tup [.str "tail", .int (vs.length : Nat)])) := Fr.new hs1
      have g2 : Fr No (upd H' s1 (.tup [.str "tail", .int (vs.length : Nat)])) (upd (upd H' s1 (.tup [.str "tail", .int (vs.length : Nat)])) s2 (.tup [.str "write", .ref s1])) := Fr.new hs2
      have g3 : Fr No (upd (upd H' s1 (.tup [.str "tail", .int (vs.length : Nat)])) s2 (.tup [.str "write", .ref s1])) (upd (upd (upd H' s1 (.tup [.str "tail", .int (vs.length : Nat)])) s2 (.tup [.str "write", .ref s1])) s3 (.lst [.ref s2])) := Fr.new hs3
      have e1 := (g2.trans g3).tup _ _ (show upd H' s1 (.tup [.str "tail", .int (vs.length : Nat)]) s1 = some (.tup [.str "tail", .int (vs.length : Nat)]) from upd_same)
      have e2 := g3.tup _ _ (show upd (upd H' s1 (.tup [.str "tail", .int (vs.length : Nat)])) s2 (.tup [.str "write", .ref s1]) s2 = some (.tup [.str "write", .ref s1]) from upd_same)
      have g13 := g1.trans (g2.trans g3)
      have h1' := g13.keep (fun z => z) rfl h1
      refine ⟨D, s3, _, _, rfl, rfl, h1', upd_same, ?_, fun o ho => ?_⟩
      · show us.length + 1 ≤ sizeLine
        have : us.length = ts.length + 1 := by rw [h2, lxs]; rfl
        exact Nat.le_trans (show us.length + 1 ≤ 1002 by omega) (by decide)
      have g4 : Fr No _ (upd (upd (upd (upd H' s1 (.tup [.str "tail", .int (vs.length : Nat)])) s2 (.tup [.str "write", .ref s1])) s3 (.lst [.ref s2])) o (.lst (us ++ [.ref s2]))) := Fr.new ho
      have g14 := g13.trans g4
      refine q o _ _ (h5.trans g14) ((h5.trans g13).dom ho) upd_same ?_
      unfold callP
      refine (h3.mono fun _ _ r => (r.fr g14.no).mono fun q z => .inl z).app (.one (.write (g4.tup _ _ e2) ?_))
      rw [← lv]
      exact .tail (g4.tup _ _ e1)
  | false =>
    refine iteF ?_
    refine ⟨_, rfl, a, _, 1, _, rfl, rfl, SqT.of ha, at1 _ _ _, _, rfl, a, _, 2, _, rfl, rfl, SqT.of ha, atI_nat (j := 2) rfl, l, _, rfl, .inl (SqT.of hl), ?_, fun T hT => ?_⟩
    · show (x :: (vs ++ [])).length ≤ sizeLine
      rw [List.append_nil, List.length_cons, lv]
      exact Nat.le_trans (show ts.length + 1 ≤ 1001 by omega) (by decide)
    have ec : (x :: (vs ++ [])) = x :: vs := by rw [List.append_nil]
    rw [ec]
    have fT : Fr No H (upd H T (.tup (x :: vs))) := Fr.new hT
    have hT1 : upd H T (.tup (x :: vs)) T = some (.tup (x :: vs)) := upd_same
    generalize upd H T (.tup (x :: vs)) = H1 at fT hT1 ⊢
    have rs0 : RTs H (x :: vs) (tf :: ts) := .cons rf rs
    refine ⟨T, rfl, ⟨_, SqT.of hT1⟩, fun D hD => ?_⟩
    have hD0 : H D = none := fT.dom hD
    let X2 : Addr → Prop := fun q => X q ∨ q = D
    have sd1 : SDk X2 (upd H1 D (.lst [])) e sc := by
      obtain ⟨kvs, k1, k2, k3, k4⟩ := sd
      have f := fT.trans (Fr.new (X := No) (o := .lst []) hD)
      exact ⟨kvs, f.keep (fun z => z) rfl k1, fun z => z.elim k2 (ne_of_none k1 hD0), k3.keep f.tup, k4⟩
    refine lc_tup (xs := x :: vs) (fun i H' => ∃ us, H' D = some (.lst us) ∧ us.length = i ∧ Als (RPc X2 H') us (((tf :: ts).take i).map fun t => .tree t sc false) ∧ SDk X2 H' e sc ∧ H' T = some (.tup (x :: vs)) ∧ Fr No H H') ⟨[], upd_same, rfl, .nil, sd1, (Fr.new (X := No) hD).tup _ _ hT1, fT.trans (Fr.new hD)⟩ (fun i H' _ ⟨us, _, _, _, _, g, _⟩ => SqT.of g) ?_ ?_
    · rintro i x1 H' hi ⟨us, h1, h2, h3, h4, h6, h5⟩
      obtain ⟨t1, e1, r1⟩ := rs0.get hi
      refine ⟨rfl, _, rfl, _, rfl, by show 4 ≤ sizeLine; decide, fun q1 hq1 => ?_⟩
      have nqD : D ≠ q1 := fun z => by rw [z, hq1] at h1; cases h1
      have il : i < (tf :: ts).length := (List.getElem?_eq_some_iff.mp e1).1
      rw [List.length_cons] at il
      have e2 : upd H' q1 (.tup [.str "tree", x1, .ref e, .bl false]) D = some (.lst us) := by rw [upd_ne nqD]; exact h1
      have f1 : Fr No H' (upd H' q1 (.tup [.str "tree", x1, .ref e, .bl false])) := Fr.new hq1
      have f2 : Fr (fun q => q = D) (upd H' q1 (.tup [.str "tree", x1, .ref e, .bl false])) (upd (upd H' q1 (.tup [.str "tree", x1, .ref e, .bl false])) D (.lst (us ++ [.ref q1]))) := Fr.set rfl e2 rfl
      have fX : Fr X2 H' (upd (upd H' q1 (.tup [.str "tree", x1, .ref e, .bl false])) D (.lst (us ++ [.ref q1]))) := f1.no.trans (f2.wide fun q z => .inr z)
      have wt1 : widT t1 := by
        rcases List.mem_cons.mp (List.mem_of_getElem? e1) with z | z
        · rw [z]; exact wt.2.1
        · exact widTs_mem wt.2.2 t1 z
      have sd2 := h4.fr fX
      have fN : Fr No H (upd (upd H' q1 (.tup [.str "tree", x1, .ref e, .bl false])) D (.lst (us ++ [.ref q1]))) := (h5.trans f1).mut hD0 e2 rfl
      refine ⟨us, e2, Nat.lt_of_le_of_lt (show us.length ≤ 1001 by omega) (by decide), us ++ [.ref q1], upd_same, by simp [h2], ?_, sd2, fX.tup _ _ h6, fN⟩
      rw [take_more e1, List.map_append]
      exact (h3.mono fun _ _ r => r.fr fX).app (.one (.tree (f2.tup _ _ upd_same) (r1.keep fN.tup) wt1 sd2))
    · rintro H' ⟨us, h1, h2, h3, h4, h6, h5⟩
      have lxs : (x :: vs).length = (tf :: ts).length := rs0.len
      rw [lxs, List.take_length] at h3
      refine ⟨_, rfl, _, rfl, _, rfl, a, _, 2, _, rfl, rfl, SqT.of (h5.tup _ _ ha), atI_nat (j := 2) rfl, l, _, rfl, .inr (SqT.of (h5.tup _ _ hl)), by show 2 ≤ sizeLine; decide, fun s1 hs1 => ⟨by show 2 ≤ sizeLine; decide, fun s2 hs2 => ⟨by show 1 ≤ sizeLine; decide, fun s3 hs3 => ?_⟩⟩⟩
      have g1 : Fr No H' (upd H' s1 (.tup [.str "call", .int (vs.length : Nat)])) := Fr.new hs1
      have g2 : Fr No (upd H' s1 (.tup [.str "call", .int (vs.length : Nat)])) (upd (upd H' s1 (.tup [.str "call", .int (vs.length : Nat)])) s2 (.tup [.str "write", .ref s1])) := Fr.new hs2
      have g3 : Fr No (upd (upd H' s1 (.tup [.str "call", .int (vs.length : Nat)])) s2 (.tup [.str "write", .ref s1])) (upd (upd (upd H' s1 (.tup [.str "call", .int (vs.length : Nat)])) s2 (.tup [.str "write", .ref s1])) s3 (.lst [.ref s2])) := Fr.new hs3
      have e1 := (g2.trans g3).tup _ _ (show upd H' s1 (.tup [.str "call", .int (vs.length : Nat)]) s1 = some (.tup [.str "call", .int (vs.length : Nat)]) from upd_same)
      have e2 := g3.tup _ _ (show upd (upd H' s1 (.tup [.str "call", .int (vs.length : Nat)])) s2 (.tup [.str "write", .ref s1]) s2 = some (.tup [.str "write", .ref s1]) from upd_same)
      have g13 := g1.trans (g2.trans g3)
      have h1' := g13.keep (fun z => z) rfl h1
      refine ⟨D, s3, _, _, rfl, rfl, h1', upd_same, ?_, fun o ho => ?_⟩
      · show us.length + 1 ≤ sizeLine
        have : us.length = ts.length + 1 := by rw [h2, lxs]; rfl
        exact Nat.le_trans (show us.length + 1 ≤ 1002 by omega) (by decide)
      have g4 : Fr No _ (upd (upd (upd (upd H' s1 (.tup [.str "call", .int (vs.length : Nat)])) s2 (.tup [.str "write", .ref s1])) s3 (.lst [.ref s2])) o (.lst (us ++ [.ref s2]))) := Fr.new ho
      have g14 := g13.trans g4
      refine q o _ _ (h5.trans g14) ((h5.trans g13).dom ho) upd_same ?_
      unfold callP
      refine (h3.mono fun _ _ r => (r.fr g14.no).mono fun q z => .inl z).app (.one (.write (g4.tup _ _ e2) ?_))
      rw [← lv]
      exact .call (g4.tup _ _ e1)
end
end My
namespace My
open PySem PySem.Spec PyProof.Rows L2 TL
section
variable {X : Cx}
theorem ps_setDc {i : Nat} {y : Str} {py : Pos} {kx vx tg iter : Expr} {ifs : List Expr} {scope : Scope} {own : List (Str × Nat)} {pos spos : Pos} {wi : TI} {g : TG} {tt : TT} {tk tv : TE} (hc : X.calm = true) (hN : X.N.Nodup) (hy : X.N[i]? = some y) (hyl : X.env.scope.names.lookup y = some .local)
    (hsw : swapsWith (.DictComp kx vx [⟨tg, iter, ifs, 0⟩] scope pos) (some (.Name y py)) spos.line X.env = pure true) (hi : PI X tg iter wi) (ok : BlkOk X.N X.env.scope scope own)
    (hg : ∀ (s : Shared) (H : Hp) (C : Addr) (cl : List (Str × Addr)) (fp : List Addr), PG (X.blk s H scope (compEnvC scope cl C X.env) fp) tg g) (ht : ∀ (s : Shared) (H : Hp) (C : Addr) (cl : List (Str × Addr)) (fp : List Addr), PTs (X.blk s H scope (compEnvC scope cl C X.env) fp) ifs tt)
    (hk : ∀ (s : Shared) (H : Hp) (C : Addr) (cl : List (Str × Addr)) (fp : List Addr), PE (X.blk s H scope (compEnvC scope cl C X.env) fp) kx tk)
    (he : ∀ (s : Shared) (H : Hp) (C : Addr) (cl : List (Str × Addr)) (fp : List Addr), PE (X.blk s H scope (compEnvC scope cl C X.env) fp) vx tv) (hs : ∀ x, foldedSetIterable iter X.env x = pure x := by intro _; rfl) :
    PS X (.Assign [.Name y py] (.DictComp kx vx [⟨tg, iter, ifs, 0⟩] scope pos) spos) (tAsg (tDc wi g tt tk tv (own.map (·.2))) (gName i)) := by
  refine ⟨fun pins s σ H D I h => ?_⟩
  rw [exec_Assign_Name_used _ _ _ _ hsw]
  refine wpAny_bind (wpAny_standAt (wpAny_bind ?_))
  show wpAny _ X.A (do let _ ← comprehension (.DictComp kx vx [⟨tg, iter, ifs, 0⟩] scope pos) scope X.env (firstIterPos [⟨tg, iter, ifs, 0⟩] pos) newDict false (eval iter X.env) (some (assign (.Name y py) X.env))) _ _ s
  have h : tDc wi g tt tk tv (own.map (·.2)) σ H (fun x H1 => gName i x σ H1 D.nx) := h
  refine wpAny_bind (thn (dc_core (Qf := fun _ s' => SP X pins D .next s') hc hN I hi ok hg ht hk he hs h fun L C s' m H' I' q hn f => ?_) fun _ s' hq => wpAny_pure (wpAny_pure hq))
  show wpAny _ _ (assign (.Name y py) X.env (.ref L)) _ _ _
  refine wpAny_assign_Name (store_ok2 (v := V.ref L) I' hN hy (.inl hyl) rfl (fun s2 I2 ⟨a, sb, ha⟩ => ?_) (.inr hyl))
  obtain ⟨f0, f1, f2, f3, f4, f5⟩ := f
  have haC : C ≠ a := by
    rcases ha with z | z
    · rw [z]; exact f1
    · exact fun e => f4 y a z e.symm
  refine ⟨m, hn.sameBut sb haC, fun h3 sb3 => ?_⟩
  exact ⟨_, H', I2.turned (t' := s2.toks) (fun b o hb e => (sb3.2 b hb).trans e) f0 f1 f3 f4 f5, q⟩
theorem sw_trueD {kx vx : Expr} {gs : List Comprehension} {scope : Scope} {pos py : Pos} {y : Str} {l : Nat} {env : Env} (hk : env.scope.kind = .function) (hy : env.scope.names.lookup y = some .local) (hl : (py.line == pos.line) = true)
    (ha : (scope.names.any fun (n, k) => n == y && (k == .local || k == .cell)) = false) : swapsWith (.DictComp kx vx gs scope pos) (some (.Name y py)) l env = pure true := by
  have ky : env.kindOf y = some .local := hy
  have hb : env.blockKind = .function := by unfold Env.blockKind; rw [hk]; rfl
  unfold swapsWith
  simp only [hb, ky, ha, Expr.pos, hl]
  rfl
end
/-- a dict comprehension over any walk -/
theorem dc_it {J : It} {n : Nat} {G : Hp → Prop} {Y : Nat → Hp → V → Hp → Prop} (wk : Walk J n G Y) {g : TG} {tt : TT} {tk tv : TE} {vs : List Nat} {σ : L2.St} {H1 : Hp} {D : Addr} {Qd : Hp → Prop} (Pv : Nat → Hp → Prop) (h0 : Pv 0 (upd H1 D (.dK []))) (hG : ∀ i H, i ≤ n → Pv i H → G H)
    (hs : ∀ i x H H', i < n → Pv i H → Y i H x H' → g x (wipe σ vs) H' fun σ2 H2 => wipe σ2 vs = wipe σ vs ∧ tt σ2 H2 fun b H3 =>
      if b = true then tk σ2 H3 fun y H4 => tv σ2 H4 fun z H5 => ∃ kvs k, y = kV k ∧ H5 D = some (.dK kvs) ∧ kvs.length < sizeLine ∧ Pv (i + 1) (upd H5 D (.dK (putK kvs k z))) else Pv (i + 1) H3) (hd : ∀ H, Pv n H → Qd H) :
    ∃ W : Nat → Nat → Hp → Prop, (∃ m, W 0 m (upd H1 D (.dK []))) ∧ ∀ i m H, W i m H →
      (J.stop i H ∧ Qd H) ∨ (J.go i H ∧ ∃ Nx : Hp → Prop, (∀ H', Nx H' → ∃ m', m' < m ∧ W (i + 1) m' H') ∧ ∀ x H', J.yld i H x H' → g x (wipe σ vs) H' fun σ2 H2 => wipe σ2 vs = wipe σ vs ∧ tt σ2 H2 fun b H3 =>
        if b = true then tk σ2 H3 fun y H4 => tv σ2 H4 fun z H5 => ∃ kvs k, y = kV k ∧ H5 D = some (.dK kvs) ∧ kvs.length < sizeLine ∧ Nx (upd H5 D (.dK (putK kvs k z))) else Nx H3) := by
  refine ⟨fun i m H => m + i = n ∧ Pv i H, ⟨n, rfl, h0⟩, fun i m H wi => ?_⟩
  obtain ⟨em, p⟩ := wi
  have sq := hG i H (by omega) p
  by_cases lt : i < n
  · exact .inr ⟨wk.goes i H lt sq, Pv (i + 1), fun H' p' => ⟨m - 1, by omega, by omega, p'⟩, fun x H' y => hs i x H H' lt p (wk.yields i H x H' lt sq y)⟩
  · have e : i = n := by omega
    subst e
    exact .inl ⟨wk.stops H sq, hd H p⟩
/-! ### draft_function -/
def kpSc : Nat → List Int → Sc → Sc
  | _, [], sc => sc
  | i, n :: ns, sc => kpSc (i + 1) ns (scPut n (.kept i) sc)
theorem kpSc_snoc (n : Int) : ∀ (ns : List Int) (i : Nat) (sc : Sc), kpSc i (ns ++ [n]) sc = scPut n (.kept (i + ns.length)) (kpSc i ns sc)
  | [], f, sc => rfl
  | m :: ns, f, sc => by
    show kpSc (f + 1) (ns ++ [n]) (scPut m (.kept f) sc) = scPut n (.kept (f + (ns.length + 1))) (kpSc (f + 1) ns (scPut m (.kept f) sc))
    rw [kpSc_snoc n ns (f + 1), show f + 1 + ns.length = f + (ns.length + 1) by omega]
theorem kpSc_len : ∀ (ns : List Int) (f : Nat) (sc : Sc), (kpSc f ns sc).length ≤ sc.length + ns.length
  | [], _, _ => Nat.le_refl _
  | n :: ns, f, sc => by
    have h1 := kpSc_len ns (f + 1) (scPut n (.kept f) sc)
    have h2 := scPut_len n (.kept f) sc
    show (kpSc (f + 1) ns (scPut n (.kept f) sc)).length ≤ sc.length + (ns.length + 1)
    omega
/-- the scope within a function -/
def fnSc (t : Tr) : Sc := letSc 0 (bnd t) (kpSc 0 (outT t) [])
/-- where the kept values are read outside -/
def ssOf (sc : Sc) : List Int → Option (List Src)
  | [] => some []
  | n :: ns => match scGet n sc, ssOf sc ns with
    | some s, some ss => some (s :: ss)
    | _, _ => none
theorem ssOf_get {sc : Sc} : ∀ {ns : List Int} {ss : List Src} {i : Nat} {n : Int}, ssOf sc ns = some ss → ns[i]? = some n → ∃ s, scGet n sc = some s ∧ ss[i]? = some s
  | [], _, _, _, _, e => by simp at e
  | m :: ns, ss, i, n, h, e => by
    unfold ssOf at h
    cases h1 : scGet m sc with
    | none => rw [h1] at h; cases h
    | some s =>
      cases h2 : ssOf sc ns with
      | none => rw [h1, h2] at h; cases h
      | some r =>
        rw [h1, h2] at h
        cases h
        cases i with
        | zero => cases e; exact ⟨s, h1, rfl⟩
        | succ i =>
          obtain ⟨u, e1, e2⟩ := ssOf_get (i := i) h2 (by simpa using e)
          exact ⟨u, e1, by simpa using e2⟩
theorem ssOf_len {sc : Sc} : ∀ {ns : List Int} {ss : List Src}, ssOf sc ns = some ss → ss.length = ns.length
  | [], _, h => by cases h; rfl
  | m :: ns, ss, h => by
    unfold ssOf at h
    cases h1 : scGet m sc with
    | none => rw [h1] at h; cases h
    | some s =>
      cases h2 : ssOf sc ns with
      | none => rw [h1, h2] at h; cases h
      | some r =>
        rw [h1, h2] at h
        cases h
        rw [List.length_cons, List.length_cons, ssOf_len h2]
theorem RSs.snoc {H : Hp} : ∀ {vs : List V} {ss : List Src} {v : V} {s : Src}, RSs H vs ss → RSr H v s → RSs H (vs ++ [v]) (ss ++ [s])
  | _, _, _, _, .nil, h => .cons h .nil
  | _, _, _, _, .cons g r, h => .cons g (RSs.snoc r h)
theorem RSs.len {H : Hp} : ∀ {vs : List V} {ss : List Src}, RSs H vs ss → vs.length = ss.length
  | _, _, .nil => rfl
  | _, _, .cons _ r => congrArg (· + 1) (RSs.len r)
abbrev sDf : Stmt := top 41
abbrev NDf : List Str := ["drafts", "core", "scope", "kept", "inside", "at", "number"]
def spDf (CD : Addr) : Sp := fun vs H Q _ => ∃ (X : Addr → Prop) (DL e : Addr) (ds : List V) (c : V) (ns : List Int) (b : Tr) (sc : Sc) (ss : List Src), vs = [.ref DL, c, .ref e] ∧ H DL = some (.lst ds) ∧ ds.length < 1000000 ∧ X DL ∧ (∀ q, X q → H q ≠ none) ∧ RT H c (.fn ns b) ∧ widT (.fn ns b) ∧ depT (.fn ns b) ≤ 900 ∧ szT (.fn ns b) ≤ 900000 ∧
  (outT (.fn ns b)).length ≤ 900000 ∧ SDk X H e sc ∧ ssOf sc (outT (.fn ns b)) = some ss ∧
  ∀ r x dx cb e' L G H', Fr (fun q => q = DL) H H' → H x = none → H L = none → H G = none → x ≠ L → x ≠ G → L ≠ G → H' DL = some (.lst (ds ++ [.ref x])) → H' x = some (.ins CD dx (dfl ns.length ns.length cb e' L G)) → H' L = some (.lst []) → H' G = some (.lst []) →
    RT H' cb b → SDk X H' e' (fnSc (.fn ns b)) → H e' = none → RDi H' r (.fn ds.length ss) → Q r H'
section
variable {P : Program} {w : World} {K : PySem.W.Frag} {mg : Str → Option Value} {base : Heap} {CD : Addr}
theorem scDf : FnScope NDf ["drafts", "core", "scope"] (defScope sDf) := ⟨rfl, rfl, rfl, by decide +kernel, rfl, by decide +kernel, by decide +kernel⟩
theorem ok_df {f fO fI : Addr} {fd dO dI : FuncData} (Fn : Fun K "draft_function" "draft_function" sDf f fd) (B : Blt mg) (B2 : Bl2 mg) (GO : Cal P w K mg base CX0 3 "outer_numbers" ["core"] spOut fO dO) (MD : MkC P w K mg base 1 "Draft" ["self", "parameters", "body", "scope"] (spDrI CD) CD fI dI) : FnOk P w K mg base CX0 4 f fd ["drafts", "core", "scope"] (spDf CD) := by
  refine Fn.ok scDf (fun vs H Q E h => ?_) (fun cdv A outer s H vs Q E hr h => ?_)
  · obtain ⟨X, DL, e, ds, c, ns, b, sc, ss, rfl, _⟩ := h
    rfl
  obtain ⟨X, DL, e, ds, c, ns, b, sc, ss, rfl, hDL, lds, XDL, dom, rt, wt, dt, zt, lo, sd, hss, q⟩ := h
  have nd := scDf.nd
  have hu := hu_of hr
  have r2 := hr.mono (show 2 ≤ 3 by decide)
  have wt0 := wt
  have rt0 := rt
  unfold widT at wt
  cases rt with
  | @fn a l y _ _ ha hl rb =>
  refine ⟨_, (pss_cons (ps_set (i := 3) nd rfl (Or.inl rfl) (pe_call GO.ok hr rfl GO.g GO.k GO.b .nil pass0 (pa_cons (pv 1) pa_nil)))
    (pss_cons (ps_setDc (i := 4) (own := [("at", 5), ("number", 6)]) (g := gTup K 2 (gCons (gName 5) (gCons (gName 6) gNil))) (tt := tYes) rfl nd rfl rfl (sw_trueD rfl rfl rfl (by decide +kernel)) (pi_enum (by rfl) B2.enumerate (pa_cons (pv 3) pa_nil)) (blkOk_by (N := NDf) (sc := defScope sDf) (by decide +kernel)) (fun _ _ _ _ _ => (pg_tup rfl (pgs_cons (pg_name (i := 5) nd rfl (Or.inl rfl) (hf := Or.inr rfl)) (pgs_cons (pg_name (i := 6) nd rfl (Or.inl rfl) (hf := Or.inr rfl)) pgs_nil)))) (fun _ _ _ _ _ => pts_nil) (fun _ _ _ _ _ => (pv 6)) (fun _ _ _ _ _ => (pe_tup (pa_cons pe_str (pa_cons (pv 5) pa_nil)))))
    (pss_cons (ps_for PassesOwn.never rfl (pi_enumT (by rfl) B2.enumerate (pa_cons (pe_ix (r := rIxT K) ix_tup (pv 1) pe_int (fun _ _ => rfl)) pa_nil)) (pg_tup rfl (pgs_cons (pg_name (i := 5) nd rfl (Or.inl rfl)) (pgs_cons (pg_name (i := 6) nd rfl (Or.inl rfl)) pgs_nil)))
      (pss_one (ps_dput hu (pv 4) (pv 6) (pe_tup (pa_cons pe_str (pa_cons (pv 5) pa_nil))) rfl)))
    (pss_cons (ps_expr (pe_bm PySem.F.plainAttrs_list PySem.F.slot_list_append PySem.F.type_list_append mt_append (pv 0) (pa_cons (pe_make (E := fun _ _ _ => False) MD.m MD.ok r2 rfl MD.g MD.b .nil pass0 (pa_cons (pe_callB call_len_seq (by rfl) B.len PySem.boot_len (pa_cons (pe_ix (r := rIxT K) ix_tup (pv 1) pe_int (fun _ _ => rfl)) pa_nil)) (pa_cons (pe_ix (r := rIxT K) ix_tup (pv 1) pe_int (fun _ _ => rfl)) (pa_cons (pv 4) pa_nil)))) pa_nil)))
    (pss_one (ps_ret (pe_tup (pa_cons pe_str (pa_cons (pe_op op_sub (pe_callB call_len_seq (by rfl) B.len PySem.boot_len (pa_cons (pv 0) pa_nil)) pe_int) (pa_cons (pe_callTy call_tuple_of (by rfl) B.tuple (by decide +kernel) (pa_cons (pe_lc (own := [("number", 6)]) (g := gName 6) (tt := tYes) rfl nd (pi_list (pv 3)) (blkOk_by (N := NDf) (sc := defScope sDf) (by decide +kernel)) (fun _ _ _ _ _ => (pg_name (i := 6) nd rfl (Or.inl rfl) (hf := Or.inr rfl))) (fun _ _ _ _ _ => pts_nil) (fun _ _ _ _ _ => (pe_dget hu (pv 2) (pv 6) (fun _ _ => rfl)))) pa_nil)) pa_nil)))))))))), ?_⟩
  refine ⟨_, rfl, _, (.fn ns b), rfl, rt0, wt0, dt, by omega, fun k H1 f1 hk hk1 => ?_⟩
  have hDL1 := f1.keep (fun z => z) rfl hDL
  have ha1 := f1.tup _ _ ha
  have hl1 := f1.tup _ _ hl
  have rb1 := rb.keep f1.tup
  generalize hkk : outT (.fn ns b) = kept at hk1 lo hss q ⊢
  refine ⟨_, rfl, k, _, rfl, SqL.of hk1, fun D hD => ?_⟩
  have fD : Fr No H1 (upd H1 D (.dK [])) := Fr.new hD
  refine dc_it (walk_enum (K := K) (a := k) (xs := kept.map V.int)) (fun i H' => ∃ lvs, H' D = some (.dK lvs) ∧ RSc H' lvs (kpSc 0 (kept.take i) []) ∧ Fr No H1 H') ⟨[], upd_same, by rw [List.take_zero]; exact .nil, fD⟩ (fun i H' _ ⟨_, _, _, g⟩ => SqL.of (g.keep (fun z => z) rfl hk1)) ?_ ?_
  · rintro i v H' H3 hi ⟨lvs, g1, g2, g3⟩ ⟨T, xx, yy, rfl, hT, rfl, exx, eyy⟩
    cases exx
    obtain ⟨n, hn, rfl⟩ := map_at eyy
    have il : i < kept.length := (List.getElem?_eq_some_iff.mp hn).1
    have fT : Fr No H' (upd H' T (.tup [.int (i : Nat), .int n])) := Fr.new hT
    have g1' := fT.keep (fun z => z) rfl g1
    refine ⟨T, _, rfl, SqT.of upd_same, rfl, _, _, rfl, ?_⟩
    refine ⟨_, _, rfl, rfl, rfl, ?_⟩
    generalize upd H' T (.tup [.int (i : Nat), .int n]) = H3 at fT g1' ⊢
    refine ⟨_, rfl, _, rfl, by show 2 ≤ sizeLine; decide, fun s1 hs1 => ?_⟩
    have fs : Fr No H3 (upd H3 s1 (.tup (srcV (.kept i)))) := Fr.new hs1
    have es : upd H3 s1 (.tup (srcV (.kept i))) s1 = some (.tup (srcV (.kept i))) := upd_same
    have g4 := fs.keep (fun z => z) rfl g1'
    have fN := (g3.trans fT).trans fs
    have ll : lvs.length < sizeLine := by
      rw [g2.len]
      have h1 := kpSc_len (kept.take i) 0 []
      rw [List.length_take] at h1
      exact Nat.lt_of_le_of_lt (show _ ≤ 900000 by simp only [List.length_nil] at h1; omega) (by decide)
    refine ⟨lvs, .inl n, rfl, g4, ll, putK lvs (.inl n) (.ref s1), upd_same, ?_, fN.mut hD g4 rfl⟩
    have fm : Fr (fun q => q = D) (upd H3 s1 (.tup (srcV (.kept i)))) (upd (upd H3 s1 (.tup (srcV (.kept i)))) D (.dK (putK lvs (.inl n) (.ref s1)))) := Fr.set rfl g4 rfl
    rw [take_more hn, kpSc_snoc, show 0 + (kept.take i).length = i by rw [List.length_take]; omega]
    exact (((g2.keep fT.tup).keep fs.tup).keep fm.tup).put ⟨s1, rfl, fm.tup _ _ es⟩
  rintro H2 ⟨lvs0, d2, r2', f2⟩
  rw [List.length_map, List.take_length] at r2'
  have hD0 : H D = none := f1.dom hD
  refine ⟨_, rfl, a, _, 1, _, rfl, rfl, SqT.of (f2.tup _ _ ha1), at1 _ _ _, l, _, rfl, SqT.of (f2.tup _ _ hl1), ?_⟩
  refine for_it (walk_enumT (K := K) (a := l) (xs := ns.map V.int)) (fun i σ H' => ∃ (v5 v6 : Option V) (lvs : List (Key × V)), σ = [some (.ref DL), some (.ref a), some (.ref e), some (.ref k), some (.ref D), v5, v6] ∧ H' D = some (.dK lvs) ∧ RSc H' lvs (letSc 0 (ns.take i) (kpSc 0 kept [])) ∧ Fr No H1 H')
    ⟨none, none, lvs0, rfl, d2, r2', f2⟩ (fun i σ H' _ ⟨_, _, _, _, _, _, g⟩ => SqT.of (g.tup _ _ hl1)) ?_ ?_
  · rintro i v σ H' H3 hi ⟨v5, v6, lvs, rfl, g1, g2, g3⟩ ⟨T, xx, yy, rfl, hT, rfl, exx, eyy⟩
    cases exx
    obtain ⟨n, hn, rfl⟩ := map_at eyy
    have il : i < ns.length := (List.getElem?_eq_some_iff.mp hn).1
    have fT : Fr No H' (upd H' T (.tup [.int (i : Nat), .int n])) := Fr.new hT
    have g1' := fT.keep (fun z => z) rfl g1
    refine ⟨T, _, rfl, SqT.of upd_same, rfl, _, _, rfl, ?_⟩
    refine ⟨_, _, rfl, rfl, ?_⟩
    generalize upd H' T (.tup [.int (i : Nat), .int n]) = H3 at fT g1' ⊢
    refine ⟨_, rfl, by show 2 ≤ sizeLine; decide, fun s1 hs1 => ?_⟩
    have fs : Fr No H3 (upd H3 s1 (.tup (srcV (.place i)))) := Fr.new hs1
    have es : upd H3 s1 (.tup (srcV (.place i))) s1 = some (.tup (srcV (.place i))) := upd_same
    have g4 := fs.keep (fun z => z) rfl g1'
    have fN := (g3.trans fT).trans fs
    have ll : lvs.length < sizeLine := by
      rw [g2.len]
      have h1 := letSc_len (ns.take i) 0 (kpSc 0 kept [])
      have h2 := kpSc_len kept 0 []
      rw [List.length_take] at h1
      exact Nat.lt_of_le_of_lt (show _ ≤ 901000 by simp only [List.length_nil] at h2; omega) (by decide)
    refine ⟨_, rfl, _, rfl, D, _, rfl, DPut.k (k := .inl n) g4 ll, ?_⟩
    have fm : Fr (fun q => q = D) (upd H3 s1 (.tup (srcV (.place i)))) (upd (upd H3 s1 (.tup (srcV (.place i)))) D (.dK (putK lvs (.inl n) (.ref s1)))) := Fr.set rfl g4 rfl
    refine ⟨_, _, putK lvs (.inl n) (.ref s1), rfl, upd_same, ?_, fN.mut hD g4 rfl⟩
    rw [take_more hn, letSc_snoc, show 0 + (ns.take i).length = i by rw [List.length_take]; omega]
    exact (((g2.keep fT.tup).keep fs.tup).keep fm.tup).put ⟨s1, rfl, fm.tup _ _ es⟩
  rintro σ H3 ⟨v5, v6, lvs, rfl, d3, r3, f3⟩
  rw [List.length_map, List.take_length] at r3
  have hDL3 := f3.keep (fun z => z) rfl hDL1
  have f03 := f1.trans f3
  refine ⟨_, rfl, .inl ⟨rfl, _, SqL.of hDL3⟩, _, rfl, a, _, 1, _, rfl, rfl, SqT.of (f3.tup _ _ ha1), at1 _ _ _, l, _, rfl, .inr (SqT.of (f3.tup _ _ hl1)), _, rfl, a, _, 2, _, rfl, rfl, SqT.of (f3.tup _ _ ha1), atI_nat (j := 2) rfl, _, rfl, ?_⟩
  refine fun x dx hx hdx ne => ⟨x, dx, D, ((ns.map V.int).length : Nat), y, rfl, upd_same, fun L G H5 hL hG nLG f5 e5L e5G e5x => ⟨rfl, ?_⟩⟩
  rw [List.length_map] at e5x
  have f35 : Fr No H3 H5 := (mk_fr hx hdx ne).drop f5 fun q z => by rw [z]; exact hx
  have f05 := f03.trans f35
  have hDL5 := f35.keep (fun z => z) rfl hDL3
  refine ⟨DL, ds, _, rfl, rfl, hDL5, Nat.lt_trans lds (by decide), ?_⟩
  have f6 : Fr (fun q => q = DL) H5 (upd H5 DL (.lst (ds ++ [.ref x]))) := Fr.set rfl hDL5 rfl
  have e6 : upd H5 DL (.lst (ds ++ [.ref x])) DL = some (.lst (ds ++ [.ref x])) := upd_same
  have nDL : ∀ {q : Addr}, H q = none → q ≠ DL := fun {q} z e => by rw [e, hDL] at z; cases z
  have hx0 : H x = none := f03.dom hx
  have hxx : ∀ {q : Addr}, (upd (upd H3 dx (.own x)) x (.ins CD dx [])) q = none → H q = none ∧ x ≠ q := fun {q} z => ⟨f03.dom ((mk_fr (X := No) hx hdx ne).dom z), fun e => by rw [← e, upd_same] at z; cases z⟩
  obtain ⟨hL0, nxL⟩ := hxx hL
  obtain ⟨hG0, nxG⟩ := hxx hG
  have f06 : Fr (fun q => q = DL) H (upd H5 DL (.lst (ds ++ [.ref x]))) := f05.no.trans f6
  have x6 : upd H5 DL (.lst (ds ++ [.ref x])) x = some (.ins CD dx (dfl ns.length ns.length y D L G)) := by rw [upd_ne (nDL hx0)]; exact e5x
  have L6 : upd H5 DL (.lst (ds ++ [.ref x])) L = some (.lst []) := by rw [upd_ne (nDL hL0)]; exact e5L
  have G6 : upd H5 DL (.lst (ds ++ [.ref x])) G = some (.lst []) := by rw [upd_ne (nDL hG0)]; exact e5G
  have k6 : upd H5 DL (.lst (ds ++ [.ref x])) k = some (.lst (kept.map V.int)) := by
    rw [upd_ne (nDL hk)]
    exact (f3.trans f35).keep (fun z => z) rfl hk1
  have d6 : upd H5 DL (.lst (ds ++ [.ref x])) D = some (.dK lvs) := by
    rw [upd_ne (nDL hD0)]
    exact f35.keep (fun z => z) rfl d3
  have r6 := (r3.keep f35.tup).keep f6.tup
  have rb6 := (rb1.keep (f3.trans f35).tup).keep f6.tup
  have sd6 := sd.fr (f06.wide fun q z => by rw [z]; exact XDL)
  have hDX : ¬ X D := fun z => dom D z hD0
  generalize upd H5 DL (.lst (ds ++ [.ref x])) = H6 at f6 e6 f06 x6 L6 G6 k6 d6 r6 rb6 sd6 ⊢
  obtain ⟨kv, s1, s2, s3, s4⟩ := sd6
  have en : (((ds ++ [V.ref x]).length : Nat) : Int) - 1 = (ds.length : Int) := by
    rw [List.length_append]
    show ((ds.length + 1 : Nat) : Int) - 1 = _
    omega
  refine ⟨_, rfl, DL, _, rfl, .inl (SqL.of e6), _, _, rfl, rfl, _, rfl, k, rfl, ⟨_, SqL.of k6⟩, fun D2 hD2 => ?_⟩
  have lss := ssOf_len hss
  refine lc_list (xs := kept.map V.int) (fun i H' => ∃ ws, H' D2 = some (.lst ws) ∧ RSs H' ws (ss.take i) ∧ ws.length = i ∧ Fr No H6 H') ⟨[], upd_same, by rw [List.take_zero]; exact .nil, rfl, Fr.new hD2⟩ (fun i H' _ ⟨_, _, _, _, g⟩ => SqL.of (g.keep (fun z => z) rfl k6)) ?_ ?_
  · rintro i y' H' hi ⟨ws, h1, h2, h3, h4⟩
    obtain ⟨n, hn, rfl⟩ := map_at hi
    have il : i < kept.length := (List.getElem?_eq_some_iff.mp hn).1
    obtain ⟨u, g1, g2⟩ := ssOf_get hss hn
    obtain ⟨v, v1, v2⟩ := s3.get g1
    have dg := DGet.k (k := (.inl n : Key)) (h4.keep (fun z => z) rfl s1)
    rw [v1] at dg
    have fm : Fr (fun q => q = D2) H' (upd H' D2 (.lst (ws ++ [v]))) := Fr.set rfl h1 rfl
    refine ⟨rfl, _, rfl, _, rfl, e, _, rfl, dg, ws, h1, Nat.lt_of_le_of_lt (show ws.length ≤ 900000 by omega) (by decide), ws ++ [v], upd_same, ?_, by simp [h3], h4.mut hD2 h1 rfl⟩
    rw [take_more g2]
    exact (h2.keep fm.tup).snoc ((v2.keep h4.tup).keep fm.tup)
  rintro H7 ⟨ws, h1, h2, h3, h4⟩
  rw [List.length_map, ← lss, List.take_length] at h2
  refine ⟨D2, ws, rfl, .inl ⟨SqL.of h1, fun q1 hq1 => ⟨by show 3 ≤ sizeLine; decide, fun r hr => ?_⟩⟩⟩
  have f8 : Fr No H7 (upd H7 q1 (.tup ws)) := Fr.new hq1
  have f9 : Fr No (upd H7 q1 (.tup ws)) (upd (upd H7 q1 (.tup ws)) r (.tup [.str "fn", .int (((ds ++ [V.ref x]).length : Nat) - 1), .ref q1])) := Fr.new hr
  have f89 := f8.trans f9
  have f69 := h4.trans f89
  refine q (.ref r) x dx y D L G _ (f06.trans f69.no) hx0 hL0 hG0 nxL nxG nLG (f69.keep (fun z => z) rfl e6) (f69.keep (fun z => z) rfl x6) (f69.keep (fun z => z) rfl L6) (f69.keep (fun z => z) rfl G6) (rb6.keep f69.tup) ⟨lvs, f69.keep (fun z => z) rfl d6, hDX, ?_, ?_⟩ hD0 (.fn (q := q1) (vs := ws) ?_ (f9.tup _ _ upd_same) (h2.keep f89.tup))
  · unfold fnSc
    rw [hkk]
    exact r6.keep f69.tup
  · unfold fnSc
    rw [hkk]
    have h1 := letSc_len ns 0 (kpSc 0 kept [])
    have h2 := kpSc_len kept 0 []
    show (letSc 0 ns (kpSc 0 kept [])).length ≤ 1000000
    simp only [List.length_nil] at h2
    omega
  · rw [← en]
    exact upd_same
end
end My
namespace My
open PySem PySem.Spec PyProof.Rows L2 TL
/-! ### final_instruction, final_code -/
def wordS : Src → Str
  | .place _ => "place"
  | .kept _ => "kept"
def wordD : DIn → Str
  | .int _ => "int" | .prim _ => "prim" | .glob _ _ => "global" | .src s => wordS s | .fn _ _ => "fn" | .put _ => "put" | .jump _ => "jump" | .unless _ => "unless" | .call _ => "call" | .tail _ => "tail" | .end_ => "end"
theorem RDi.head {H : Hp} {v : V} {d : DIn} (r : RDi H v d) : ∃ (a : Addr) (xs : List V), v = .ref a ∧ H a = some (.tup (.str (wordD d) :: xs)) := by
  cases r with
  | int h => exact ⟨_, _, rfl, h⟩
  | prim h => exact ⟨_, _, rfl, h⟩
  | glob h => exact ⟨_, _, rfl, h⟩
  | @src a s h =>
    cases s with
    | place n => exact ⟨_, _, rfl, h⟩
    | kept n => exact ⟨_, _, rfl, h⟩
  | fn h => exact ⟨_, _, rfl, h⟩
  | put h => exact ⟨_, _, rfl, h⟩
  | jump h => exact ⟨_, _, rfl, h⟩
  | «unless» h => exact ⟨_, _, rfl, h⟩
  | call h => exact ⟨_, _, rfl, h⟩
  | tail h => exact ⟨_, _, rfl, h⟩
  | end_ h => exact ⟨_, _, rfl, h⟩
def RTg (v : V) (o : Option Nat) : Prop := match o with
  | none => v = .non
  | some n => v = .int (n : Nat)
/-- the codes that are done -/
def CdR (H : Hp) (kvs : List (Key × V)) (cs : Nat → Option Code) : Prop := ∀ k c, cs k = some c → ∃ v, valV kvs (.inl (k : Int)) = some v ∧ RC H v c
def finI (tgs : List (Option Nat)) (cs : Nat → Option Code) : DIn → Option Ins
  | .int i => some (.int i)
  | .prim p => some (.prim p)
  | .glob m x => some (.glob m x)
  | .src s => some (.src s)
  | .fn k ss => (cs k).map fun c => .fn c ss
  | .put n => some (.put n)
  | .jump l => match tgs[l]? with | some (some n) => some (.jump n) | _ => none
  | .unless l => match tgs[l]? with | some (some n) => some (.unless n) | _ => none
  | .call n => some (.call n)
  | .tail n => some (.tail n)
  | .end_ => some .end_
theorem finI_fn (tgs : List (Option Nat)) (cs : Nat → Option Code) (k : Nat) (ss : List Src) : finI tgs cs (.fn k ss) = (cs k).map fun c => .fn c ss := rfl
theorem finI_jump (tgs : List (Option Nat)) (cs : Nat → Option Code) (l : Nat) : finI tgs cs (.jump l) = match tgs[l]? with | some (some n) => some (.jump n) | _ => none := rfl
theorem finI_unless (tgs : List (Option Nat)) (cs : Nat → Option Code) (l : Nat) : finI tgs cs (.unless l) = match tgs[l]? with | some (some n) => some (.unless n) | _ => none := rfl
abbrev sFi : Stmt := top 48
abbrev NFi : List Str := ["draft", "codes", "instruction", "word"]
def spFi (CD : Addr) : Sp := fun vs H Q _ => ∃ (x dx cd e L G : Addr) (p l : Int) (cb v : V) (gs : List V) (tgs : List (Option Nat)) (kvs : List (Key × V)) (cs : Nat → Option Code) (d : DIn) (i : Ins), vs = [.ref x, .ref cd, v] ∧ H x = some (.ins CD dx (dfl p l cb e L G)) ∧ H G = some (.lst gs) ∧ Als RTg gs tgs ∧
  H cd = some (.dK kvs) ∧ CdR H kvs cs ∧ RDi H v d ∧ finI tgs cs d = some i ∧ ∀ u H', Fr No H H' → RI H' u i → Q u H'
section
variable {P : Program} {w : World} {K : PySem.W.Frag} {mg : Str → Option Value} {base : Heap} {CD : Addr}
theorem scFi : FnScope NFi ["draft", "codes", "instruction"] (defScope sFi) := ⟨rfl, rfl, rfl, by decide +kernel, rfl, by decide +kernel, by decide +kernel⟩
theorem ok_fi {f : Addr} {fd : FuncData} (F : Fun K "final_instruction" "final_instruction" sFi f fd) (U : FldC K CD fD6) : FnOk P w K mg base CX0 1 f fd ["draft", "codes", "instruction"] (spFi CD) := by
  refine F.ok scFi (fun vs H Q E h => ?_) (fun cdv A outer s H vs Q E hr h => ?_)
  · obtain ⟨x, dx, cd, e, L, G, p, l, cb, v, gs, tgs, kvs, cs, d, i, rfl, _⟩ := h
    rfl
  obtain ⟨x, dx, cd, e, L, G, p, l, cb, v, gs, tgs, kvs, cs, d, i, rfl, hx, hG, rg, hcd, rc, rd, ei, q⟩ := h
  have nd := scFi.nd
  have hu := hu_of hr
  obtain ⟨a, xs, rfl, ha⟩ := rd.head
  refine ⟨_, (pss_cons (ps_set (i := 3) nd rfl (Or.inl rfl) (pe_ix (r := rIxT K) ix_tup (pv 2) pe_int (fun _ _ => rfl)))
    (pss_cons (ps_if (pt_cmpR op_eq (pv 3) pe_str (nomark _)) (pss_one (ps_ret (pe_tup (pa_cons pe_str (pa_cons (pe_dget hu (pv 1) (pe_ix (r := rIxT K) ix_tup (pv 2) pe_int (fun _ _ => rfl)) (fun _ _ => rfl)) (pa_cons (pe_ix (r := rIxT K) ix_tup (pv 2) pe_int (fun _ _ => rfl)) pa_nil)))))) pss_nil)
    (pss_cons (ps_if (pt_cmpR op_in_seq (pv 3) (pe_tup (pa_cons pe_str (pa_cons pe_str pa_nil))) (by rfl)) (pss_one (ps_ret (pe_tup (pa_cons (pv 3) (pa_cons (pe_ix (r := rIxL K) ix_list (pe_fld (pv 0) rfl) (pe_ix (r := rIxT K) ix_tup (pv 2) pe_int (fun _ _ => rfl)) (fun _ _ => rfl)) pa_nil))))) pss_nil)
    (pss_one (ps_ret (pv 2)))))), ?_⟩
  refine ⟨_, rfl, a, _, 0, _, rfl, rfl, SqT.of ha, at0 _ _, ?_⟩
  refine ev_eqs rfl ?_
  refine ite2 (fun c => ?_) (fun c => ?_)
  · have wf : wordD d = "fn" := of_decide_eq_true c
    cases rd with
    | @fn _ q0 k vs ss h hq rs =>
      rw [finI_fn] at ei
      cases hc : cs k with
      | none => rw [hc] at ei; cases ei
      | some c0 =>
      rw [hc] at ei
      cases ei
      obtain ⟨u, hu', ru⟩ := rc _ _ hc
      have dg := DGet.k (k := (.inl (k : Int) : Key)) hcd
      rw [hu'] at dg
      refine ⟨_, rfl, _, rfl, a, _, 1, _, rfl, rfl, SqT.of h, at1 _ _ _, cd, _, rfl, dg, _, rfl, a, _, 2, _, rfl, rfl, SqT.of h, atI_nat (j := 2) rfl, by show 3 ≤ sizeLine; decide, fun t ht => ?_⟩
      have f : Fr No H (upd H t (.tup [.str "fn", u, .ref q0])) := Fr.new ht
      exact q _ _ f (.fn upd_same (f.tup _ _ hq) (ru.keep f.tup) (rs.keep f.tup))
    | @src _ s h =>
      cases s with
      | place n => exact absurd wf (show ¬ ("place" : Str) = "fn" by decide +kernel)
      | kept n => exact absurd wf (show ¬ ("kept" : Str) = "fn" by decide +kernel)
    | int h => exact absurd wf (show ¬ ("int" : Str) = "fn" by decide +kernel)
    | prim h => exact absurd wf (show ¬ ("prim" : Str) = "fn" by decide +kernel)
    | glob h => exact absurd wf (show ¬ ("global" : Str) = "fn" by decide +kernel)
    | put h => exact absurd wf (show ¬ ("put" : Str) = "fn" by decide +kernel)
    | jump h => exact absurd wf (show ¬ ("jump" : Str) = "fn" by decide +kernel)
    | «unless» h => exact absurd wf (show ¬ ("unless" : Str) = "fn" by decide +kernel)
    | call h => exact absurd wf (show ¬ ("call" : Str) = "fn" by decide +kernel)
    | tail h => exact absurd wf (show ¬ ("tail" : Str) = "fn" by decide +kernel)
    | end_ h => exact absurd wf (show ¬ ("end" : Str) = "fn" by decide +kernel)
  have nf : ¬ wordD d = "fn" := fun z => c (decide_eq_true z)
  refine ⟨_, rfl, by show 2 ≤ sizeLine; decide, fun t ht => ⟨t, _, rfl, .inr (SqT.of upd_same), rfl, rfl, _, rfl, ?_⟩⟩
  have f1 : Fr No H (upd H t (.tup [.str "jump", .str "unless"])) := Fr.new ht
  have ein : inV (.str (wordD d)) [.str "jump", .str "unless"] = decide (wordD d ∈ (["jump", "unless"] : List Str)) := inV_strs (wordD d) ["jump", "unless"]
  rw [if_neg Bool.false_ne_true, ein]
  have hx1 := f1.keep (fun z => z) rfl hx
  have hG1 := f1.keep (fun z => z) rfl hG
  have rd1 := rd.keep f1.tup
  generalize upd H t (.tup [.str "jump", .str "unless"]) = H1 at f1 hx1 hG1 rd1 ⊢
  refine ite2 (fun c2 => ?_) (fun c2 => ?_)
  · have m : wordD d ∈ (["jump", "unless"] : List Str) := of_decide_eq_true c2
    have jmp : ∀ (lb n : Nat), tgs[lb]? = some (some n) → ∃ v, gs[lb]? = some v ∧ v = .int (n : Nat) := fun lb n hl => by
      have lt : lb < gs.length := by rw [rg.len]; exact (List.getElem?_eq_some_iff.mp hl).1
      obtain ⟨o, h1, h2⟩ := rg.get (List.getElem?_eq_getElem lt)
      rw [hl] at h1
      cases h1
      exact ⟨_, List.getElem?_eq_getElem lt, h2⟩
    cases rd1 with
    | @jump _ lb h =>
      rw [finI_jump] at ei
      cases hl : tgs[lb]? with
      | none => rw [hl] at ei; cases ei
      | some o =>
      cases o with
      | none => rw [hl] at ei; cases ei
      | some n =>
      rw [hl] at ei
      cases ei
      obtain ⟨v, hv, rfl⟩ := jmp lb n hl
      refine ⟨_, rfl, _, rfl, x, CD, dx, _, _, rfl, hx1, U.c, U.n _ (by simp), rfl, _, rfl, a, _, 1, _, rfl, rfl, SqT.of h, at1 _ _ _, G, _, _, _, rfl, rfl, SqL.of hG1, atI_nat hv, by show 2 ≤ sizeLine; decide, fun r hr' => ?_⟩
      exact q _ _ (f1.trans (Fr.new hr')) (.jump upd_same)
    | @«unless» _ lb h =>
      rw [finI_unless] at ei
      cases hl : tgs[lb]? with
      | none => rw [hl] at ei; cases ei
      | some o =>
      cases o with
      | none => rw [hl] at ei; cases ei
      | some n =>
      rw [hl] at ei
      cases ei
      obtain ⟨v, hv, rfl⟩ := jmp lb n hl
      refine ⟨_, rfl, _, rfl, x, CD, dx, _, _, rfl, hx1, U.c, U.n _ (by simp), rfl, _, rfl, a, _, 1, _, rfl, rfl, SqT.of h, at1 _ _ _, G, _, _, _, rfl, rfl, SqL.of hG1, atI_nat hv, by show 2 ≤ sizeLine; decide, fun r hr' => ?_⟩
      exact q _ _ (f1.trans (Fr.new hr')) (.unless upd_same)
    | @src _ s h =>
      cases s with
      | place n => exact absurd m (show ¬ ("place" : Str) ∈ (["jump", "unless"] : List Str) by decide +kernel)
      | kept n => exact absurd m (show ¬ ("kept" : Str) ∈ (["jump", "unless"] : List Str) by decide +kernel)
    | int h => exact absurd m (show ¬ ("int" : Str) ∈ (["jump", "unless"] : List Str) by decide +kernel)
    | prim h => exact absurd m (show ¬ ("prim" : Str) ∈ (["jump", "unless"] : List Str) by decide +kernel)
    | glob h => exact absurd m (show ¬ ("global" : Str) ∈ (["jump", "unless"] : List Str) by decide +kernel)
    | fn h hq rs => exact absurd m (show ¬ ("fn" : Str) ∈ (["jump", "unless"] : List Str) by decide +kernel)
    | put h => exact absurd m (show ¬ ("put" : Str) ∈ (["jump", "unless"] : List Str) by decide +kernel)
    | call h => exact absurd m (show ¬ ("call" : Str) ∈ (["jump", "unless"] : List Str) by decide +kernel)
    | tail h => exact absurd m (show ¬ ("tail" : Str) ∈ (["jump", "unless"] : List Str) by decide +kernel)
    | end_ h => exact absurd m (show ¬ ("end" : Str) ∈ (["jump", "unless"] : List Str) by decide +kernel)
  have nm : ¬ wordD d ∈ (["jump", "unless"] : List Str) := fun z => c2 (decide_eq_true z)
  refine ⟨_, rfl, ?_⟩
  cases rd1 with
  | int h => cases ei; exact q _ _ f1 (.int h)
  | prim h => cases ei; exact q _ _ f1 (.prim h)
  | glob h => cases ei; exact q _ _ f1 (.glob h)
  | src h => cases ei; exact q _ _ f1 (.src h)
  | put h => cases ei; exact q _ _ f1 (.put h)
  | call h => cases ei; exact q _ _ f1 (.call h)
  | tail h => cases ei; exact q _ _ f1 (.tail h)
  | end_ h => cases ei; exact q _ _ f1 (.end_ h)
  | fn h hq rs => exact absurd rfl nf
  | jump h => exact absurd List.mem_cons_self nm
  | «unless» h => exact absurd (List.mem_cons_of_mem _ List.mem_cons_self) nm
end
end My
namespace My
open PySem PySem.Spec PyProof.Rows L2 TL
/-! ### if_pieces -/
def ifP (a b c : Tr) (sc : Sc) (last : Bool) (n : Nat) : List Pc :=
  if last = true then [.tree a sc false, .write (.unless n), .tree b sc true, .label n, .tree c sc true]
  else [.tree a sc false, .write (.unless n), .tree b sc false, .write (.jump (n + 1)), .label n, .tree c sc false, .label (n + 1)]
def ifG {α : Type} (last : Bool) (gs : List α) (x : α) : List α := if last = true then gs ++ [x] else gs ++ [x] ++ [x]
abbrev sIf : Stmt := top 44
abbrev NIf : List Str := ["draft", "core", "scope", "last", "no", "pieces", "other", "behind"]
def spIf (CD : Addr) : Sp := fun vs H Q _ => ∃ (X : Addr → Prop) (x dx e e0 L G : Addr) (p l : Int) (cb c : V) (a b d : Tr) (gs : List V) (sc : Sc) (last : Bool), vs = [.ref x, c, .ref e, .bl last] ∧ H x = some (.ins CD dx (dfl p l cb e0 L G)) ∧ H G = some (.lst gs) ∧ gs.length ≤ 900000 ∧ X G ∧
  RT H c (.if_ a b d) ∧ widT (.if_ a b d) ∧ SDk X H e sc ∧
  ∀ o us H', Fr (fun q => q = G) H H' → H' G = some (.lst (ifG last gs .non)) → H o = none → H' o = some (.lst us) → Als (RPc X H') us (ifP a b d sc last gs.length) → Q (.ref o) H'
section
variable {P : Program} {w : World} {K : PySem.W.Frag} {mg : Str → Option Value} {base : Heap} {CD : Addr}
theorem scIf : FnScope NIf ["draft", "core", "scope", "last"] (defScope sIf) := ⟨rfl, rfl, rfl, by decide +kernel, rfl, by decide +kernel, by decide +kernel⟩
theorem ok_if {f fL : Addr} {fd dL : FuncData} (Fn : Fun K "if_pieces" "if_pieces" sIf f fd) (B : Blt mg) (ML : MCal P w K mg base CX0 1 CD "new_label" ["self"] (spDrL CD) fL dL) : FnOk P w K mg base CX0 2 f fd ["draft", "core", "scope", "last"] (spIf CD) := by
  refine Fn.ok scIf (fun vs H Q E h => ?_) (fun cdv A outer s H vs Q E hr h => ?_)
  · obtain ⟨X, x, dx, e, e0, L, G, p, l, cb, c, a, b, d, gs, sc, last, rfl, _⟩ := h
    rfl
  obtain ⟨X, x, dx, e, e0, L, G, p, l, cb, c, a1, b1, d1, gs, sc, last, rfl, hx, hG, lg, XG, rt, wt, sd, q⟩ := h
  have nd := scIf.nd
  have hu := hu_of hr
  unfold widT at wt
  obtain ⟨w1, w2, w3⟩ := wt
  cases rt with
  | @if_ a y1 y2 y3 _ _ _ ha r1 r2 r3 =>
  refine ⟨_, (pss_cons (ps_set (i := 4) nd rfl (Or.inl rfl) (pe_meth0 (pv 0) ML.c ML.m ML.ok hr ML.b .nil pass0))
    (pss_cons (ps_set (i := 5) nd rfl (Or.inl rfl) (pe_lst (pa_cons (pe_tup (pa_cons pe_str (pa_cons (pe_ix (r := rIxT K) ix_tup (pv 1) pe_int (fun _ _ => rfl)) (pa_cons (pv 2) (pa_cons pe_bl pa_nil))))) (pa_cons (pe_tup (pa_cons pe_str (pa_cons (pe_tup (pa_cons pe_str (pa_cons (pv 4) pa_nil))) pa_nil))) (pa_cons (pe_tup (pa_cons pe_str (pa_cons (pe_ix (r := rIxT K) ix_tup (pv 1) pe_int (fun _ _ => rfl)) (pa_cons (pv 2) (pa_cons (pv 3) pa_nil))))) pa_nil)))))
    (pss_cons (ps_set (i := 6) nd rfl (Or.inl rfl) (pe_lst (pa_cons (pe_tup (pa_cons pe_str (pa_cons (pv 4) pa_nil))) (pa_cons (pe_tup (pa_cons pe_str (pa_cons (pe_ix (r := rIxT K) ix_tup (pv 1) pe_int (fun _ _ => rfl)) (pa_cons (pv 2) (pa_cons (pv 3) pa_nil))))) pa_nil))))
    (pss_cons (ps_if (pt_val (pv 3)) (pss_one (ps_ret (pe_op op_cat (pv 5) (pv 6)))) pss_nil)
    (pss_cons (ps_set (i := 7) nd rfl (Or.inl rfl) (pe_meth0 (pv 0) ML.c ML.m ML.ok hr ML.b .nil pass0))
    (pss_one (ps_ret (pe_lst (StX.pa_star (pv 5) (pa_cons (pe_tup (pa_cons pe_str (pa_cons (pe_tup (pa_cons pe_str (pa_cons (pv 7) pa_nil))) pa_nil))) (StX.pa_star (pv 6) (pa_cons (pe_tup (pa_cons pe_str (pa_cons (pv 7) pa_nil))) pa_nil)))))))))))), ?_⟩
  refine ⟨_, rfl, x, dx, _, rfl, hx, rfl, x, dx, e0, L, G, p, l, cb, gs, rfl, hx, hG, Nat.le_trans lg (by decide), ?_⟩
  have fG : Fr (fun q => q = G) H (upd H G (.lst (gs ++ [.non]))) := Fr.set rfl hG rfl
  have nx : x ≠ G := ne_of hx hG fun z => by cases z
  have g1 : upd H G (.lst (gs ++ [.non])) G = some (.lst (gs ++ [.non])) := upd_same
  have hx1 : upd H G (.lst (gs ++ [.non])) x = some (.ins CD dx (dfl p l cb e0 L G)) := by rw [upd_ne nx]; exact hx
  have ha1 := fG.tup _ _ ha
  have r1 := r1.keep fG.tup
  have r2 := r2.keep fG.tup
  have r3 := r3.keep fG.tup
  have sd1 := sd.fr (fG.wide fun q z => by rw [z]; exact XG)
  generalize upd H G (.lst (gs ++ [.non])) = H1 at fG g1 hx1 ha1 r1 r2 r3 sd1 ⊢
  refine ⟨_, rfl, a, _, 1, _, rfl, rfl, SqT.of ha1, at1 _ _ _, _, rfl, by show 4 ≤ sizeLine; decide, fun s1 hs1 => ⟨_, rfl, by show 2 ≤ sizeLine; decide, fun s2 hs2 => ⟨by show 2 ≤ sizeLine; decide, fun s3 hs3 => ?_⟩⟩⟩
  have f1 := Fr.new (X := No) (o := .tup [.str "tree", y1, .ref e, .bl false]) hs1
  have f2 := Fr.new (X := No) (o := .tup [.str "unless", .int (gs.length : Nat)]) hs2
  have f3 := Fr.new (X := No) (o := .tup [.str "write", .ref s2]) hs3
  have k3 := f1.trans (f2.trans f3)
  refine ⟨_, rfl, a, _, 2, _, rfl, rfl, SqT.of (k3.tup _ _ ha1), atI_nat (j := 2) rfl, _, rfl, _, rfl, by show 4 ≤ sizeLine; decide, fun s4 hs4 => ⟨by show 3 ≤ sizeLine; decide, fun o1 ho1 => ?_⟩⟩
  have f4 := Fr.new (X := No) (o := .tup [.str "tree", y2, .ref e, .bl last]) hs4
  have f5 := Fr.new (X := No) (o := .lst [V.ref s1, .ref s3, .ref s4]) ho1
  have k5 := k3.trans (f4.trans f5)
  have e1 := (f2.trans (f3.trans (f4.trans f5))).tup _ _ upd_same
  have e2 := (f3.trans (f4.trans f5)).tup _ _ upd_same
  have e3 := (f4.trans f5).tup _ _ upd_same
  have e4 := f5.tup _ _ upd_same
  have eo1 : (upd (upd (upd (upd (upd H1 s1 (.tup [.str "tree", y1, .ref e, .bl false])) s2 (.tup [.str "unless", .int (gs.length : Nat)])) s3 (.tup [.str "write", .ref s2])) s4 (.tup [.str "tree", y2, .ref e, .bl last])) o1 (.lst [V.ref s1, .ref s3, .ref s4])) o1 = some (.lst [V.ref s1, .ref s3, .ref s4]) := upd_same
  have ho1' := (f1.trans (f2.trans (f3.trans f4))).dom ho1
  generalize (upd (upd (upd (upd (upd H1 s1 (.tup [.str "tree", y1, .ref e, .bl false])) s2 (.tup [.str "unless", .int (gs.length : Nat)])) s3 (.tup [.str "write", .ref s2])) s4 (.tup [.str "tree", y2, .ref e, .bl last])) o1 (.lst [V.ref s1, .ref s3, .ref s4])) = H2 at k5 e1 e2 e3 e4 eo1 ⊢
  refine ⟨_, rfl, by show 2 ≤ sizeLine; decide, fun s5 hs5 => ⟨_, rfl, a, _, 3, _, rfl, rfl, SqT.of ((Fr.new (X := No) hs5).tup _ _ (k5.tup _ _ ha1)), atI_nat (j := 3) rfl, _, rfl, _, rfl, by show 4 ≤ sizeLine; decide, fun s6 hs6 => ⟨by show 2 ≤ sizeLine; decide, fun o2 ho2 => ?_⟩⟩⟩
  have f6 := Fr.new (X := No) (o := .tup [.str "label", .int (gs.length : Nat)]) hs5
  have f7 := Fr.new (X := No) (o := .tup [.str "tree", y3, .ref e, .bl last]) hs6
  have f8 := Fr.new (X := No) (o := .lst [V.ref s5, .ref s6]) ho2
  have k8 := f6.trans (f7.trans f8)
  have e5 := (f7.trans f8).tup _ _ upd_same
  have e6 := f8.tup _ _ upd_same
  have eo2 : (upd (upd (upd H2 s5 (.tup [.str "label", .int (gs.length : Nat)])) s6 (.tup [.str "tree", y3, .ref e, .bl last])) o2 (.lst [V.ref s5, .ref s6])) o2 = some (.lst [V.ref s5, .ref s6]) := upd_same
  generalize (upd (upd (upd H2 s5 (.tup [.str "label", .int (gs.length : Nat)])) s6 (.tup [.str "tree", y3, .ref e, .bl last])) o2 (.lst [V.ref s5, .ref s6])) = H3 at k8 e5 e6 eo2 ⊢
  have kk := k5.trans k8
  have e1 := k8.tup _ _ e1
  have e2 := k8.tup _ _ e2
  have e3 := k8.tup _ _ e3
  have e4 := k8.tup _ _ e4
  have eo1 := k8.keep (fun z => z) rfl eo1
  have g3 := kk.keep (fun z => z) rfl g1
  have hx3 := kk.keep (fun z => z) rfl hx1
  have ha3 := kk.tup _ _ ha1
  have r1 := r1.keep kk.tup
  have r2 := r2.keep kk.tup
  have r3 := r3.keep kk.tup
  have sd3 := sd1.fr kk.no
  refine ⟨_, rfl, last, rfl, ?_⟩
  unfold ifP ifG at q
  cases last with
  | true =>
    refine iteT ?_
    refine ⟨_, rfl, _, rfl, o1, o2, _, _, rfl, rfl, eo1, eo2, by show 5 ≤ sizeLine; decide, fun o3 ho3 => ?_⟩
    have fz := Fr.new (X := No) (o := .lst ([V.ref s1, .ref s3, .ref s4] ++ [.ref s5, .ref s6])) ho3
    refine q o3 _ _ ((fG.trans kk.no).trans fz.no) (fz.keep (fun z => z) rfl g3) (fG.dom (kk.dom ho3)) upd_same ?_
    have sz := sd3.fr fz.no
    exact .cons (.tree (fz.tup _ _ e1) (r1.keep fz.tup) w1 sz) (.cons (.write (fz.tup _ _ e3) (.unless (fz.tup _ _ e2))) (.cons (.tree (fz.tup _ _ e4) (r2.keep fz.tup) w2 sz) (.cons (.label (fz.tup _ _ e5)) (.cons (.tree (fz.tup _ _ e6) (r3.keep fz.tup) w3 sz) .nil))))
  | false =>
    refine iteF ?_
    refine ⟨_, rfl, x, dx, _, rfl, hx3, rfl, x, dx, e0, L, G, p, l, cb, _, rfl, hx3, g3, by rw [List.length_append]; exact Nat.le_trans (Nat.add_le_add_right lg 1) (by decide), ?_⟩
    have fH : Fr (fun q => q = G) H3 (upd H3 G (.lst (gs ++ [.non] ++ [.non]))) := Fr.set rfl g3 rfl
    have g4 : upd H3 G (.lst (gs ++ [.non] ++ [.non])) G = some (.lst (gs ++ [.non] ++ [.non])) := upd_same
    have nG1 : o1 ≠ G := fun z => by rw [z] at ho1'; rw [g1] at ho1'; cases ho1'
    have ho2' : H1 o2 = none := k5.dom ((f6.trans f7).dom ho2)
    have nG2 : o2 ≠ G := fun z => by rw [z] at ho2'; rw [g1] at ho2'; cases ho2'
    have eo1 : upd H3 G (.lst (gs ++ [.non] ++ [.non])) o1 = _ := (upd_ne nG1).trans eo1
    have eo2 : upd H3 G (.lst (gs ++ [.non] ++ [.non])) o2 = _ := (upd_ne nG2).trans eo2
    have len : ((gs ++ [V.non]).length : Nat) = gs.length + 1 := by rw [List.length_append]; rfl
    rw [len]
    have sd4 := sd3.fr (fH.wide fun q z => by rw [z]; exact XG)
    generalize upd H3 G (.lst (gs ++ [.non] ++ [.non])) = H4 at fH g4 eo1 eo2 sd4 ⊢
    refine ⟨_, rfl, o1, _, rfl, .inr (SqL.of eo1), _, rfl, by show 2 ≤ sizeLine; decide, fun s7 hs7 => ⟨by show 2 ≤ sizeLine; decide, fun s8 hs8 => ?_⟩⟩
    have f7 := Fr.new (X := No) (o := .tup [.str "jump", .int ((gs.length + 1 : Nat))]) hs7
    have f8 := Fr.new (X := No) (o := .tup [.str "write", .ref s7]) hs8
    have k8 := f7.trans f8
    refine ⟨_, rfl, o2, _, rfl, .inr (SqL.of (k8.keep (fun z => z) rfl eo2)), _, rfl, by show 2 ≤ sizeLine; decide, fun s9 hs9 => ⟨by show 7 ≤ sizeLine; decide, fun o3 ho3 => ?_⟩⟩
    have f9 := Fr.new (X := No) (o := .tup [.str "label", .int ((gs.length + 1 : Nat))]) hs9
    have fz := Fr.new (X := No) (o := .lst ([V.ref s1, .ref s3, .ref s4] ++ .ref s8 :: ([V.ref s5, .ref s6] ++ [.ref s9]))) ho3
    have kz := k8.trans (f9.trans fz)
    have e7 := (f8.trans (f9.trans fz)).tup _ _ upd_same
    have e8 := (f9.trans fz).tup _ _ upd_same
    have e9 := fz.tup _ _ upd_same
    have g5 := kz.keep (fun z => z) rfl g4
    have fq := ((fG.trans kk.no).trans fH).trans kz.no
    refine q o3 _ _ fq g5 (fG.dom (kk.dom (fH.dom ((k8.trans f9).dom ho3)))) upd_same ?_
    have sz := sd4.fr kz.no
    have t := fH.tup.trans kz.tup
    exact .cons (.tree (t _ _ e1) (r1.keep t) w1 sz) (.cons (.write (t _ _ e3) (.unless (t _ _ e2))) (.cons (.tree (t _ _ e4) (r2.keep t) w2 sz) (.cons (.write e8 (.jump e7)) (.cons (.label (t _ _ e5)) (.cons (.tree (t _ _ e6) (r3.keep t) w3 sz) (.cons (.label e9) .nil))))))
end
end My
namespace My
open PySem PySem.Spec PyProof.Rows L2 TL
/-! ### tree_pieces -/
abbrev sTp : Stmt := top 46
abbrev NTp : List Str := ["drafts", "draft", "core", "scope", "last", "word"]
/-- what each kind of tree asks -/
def tpK (CD DL x e : Addr) (c : V) (last : Bool) (H : Hp) (Q : VK) (E : XK) : Tr → Prop
  | .let_ _ _ _ => spLet CD [.ref x, c, .ref e, .bl last] H Q E
  | .call _ _ => spCp [c, .ref e, .bl last] H Q E
  | .fn _ _ => spDf CD [.ref DL, c, .ref e] H (fun v H1 => spLea [v, .bl last] H1 Q E) E
  | .loc n => ∃ (X : Addr → Prop) (sc : Sc) (s : Src), SDk X H e sc ∧ scGet n sc = some s ∧ ∀ v, RSr H v s → spLea [v, .bl last] H Q E
  | .if_ _ _ _ => spIf CD [.ref x, c, .ref e, .bl last] H Q E
  | _ => spLea [c, .bl last] H Q E
def spTp (CD : Addr) : Sp := fun vs H Q E => ∃ (DL x e : Addr) (c : V) (t : Tr) (last : Bool), vs = [.ref DL, .ref x, c, .ref e, .bl last] ∧ RT H c t ∧ tpK CD DL x e c last H Q E t
section
variable {P : Program} {w : World} {K : PySem.W.Frag} {mg : Str → Option Value} {base : Heap} {CD : Addr}
theorem scTp : FnScope NTp ["drafts", "draft", "core", "scope", "last"] (defScope sTp) := ⟨rfl, rfl, rfl, by decide +kernel, rfl, by decide +kernel, by decide +kernel⟩
theorem ok_tp {f fL fI fC fD fE : Addr} {fd dL dI dC dD dE : FuncData} (Fn : Fun K "tree_pieces" "tree_pieces" sTp f fd) (GL : Cal P w K mg base CX0 2 "let_pieces" ["draft", "core", "scope", "last"] (spLet CD) fL dL) (GI : Cal P w K mg base CX0 2 "if_pieces" ["draft", "core", "scope", "last"] (spIf CD) fI dI)
    (GC : Cal P w K mg base CX0 1 "call_pieces" ["core", "scope", "last"] spCp fC dC) (GD : Cal P w K mg base CX0 4 "draft_function" ["drafts", "core", "scope"] (spDf CD) fD dD) (GE : Cal P w K mg base CX0 1 "leaf_pieces" ["instruction", "last"] spLea fE dE) : FnOk P w K mg base CX0 5 f fd ["drafts", "draft", "core", "scope", "last"] (spTp CD) := by
  refine Fn.ok scTp (fun vs H Q E h => ?_) (fun cdv A outer s H vs Q E hr h => ?_)
  · obtain ⟨DL, x, e, c, t, last, rfl, _⟩ := h
    rfl
  obtain ⟨DL, x, e, c, t, last, rfl, rt, q⟩ := h
  have nd := scTp.nd
  have hu := hu_of hr
  have r2 := hr.mono (show 2 ≤ 4 by decide)
  have r1 := hr.mono (show 1 ≤ 4 by decide)
  refine ⟨_, (pss_cons (ps_set (i := 5) nd rfl (Or.inl rfl) (pe_ix (r := rIxT K) ix_tup (pv 2) pe_int (fun _ _ => rfl)))
    (pss_cons (ps_if (pt_cmpR op_eq (pv 5) pe_str (nomark _)) (pss_one (ps_ret (pe_call GL.ok r2 rfl GL.g GL.k GL.b .nil pass0 (pa_cons (pv 1) (pa_cons (pv 2) (pa_cons (pv 3) (pa_cons (pv 4) pa_nil))))))) pss_nil)
    (pss_cons (ps_if (pt_cmpR op_eq (pv 5) pe_str (nomark _)) (pss_one (ps_ret (pe_call GI.ok r2 rfl GI.g GI.k GI.b .nil pass0 (pa_cons (pv 1) (pa_cons (pv 2) (pa_cons (pv 3) (pa_cons (pv 4) pa_nil))))))) pss_nil)
    (pss_cons (ps_if (pt_cmpR op_eq (pv 5) pe_str (nomark _)) (pss_one (ps_ret (pe_call GC.ok r1 rfl GC.g GC.k GC.b .nil pass0 (pa_cons (pv 2) (pa_cons (pv 3) (pa_cons (pv 4) pa_nil)))))) pss_nil)
    (pss_cons (ps_if (pt_cmpR op_eq (pv 5) pe_str (nomark _)) (pss_one (ps_ret (pe_call GE.ok r1 rfl GE.g GE.k GE.b .nil pass0 (pa_cons (pe_call GD.ok hr rfl GD.g GD.k GD.b .nil pass0 (pa_cons (pv 0) (pa_cons (pv 2) (pa_cons (pv 3) pa_nil)))) (pa_cons (pv 4) pa_nil))))) pss_nil)
    (pss_cons (ps_if (pt_cmpR op_eq (pv 5) pe_str (nomark _)) (pss_one (ps_ret (pe_call GE.ok r1 rfl GE.g GE.k GE.b .nil pass0 (pa_cons (pe_dget hu (pv 3) (pe_ix (r := rIxT K) ix_tup (pv 2) pe_int (fun _ _ => rfl)) (fun _ _ => rfl)) (pa_cons (pv 4) pa_nil))))) pss_nil)
    (pss_one (ps_ret (pe_call GE.ok r1 rfl GE.g GE.k GE.b .nil pass0 (pa_cons (pv 2) (pa_cons (pv 4) pa_nil))))))))))), ?_⟩
  cases rt with
  | @int a i h =>
    refine ⟨_, rfl, a, _, 0, _, rfl, rfl, SqT.of h, at0 _ _, ?_⟩
    refine ev_eqs rfl ?_
    refine ite2 (fun c => absurd (of_decide_eq_true c) (show ¬ ("int" : Str) = "let" by decide +kernel)) (fun _ => ?_)
    refine ev_eqs rfl ?_
    refine ite2 (fun c => absurd (of_decide_eq_true c) (show ¬ ("int" : Str) = "if" by decide +kernel)) (fun _ => ?_)
    refine ev_eqs rfl ?_
    refine ite2 (fun c => absurd (of_decide_eq_true c) (show ¬ ("int" : Str) = "call" by decide +kernel)) (fun _ => ?_)
    refine ev_eqs rfl ?_
    refine ite2 (fun c => absurd (of_decide_eq_true c) (show ¬ ("int" : Str) = "fn" by decide +kernel)) (fun _ => ?_)
    refine ev_eqs rfl ?_
    refine ite2 (fun c => absurd (of_decide_eq_true c) (show ¬ ("int" : Str) = "local" by decide +kernel)) (fun _ => ?_)
    exact ⟨_, rfl, _, rfl, q⟩
  | @prim a p h =>
    refine ⟨_, rfl, a, _, 0, _, rfl, rfl, SqT.of h, at0 _ _, ?_⟩
    refine ev_eqs rfl ?_
    refine ite2 (fun c => absurd (of_decide_eq_true c) (show ¬ ("prim" : Str) = "let" by decide +kernel)) (fun _ => ?_)
    refine ev_eqs rfl ?_
    refine ite2 (fun c => absurd (of_decide_eq_true c) (show ¬ ("prim" : Str) = "if" by decide +kernel)) (fun _ => ?_)
    refine ev_eqs rfl ?_
    refine ite2 (fun c => absurd (of_decide_eq_true c) (show ¬ ("prim" : Str) = "call" by decide +kernel)) (fun _ => ?_)
    refine ev_eqs rfl ?_
    refine ite2 (fun c => absurd (of_decide_eq_true c) (show ¬ ("prim" : Str) = "fn" by decide +kernel)) (fun _ => ?_)
    refine ev_eqs rfl ?_
    refine ite2 (fun c => absurd (of_decide_eq_true c) (show ¬ ("prim" : Str) = "local" by decide +kernel)) (fun _ => ?_)
    exact ⟨_, rfl, _, rfl, q⟩
  | @glob a m y h =>
    refine ⟨_, rfl, a, _, 0, _, rfl, rfl, SqT.of h, at0 _ _, ?_⟩
    refine ev_eqs rfl ?_
    refine ite2 (fun c => absurd (of_decide_eq_true c) (show ¬ ("global" : Str) = "let" by decide +kernel)) (fun _ => ?_)
    refine ev_eqs rfl ?_
    refine ite2 (fun c => absurd (of_decide_eq_true c) (show ¬ ("global" : Str) = "if" by decide +kernel)) (fun _ => ?_)
    refine ev_eqs rfl ?_
    refine ite2 (fun c => absurd (of_decide_eq_true c) (show ¬ ("global" : Str) = "call" by decide +kernel)) (fun _ => ?_)
    refine ev_eqs rfl ?_
    refine ite2 (fun c => absurd (of_decide_eq_true c) (show ¬ ("global" : Str) = "fn" by decide +kernel)) (fun _ => ?_)
    refine ev_eqs rfl ?_
    refine ite2 (fun c => absurd (of_decide_eq_true c) (show ¬ ("global" : Str) = "local" by decide +kernel)) (fun _ => ?_)
    exact ⟨_, rfl, _, rfl, q⟩
  | @let_ a l v vs ns ts b h hq rp r =>
    refine ⟨_, rfl, a, _, 0, _, rfl, rfl, SqT.of h, at0 _ _, ?_⟩
    refine ev_eqs rfl ?_
    refine ite2 (fun _ => ?_) (fun c => absurd (decide_eq_true (show ("let" : Str) = "let" from rfl)) c)
    exact ⟨_, rfl, _, rfl, _, rfl, _, rfl, q⟩
  | @if_ a y1 y2 y3 p1 p2 p3 h ry1 ry2 ry3 =>
    refine ⟨_, rfl, a, _, 0, _, rfl, rfl, SqT.of h, at0 _ _, ?_⟩
    refine ev_eqs rfl ?_
    refine ite2 (fun c => absurd (of_decide_eq_true c) (show ¬ ("if" : Str) = "let" by decide +kernel)) (fun _ => ?_)
    refine ev_eqs rfl ?_
    refine ite2 (fun _ => ?_) (fun c => absurd (decide_eq_true (show ("if" : Str) = "if" from rfl)) c)
    exact ⟨_, rfl, _, rfl, _, rfl, _, rfl, q⟩
  | @call a l v vs g ts h hq rf rs =>
    refine ⟨_, rfl, a, _, 0, _, rfl, rfl, SqT.of h, at0 _ _, ?_⟩
    refine ev_eqs rfl ?_
    refine ite2 (fun c => absurd (of_decide_eq_true c) (show ¬ ("call" : Str) = "let" by decide +kernel)) (fun _ => ?_)
    refine ev_eqs rfl ?_
    refine ite2 (fun c => absurd (of_decide_eq_true c) (show ¬ ("call" : Str) = "if" by decide +kernel)) (fun _ => ?_)
    refine ev_eqs rfl ?_
    refine ite2 (fun _ => ?_) (fun c => absurd (decide_eq_true (show ("call" : Str) = "call" from rfl)) c)
    exact ⟨_, rfl, _, rfl, _, rfl, q⟩
  | @fn a l v ns b h hq rb =>
    refine ⟨_, rfl, a, _, 0, _, rfl, rfl, SqT.of h, at0 _ _, ?_⟩
    refine ev_eqs rfl ?_
    refine ite2 (fun c => absurd (of_decide_eq_true c) (show ¬ ("fn" : Str) = "let" by decide +kernel)) (fun _ => ?_)
    refine ev_eqs rfl ?_
    refine ite2 (fun c => absurd (of_decide_eq_true c) (show ¬ ("fn" : Str) = "if" by decide +kernel)) (fun _ => ?_)
    refine ev_eqs rfl ?_
    refine ite2 (fun c => absurd (of_decide_eq_true c) (show ¬ ("fn" : Str) = "call" by decide +kernel)) (fun _ => ?_)
    refine ev_eqs rfl ?_
    refine ite2 (fun _ => ?_) (fun c => absurd (decide_eq_true (show ("fn" : Str) = "fn" from rfl)) c)
    refine ⟨_, rfl, _, rfl, _, rfl, ?_⟩
    obtain ⟨X, DL', e1, ds, c, ns', b', sc, ss, ev, g1, g2, g3, g4, g5, g6, g7, g8, g9, g10, g11, g12⟩ := q
    refine ⟨X, DL', e1, ds, c, ns', b', sc, ss, ev, g1, g2, g3, g4, g5, g6, g7, g8, g9, g10, g11, fun r x dx cb e' L G H' k1 k2 k3 k4 k5 k6 k7 k8 k9 k10 k11 k12 k13 k14 k15 => ?_⟩
    exact ⟨_, rfl, g12 r x dx cb e' L G H' k1 k2 k3 k4 k5 k6 k7 k8 k9 k10 k11 k12 k13 k14 k15⟩
  | @loc a n h =>
    refine ⟨_, rfl, a, _, 0, _, rfl, rfl, SqT.of h, at0 _ _, ?_⟩
    refine ev_eqs rfl ?_
    refine ite2 (fun c => absurd (of_decide_eq_true c) (show ¬ ("local" : Str) = "let" by decide +kernel)) (fun _ => ?_)
    refine ev_eqs rfl ?_
    refine ite2 (fun c => absurd (of_decide_eq_true c) (show ¬ ("local" : Str) = "if" by decide +kernel)) (fun _ => ?_)
    refine ev_eqs rfl ?_
    refine ite2 (fun c => absurd (of_decide_eq_true c) (show ¬ ("local" : Str) = "call" by decide +kernel)) (fun _ => ?_)
    refine ev_eqs rfl ?_
    refine ite2 (fun c => absurd (of_decide_eq_true c) (show ¬ ("local" : Str) = "fn" by decide +kernel)) (fun _ => ?_)
    refine ev_eqs rfl ?_
    refine ite2 (fun _ => ?_) (fun c => absurd (decide_eq_true (show ("local" : Str) = "local" from rfl)) c)
    obtain ⟨X, sc, s0, ⟨kvs, s1, s2, s3, s4⟩, hs, q⟩ := q
    obtain ⟨u, hu1, hu2⟩ := s3.get hs
    have dg := DGet.k (k := (.inl n : Key)) s1
    rw [hu1] at dg
    exact ⟨_, rfl, _, rfl, a, _, 1, _, rfl, rfl, SqT.of h, at1 _ _ _, e, _, rfl, dg, _, rfl, q _ hu2⟩
end
end My
namespace My
open PySem PySem.Spec PyProof.Rows L2 TL
/-! ### final_code -/
theorem CdR.keep {H H' : Hp} (k : KpT H H') {kvs : List (Key × V)} {cs : Nat → Option Code} (r : CdR H kvs cs) : CdR H' kvs cs := fun n c h => by
  obtain ⟨v, h1, h2⟩ := r n c h
  exact ⟨v, h1, h2.keep k⟩
def finC (tgs : List (Option Nat)) (cs : Nat → Option Code) : List DIn → Option (List Ins)
  | [] => some []
  | d :: r => match finI tgs cs d, finC tgs cs r with
    | some i, some is => some (i :: is)
    | _, _ => none
theorem finC_at {tgs : List (Option Nat)} {cs : Nat → Option Code} : ∀ {ds : List DIn} {is : List Ins} {j : Nat} {d : DIn}, finC tgs cs ds = some is → ds[j]? = some d → ∃ i, finI tgs cs d = some i ∧ is[j]? = some i
  | [], _, j, d, _, h => by cases h
  | d0 :: r, is, j, d, e, h => by
    unfold finC at e
    cases h1 : finI tgs cs d0 with
    | none => rw [h1] at e; cases e
    | some i0 =>
    rw [h1] at e
    cases h2 : finC tgs cs r with
    | none => rw [h2] at e; cases e
    | some is0 =>
    rw [h2] at e
    cases e
    cases j with
    | zero => cases h; exact ⟨i0, h1, rfl⟩
    | succ j => exact finC_at (ds := r) (is := is0) (j := j) h2 h
theorem finC_len {tgs : List (Option Nat)} {cs : Nat → Option Code} : ∀ {ds : List DIn} {is : List Ins}, finC tgs cs ds = some is → is.length = ds.length
  | [], _, e => by cases e; rfl
  | d0 :: r, is, e => by
    unfold finC at e
    cases h1 : finI tgs cs d0 with
    | none => rw [h1] at e; cases e
    | some i0 =>
    rw [h1] at e
    cases h2 : finC tgs cs r with
    | none => rw [h2] at e; cases e
    | some is0 =>
    rw [h2] at e
    cases e
    exact congrArg (· + 1) (finC_len h2)
theorem RIs.snoc {H : Hp} : ∀ {vs : List V} {is : List Ins} {v : V} {i : Ins}, RIs H vs is → RI H v i → RIs H (vs ++ [v]) (is ++ [i])
  | _, _, _, _, .nil, h => .cons h .nil
  | _, _, _, _, .cons g r, h => .cons g (RIs.snoc r h)
abbrev sFc : Stmt := top 49
abbrev NFc : List Str := ["draft", "codes", "instructions", "part"]
def spFc (CD : Addr) : Sp := fun vs H Q _ => ∃ (x dx cd e L G : Addr) (p l : Nat) (cb : V) (us gs : List V) (ds : List DIn) (tgs : List (Option Nat)) (kvs : List (Key × V)) (cs : Nat → Option Code) (is : List Ins), vs = [.ref x, .ref cd] ∧ H x = some (.ins CD dx (dfl p l cb e L G)) ∧ H L = some (.lst us) ∧ Als (RDi H) us ds ∧ us.length ≤ 1000000 ∧ H G = some (.lst gs) ∧ Als RTg gs tgs ∧
  H cd = some (.dK kvs) ∧ CdR H kvs cs ∧ finC tgs cs ds = some is ∧ ∀ u H', Fr No H H' → RC H' u (.mk p l is) → Q u H'
section
variable {P : Program} {w : World} {K : PySem.W.Frag} {mg : Str → Option Value} {base : Heap} {CD : Addr}
theorem scFc : FnScope NFc ["draft", "codes"] (defScope sFc) := ⟨rfl, rfl, rfl, by decide +kernel, rfl, by decide +kernel, by decide +kernel⟩
theorem ok_fc {f fF : Addr} {fd dF : FuncData} (Fn : Fun K "final_code" "final_code" sFc f fd) (B : Blt mg) (U : FldC K CD fD6) (GF : Cal P w K mg base CX0 1 "final_instruction" ["draft", "codes", "instruction"] (spFi CD) fF dF) : FnOk P w K mg base CX0 2 f fd ["draft", "codes"] (spFc CD) := by
  refine Fn.ok scFc (fun vs H Q E h => ?_) (fun cdv A outer s H vs Q E hr h => ?_)
  · obtain ⟨x, dx, cd, e, L, G, p, l, cb, us, gs, ds, tgs, kvs, cs, is, rfl, _⟩ := h
    rfl
  obtain ⟨x, dx, cd, e, L, G, p, l, cb, us, gs, ds, tgs, kvs, cs, is, rfl, hx, hL, rl, lu, hG, rg, hcd, rc, ei, q⟩ := h
  have nd := scFc.nd
  have hu := hu_of hr
  refine ⟨_, (pss_cons (ps_set (i := 2) nd rfl (Or.inl rfl) (pe_callTy call_tuple_of (by rfl) B.tuple (by decide +kernel) (pa_cons (pe_lc (own := [("part", 3)]) (g := gName 3) (tt := tYes) rfl nd (pi_list (pe_fld (pv 0) rfl)) (blkOk_by (N := NFc) (sc := defScope sFc) (by decide +kernel)) (fun _ _ _ _ _ => (pg_name (i := 3) nd rfl (Or.inl rfl) (hf := Or.inr rfl))) (fun _ _ _ _ _ => pts_nil) (fun _ _ _ _ _ => (pe_call GF.ok hr rfl GF.g GF.k GF.b .nil pass0 (pa_cons (pv 0) (pa_cons (pv 1) (pa_cons (pv 3) pa_nil)))))) pa_nil)))
    (pss_one (ps_ret (pe_tup (pa_cons pe_str (pa_cons (pe_fld (pv 0) rfl) (pa_cons (pe_fld (pv 0) rfl) (pa_cons (pv 2) pa_nil)))))))), ?_⟩
  refine ⟨_, rfl, x, CD, dx, _, _, rfl, hx, U.c, U.n _ (by simp), rfl, L, rfl, ⟨_, SqL.of hL⟩, fun D hD => ?_⟩
  have ll := finC_len ei
  have lus := rl.len
  refine lc_list (xs := us) (fun i H' => ∃ ws, H' D = some (.lst ws) ∧ RIs H' ws (is.take i) ∧ ws.length = i ∧ Fr No H H') ⟨[], upd_same, by rw [List.take_zero]; exact .nil, rfl, Fr.new hD⟩ (fun i H' _ ⟨_, _, _, _, g⟩ => SqL.of (g.keep (fun z => z) rfl hL)) ?_ ?_
  · rintro i y H' hi ⟨ws, h1, h2, h3, h4⟩
    obtain ⟨d, hd, rd⟩ := rl.get hi
    obtain ⟨j, ej, hj⟩ := finC_at ei hd
    have il : i < us.length := (List.getElem?_eq_some_iff.mp hi).1
    refine ⟨rfl, _, rfl, _, rfl, _, rfl, x, dx, cd, e, L, G, p, l, cb, y, gs, tgs, kvs, cs, d, j, rfl, h4.keep (fun z => z) rfl hx, h4.keep (fun z => z) rfl hG, rg, h4.keep (fun z => z) rfl hcd, rc.keep h4.tup, rd.keep h4.tup, ej, fun u H2 f2 r2 => ?_⟩
    have e2 := f2.keep (fun z => z) rfl h1
    have fm : Fr (fun q => q = D) H2 (upd H2 D (.lst (ws ++ [u]))) := Fr.set rfl e2 rfl
    refine ⟨ws, e2, Nat.lt_of_le_of_lt (show ws.length ≤ 1000000 by omega) (by decide), ws ++ [u], upd_same, ?_, by simp [h3], (h4.trans f2).mut hD e2 rfl⟩
    rw [take_more hj]
    exact ((h2.keep f2.tup).keep fm.tup).snoc (r2.keep fm.tup)
  rintro H7 ⟨ws, h1, h2, h3, h4⟩
  rw [lus, ← ll, List.take_length] at h2
  refine ⟨D, ws, rfl, .inl ⟨SqL.of h1, fun q1 hq1 => ?_⟩⟩
  have f8 : Fr No H7 (upd H7 q1 (.tup ws)) := Fr.new hq1
  have f08 := h4.trans f8
  have x8 := f08.keep (fun z => z) rfl hx
  refine ⟨_, rfl, x, CD, dx, _, _, rfl, x8, U.c, U.n _ (by simp), rfl, _, rfl, x, CD, dx, _, _, rfl, x8, U.c, U.n _ (by simp), rfl, _, rfl, by show 4 ≤ sizeLine; decide, fun r hr' => ?_⟩
  have f9 : Fr No (upd H7 q1 (.tup ws)) (upd (upd H7 q1 (.tup ws)) r (.tup [.str "code", .int p, .int l, .ref q1])) := Fr.new hr'
  exact q (.ref r) _ (f08.trans f9) (.mk upd_same (f9.tup _ _ upd_same) (h2.keep (f8.trans f9).tup))
end
end My
namespace My
open PySem PySem.Spec PyProof.Rows L2 TL
/-! ### the drafts while they are written: where each lies, what it holds -/
structure DAt where
  x : Addr
  dx : Addr
  e : Addr
  L : Addr
  G : Addr
  cb : V
structure DSt where
  p : Nat
  l : Nat
  ins : List DIn
  tgs : List (Option Nat)
  t : Tr
  sc : Sc
/-- what may change of a draft -/
def DAt.muts (r : DAt) : List Addr := [r.x, r.L, r.G]
structure DR (CD : Addr) (Y : Addr → Prop) (H : Hp) (r : DAt) (d : DSt) : Prop where
  x : H r.x = some (.ins CD r.dx (dfl d.p d.l r.cb r.e r.L r.G))
  L : ∃ us, H r.L = some (.lst us) ∧ Als (RDi H) us d.ins
  G : ∃ gs, H r.G = some (.lst gs) ∧ Als RTg gs d.tgs
  t : RT H r.cb d.t
  e : SDk Y H r.e d.sc
  wt : widT d.t
theorem DR.fr {CD : Addr} {Y Z : Addr → Prop} {H H' : Hp} {r : DAt} {d : DSt} (h : DR CD Y H r d) (f : Fr Z H H') (z : ∀ b, Z b → Y b) (n : ∀ b, b ∈ r.muts → ¬ Z b) : DR CD Y H' r d := by
  obtain ⟨us, u1, u2⟩ := h.L
  obtain ⟨gs, g1, g2⟩ := h.G
  exact ⟨f.keep (n _ (by simp [DAt.muts])) rfl h.x, ⟨us, f.keep (n _ (by simp [DAt.muts])) rfl u1, u2.mono fun _ _ r => r.keep f.tup⟩, ⟨gs, f.keep (n _ (by simp [DAt.muts])) rfl g1, g2⟩, h.t.keep f.tup, h.e.fr (f.wide z), h.wt⟩
/-- more may change, if it was not there -/
theorem DR.grow {CD : Addr} {Y Z : Addr → Prop} {H : Hp} {r : DAt} {d : DSt} (h : DR CD Y H r d) (z : ∀ b, Z b → Y b ∨ H b = none) : DR CD Z H r d := by
  obtain ⟨kvs, k1, k2, k3, k4⟩ := h.e
  exact ⟨h.x, h.L, h.G, h.t, ⟨kvs, k1, fun q => (z _ q).elim k2 fun n => (by rw [k1] at n; cases n), k3, k4⟩, h.wt⟩
theorem RPc.grow {X Z : Addr → Prop} {H : Hp} {v : V} {p : Pc} (r : RPc X H v p) (z : ∀ b, Z b → X b ∨ H b = none) : RPc Z H v p := by
  cases r with
  | tree h1 rt wt sd =>
    obtain ⟨kvs, k1, k2, k3, k4⟩ := sd
    exact .tree h1 rt wt ⟨kvs, k1, fun q => (z _ q).elim k2 fun n => (by rw [k1] at n; cases n), k3, k4⟩
  | write h1 r => exact .write h1 r
  | label h1 => exact .label h1
/-- drafts one by one -/
inductive DRs (CD : Addr) (Y : Addr → Prop) (H : Hp) : List DAt → List DSt → Prop
  | nil : DRs CD Y H [] []
  | cons {r : DAt} {d : DSt} {rs : List DAt} {ds : List DSt} (h : DR CD Y H r d) (hs : DRs CD Y H rs ds) : DRs CD Y H (r :: rs) (d :: ds)
def mutsL : List DAt → List Addr
  | [] => []
  | r :: rs => r.muts ++ mutsL rs
theorem mutsL_app : ∀ (rs ss : List DAt), mutsL (rs ++ ss) = mutsL rs ++ mutsL ss
  | [], ss => rfl
  | r :: rs, ss => by
    show r.muts ++ mutsL (rs ++ ss) = (r.muts ++ mutsL rs) ++ mutsL ss
    rw [mutsL_app rs ss, List.append_assoc]
theorem DRs.fr {CD : Addr} {Y Z : Addr → Prop} {H H' : Hp} (f : Fr Z H H') (z : ∀ b, Z b → Y b) : ∀ {rs : List DAt} {ds : List DSt}, DRs CD Y H rs ds → (∀ b, b ∈ mutsL rs → ¬ Z b) → DRs CD Y H' rs ds
  | _, _, .nil, _ => .nil
  | _, _, .cons h hs, n => .cons (h.fr f z fun b m => n b (List.mem_append_left _ m)) (DRs.fr f z hs fun b m => n b (List.mem_append_right _ m))
theorem DRs.grow {CD : Addr} {Y Z : Addr → Prop} {H : Hp} (z : ∀ b, Z b → Y b ∨ H b = none) : ∀ {rs : List DAt} {ds : List DSt}, DRs CD Y H rs ds → DRs CD Z H rs ds
  | _, _, .nil => .nil
  | _, _, .cons h hs => .cons (h.grow z) (DRs.grow z hs)
theorem DRs.app {CD : Addr} {Y : Addr → Prop} {H : Hp} : ∀ {rs ss : List DAt} {ds es : List DSt}, DRs CD Y H rs ds → DRs CD Y H ss es → DRs CD Y H (rs ++ ss) (ds ++ es)
  | _, _, _, _, .nil, s => s
  | _, _, _, _, .cons h hs, s => .cons h (DRs.app hs s)
theorem DRs.len {CD : Addr} {Y : Addr → Prop} {H : Hp} : ∀ {rs : List DAt} {ds : List DSt}, DRs CD Y H rs ds → rs.length = ds.length
  | _, _, .nil => rfl
  | _, _, .cons _ hs => congrArg (· + 1) (DRs.len hs)
/-- whatever may change of a draft is there -/
theorem DRs.there {CD : Addr} {Y : Addr → Prop} {H : Hp} : ∀ {rs : List DAt} {ds : List DSt}, DRs CD Y H rs ds → ∀ b, b ∈ mutsL rs → H b ≠ none
  | _, _, .nil, _, m => by cases m
  | _, _, .cons h hs, b, m => by
    rcases List.mem_append.mp m with m | m
    · obtain ⟨us, u1, _⟩ := h.L
      obtain ⟨gs, g1, _⟩ := h.G
      simp only [DAt.muts, List.mem_cons, List.not_mem_nil, or_false] at m
      rcases m with rfl | rfl | rfl
      · rw [h.x]; exact fun z => by cases z
      · rw [u1]; exact fun z => by cases z
      · rw [g1]; exact fun z => by cases z
    · exact DRs.there hs b m
/-- the writing of one draft: places, instructions, targets, the pieces that are still to be written (the next one first), the drafts behind; `at_` is the number of drafts when it began -/
structure WSt where
  l : Nat
  ins : List DIn
  tgs : List (Option Nat)
  rest : List Pc
  news : List DSt
def gate {α : Type} (c : Prop) [Decidable c] (x : α) : Option α := if c then some x else none
theorem gate_ok {α : Type} {c : Prop} [Decidable c] {x y : α} (h : gate c x = some y) : c ∧ x = y := by
  unfold gate at h
  by_cases z : c
  · rw [if_pos z] at h; cases h; exact ⟨z, rfl⟩
  · rw [if_neg z] at h; cases h
def wrStep (at_ : Nat) (w : WSt) : Pc → Option WSt
  | .write d => gate (w.ins.length < 900000) { w with ins := w.ins ++ [d] }
  | .label n => gate (n < w.tgs.length) { w with tgs := w.tgs.set n (some w.ins.length) }
  | .tree (.let_ ns ts b) sc last => gate (sc.length + ns.length ≤ 1000000) { w with l := w.l + ns.length, rest := letP ns ts b w.l sc last ++ w.rest }
  | .tree (.call f ts) sc last => some { w with rest := callP f ts sc last ++ w.rest }
  | .tree (.fn ns b) sc last => (ssOf sc (outT (.fn ns b))).bind fun ss => gate (at_ + w.news.length < 900000 ∧ depT (.fn ns b) ≤ 900 ∧ szT (.fn ns b) ≤ 900000 ∧ (outT (.fn ns b)).length ≤ 900000) { w with rest := leafP (.fn (at_ + w.news.length) ss) last ++ w.rest, news := w.news ++ [⟨ns.length, ns.length, [], [], b, fnSc (.fn ns b)⟩] }
  | .tree (.loc n) sc last => (scGet n sc).map fun s => { w with rest := leafP (.src s) last ++ w.rest }
  | .tree (.int i) _ last => some { w with rest := leafP (.int i) last ++ w.rest }
  | .tree (.prim p) _ last => some { w with rest := leafP (.prim p) last ++ w.rest }
  | .tree (.glob m x) _ last => some { w with rest := leafP (.glob m x) last ++ w.rest }
  | .tree (.if_ a b c) sc last => gate (w.tgs.length ≤ 900000) { w with tgs := ifG last w.tgs none, rest := ifP a b c sc last w.tgs.length ++ w.rest }
/-- with fuel: none where the mirror does not tell -/
def wrF (at_ : Nat) : Nat → WSt → Option WSt
  | 0, _ => none
  | k + 1, w => match w.rest with
    | [] => some w
    | p :: r => if r.length ≤ 900000 then (wrStep at_ { w with rest := r } p).bind (wrF at_ k) else none
/-- one draft from its body -/
def wrD (at_ k : Nat) (d : DSt) : Option WSt := wrF at_ k ⟨d.l, d.ins, d.tgs, [.tree d.t d.sc true], []⟩
/-- all drafts, one after another: `done` are written -/
def wrAll (k : Nat) : Nat → List DSt → List DSt → Option (List DSt)
  | 0, _, _ => none
  | _, done, [] => some done
  | n + 1, done, d :: rest => match wrD (done.length + 1 + rest.length) k d with
    | none => none
    | some w => wrAll k n (done ++ [{ d with l := w.l, ins := w.ins, tgs := w.tgs }]) (rest ++ w.news)
/-- the codes from the last draft to the first -/
def codesF : List DSt → Nat → (Nat → Option Code) → Option (Nat → Option Code)
  | _, 0, cs => some cs
  | ds, i + 1, cs => match ds[i]? with
    | none => none
    | some d => if d.ins.length ≤ 1000000 then match finC d.tgs cs d.ins with
      | none => none
      | some is => codesF ds i fun j => if j = i then some (.mk d.p d.l is) else cs j
      else none
def compF (k n : Nat) (t : Tr) : Option Code := match wrAll k n [] [⟨0, 0, [], [], t, []⟩] with
  | none => none
  | some ds => if ds.length ≤ 900000 then match codesF ds ds.length (fun _ => none) with
    | none => none
    | some cs => cs 0
    else none
/-- three little cores, as the program's own command compiles them -/
def told : Code → List (List Nat)
  | .mk p l is => [p, l, is.length] :: []
example : (compF 100 10 (.call (.prim "+") [.int 1, .int 2])).map told = some [[0, 0, 4]] := by decide +kernel
example : (compF 100 10 (.call (.fn [1] (.call (.prim "+") [.loc 1, .int 2])) [.int 5])).map told = some [[0, 0, 3]] := by decide +kernel
end My
namespace My
open PySem PySem.Spec PyProof.Rows L2 TL
/-! ### one draft in the writing, all others around it -/
def zs (DL R : Addr) (r : DAt) (ns : List DAt) : Addr → Prop := fun b => b ∈ R :: DL :: (r.muts ++ mutsL ns)
structure WS (CD DL R : Addr) (r : DAt) (H : Hp) (ns : List DAt) (dso : List DSt) (dr : DSt) (us : List V) (rest : List Pc) (vs : List V) : Prop where
  nd : (R :: DL :: (r.muts ++ mutsL ns)).Nodup
  hR : H R = some (.lst us)
  al : Als (RPc (zs DL R r ns) H) us rest.reverse
  hD : H DL = some (.lst vs)
  o : DRs CD (zs DL R r ns) H ns dso
  s : DR CD (zs DL R r ns) H r dr
section
variable {CD DL R : Addr} {r : DAt} {H H' : Hp} {ns : List DAt} {dso : List DSt} {dr dr' : DSt} {us us' : List V} {rest rest' : List Pc} {vs vs' : List V}
theorem zs_R : zs DL R r ns R := List.mem_cons_self
theorem zs_D : zs DL R r ns DL := List.mem_cons_of_mem _ List.mem_cons_self
theorem zs_m {b : Addr} (h : b ∈ r.muts) : zs DL R r ns b := List.mem_cons_of_mem _ (List.mem_cons_of_mem _ (List.mem_append_left _ h))
theorem zs_o {b : Addr} (h : b ∈ mutsL ns) : zs DL R r ns b := List.mem_cons_of_mem _ (List.mem_cons_of_mem _ (List.mem_append_right _ h))
theorem DAt.mx : r.x ∈ r.muts := by simp [DAt.muts]
theorem DAt.mL : r.L ∈ r.muts := by simp [DAt.muts]
theorem DAt.mG : r.G ∈ r.muts := by simp [DAt.muts]
theorem zs_cases {b : Addr} (h : zs DL R r ns b) : b = R ∨ b = DL ∨ b ∈ r.muts ∨ b ∈ mutsL ns := by
  rcases List.mem_cons.mp h with h | h
  · exact .inl h
  rcases List.mem_cons.mp h with h | h
  · exact .inr (.inl h)
  rcases List.mem_append.mp h with h | h
  · exact .inr (.inr (.inl h))
  · exact .inr (.inr (.inr h))
structure NeF (DL R : Addr) (r : DAt) (ns : List DAt) : Prop where
  RD : R ≠ DL
  Rm : ∀ b ∈ r.muts, R ≠ b
  Dm : ∀ b ∈ r.muts, DL ≠ b
  xL : r.x ≠ r.L
  xG : r.x ≠ r.G
  LG : r.L ≠ r.G
  oR : ∀ b ∈ mutsL ns, b ≠ R
  oD : ∀ b ∈ mutsL ns, b ≠ DL
  om : ∀ b ∈ mutsL ns, b ∉ r.muts
theorem ne_nd (nd : (R :: DL :: (r.muts ++ mutsL ns)).Nodup) : NeF DL R r ns := by
  obtain ⟨h1, h2⟩ := List.nodup_cons.mp nd
  obtain ⟨h3, h4⟩ := List.nodup_cons.mp h2
  obtain ⟨h5, h6, h7⟩ := List.nodup_append.mp h4
  have h5' : [r.x, r.L, r.G].Nodup := h5
  simp only [List.nodup_cons, List.mem_cons, List.not_mem_nil, or_false, not_or] at h5'
  obtain ⟨⟨a1, a2⟩, a3, _⟩ := h5'
  exact ⟨fun e => h1 (by rw [e]; exact List.mem_cons_self), fun b m e => h1 (List.mem_cons_of_mem _ (List.mem_append_left _ (by rw [e]; exact m))), fun b m e => h3 (List.mem_append_left _ (by rw [e]; exact m)), a1, a2, a3,
    fun b m e => h1 (List.mem_cons_of_mem _ (List.mem_append_right _ (by rw [← e]; exact m))), fun b m e => h3 (List.mem_append_right _ (by rw [← e]; exact m)), fun b m e => h7 b e b m rfl⟩
theorem WS.ne (h : WS CD DL R r H ns dso dr us rest vs) : NeF DL R r ns := ne_nd h.nd
theorem DR.there {Y : Addr → Prop} (h : DR CD Y H r dr) : ∀ b ∈ r.muts, H b ≠ none := fun b m => by
  have := DRs.there (.cons h .nil) b (by show b ∈ r.muts ++ mutsL []; exact List.mem_append_left _ m)
  exact this
theorem WS.there (h : WS CD DL R r H ns dso dr us rest vs) : ∀ b, zs DL R r ns b → H b ≠ none := fun b z => by
  rcases zs_cases z with e | e | e | e
  · rw [e, h.hR]; exact fun z => by cases z
  · rw [e, h.hD]; exact fun z => by cases z
  · exact h.s.there b e
  · exact h.o.there b e
/-- a step that changes nothing of the others -/
theorem WS.mv (h : WS CD DL R r H ns dso dr us rest vs) {W : Addr → Prop} (f : Fr W H H') (hw : ∀ b, W b → b = R ∨ b = DL ∨ b ∈ r.muts) (hR' : H' R = some (.lst us')) (al' : Als (RPc (zs DL R r ns) H') us' rest'.reverse) (hD' : H' DL = some (.lst vs'))
    (hs : DR CD (zs DL R r ns) H' r dr') : WS CD DL R r H' ns dso dr' us' rest' vs' := by
  have ne := h.ne
  refine ⟨h.nd, hR', al', hD', h.o.fr f (fun b q => ?_) (fun b m q => ?_), hs⟩
  · rcases hw b q with e | e | e
    · rw [e]; exact zs_R
    · rw [e]; exact zs_D
    · exact zs_m e
  · rcases hw b q with e | e | e
    · exact ne.oR b m e
    · exact ne.oD b m e
    · exact ne.om b m e
theorem WS.zw {W : Addr → Prop} (hw : ∀ b, W b → b = R ∨ b = DL ∨ b ∈ r.muts) : ∀ b, W b → zs DL R r ns b := fun b q => by
  rcases hw b q with e | e | e
  · rw [e]; exact zs_R
  · rw [e]; exact zs_D
  · exact zs_m e
/-- nothing changes -/
theorem WS.no (h : WS CD DL R r H ns dso dr us rest vs) (f : Fr No H H') : WS CD DL R r H' ns dso dr us rest vs :=
  h.mv f (fun b z => z.elim) (f.keep (fun z => z) rfl h.hR) (h.al.mono fun _ _ r => r.fr f.no) (f.keep (fun z => z) rfl h.hD) (h.s.fr f (fun b z => z.elim) fun b _ z => z)
/-- the rest is set anew -/
theorem WS.setR (h : WS CD DL R r H ns dso dr us rest vs) (al' : Als (RPc (zs DL R r ns) H) us' rest'.reverse) : WS CD DL R r (upd H R (.lst us')) ns dso dr us' rest' vs ∧ Fr (zs DL R r ns) H (upd H R (.lst us')) := by
  have ne := h.ne
  have f : Fr (fun b => b = R) H (upd H R (.lst us')) := Fr.set rfl h.hR rfl
  have fz := f.wide (WS.zw (DL := DL) (R := R) (r := r) (ns := ns) fun b z => .inl z)
  refine ⟨h.mv f (fun b z => .inl z) upd_same (al'.mono fun _ _ r => r.fr fz) (by rw [upd_ne ne.RD.symm]; exact h.hD) (h.s.fr f (fun b z => by rw [z]; exact zs_R) fun b m z => ne.Rm b m z.symm), fz⟩
/-- one list of the draft, or the draft itself, is set anew -/
theorem WS.setX (h : WS CD DL R r H ns dso dr us rest vs) {y : Addr} {o : HO} (m : y ∈ r.muts) (i : ∃ u, H y = some u ∧ isMut u = true) (hs : DR CD (zs DL R r ns) (upd H y o) r dr') : WS CD DL R r (upd H y o) ns dso dr' us rest vs ∧ Fr (zs DL R r ns) H (upd H y o) := by
  have ne := h.ne
  obtain ⟨u, hu, mu⟩ := i
  have f : Fr (fun b => b = y) H (upd H y o) := Fr.set rfl hu mu
  have hw : ∀ b, b = y → b = R ∨ b = DL ∨ b ∈ r.muts := fun b z => .inr (.inr (by rw [z]; exact m))
  have fz := f.wide (WS.zw (DL := DL) (R := R) (r := r) (ns := ns) hw)
  exact ⟨h.mv f hw (by rw [upd_ne (ne.Rm y m)]; exact h.hR) (h.al.mono fun _ _ r => r.fr fz) (by rw [upd_ne (ne.Dm y m)]; exact h.hD) hs, fz⟩
theorem WS.insn (h : WS CD DL R r H ns dso dr us rest vs) {is : List V} {v : V} {d : DIn} (hL : H r.L = some (.lst is)) (rd : RDi H v d) : WS CD DL R r (upd H r.L (.lst (is ++ [v]))) ns dso { dr with ins := dr.ins ++ [d] } us rest vs ∧ Fr (zs DL R r ns) H (upd H r.L (.lst (is ++ [v]))) := by
  have ne := h.ne
  have f : Fr (fun b => b = r.L) H (upd H r.L (.lst (is ++ [v]))) := Fr.set rfl hL rfl
  obtain ⟨is0, i1, i2⟩ := h.s.L
  rw [hL] at i1
  cases i1
  obtain ⟨gs, g1, g2⟩ := h.s.G
  refine h.setX r.mL ⟨_, hL, rfl⟩ ⟨?_, ⟨_, upd_same, (i2.mono fun _ _ r => r.keep f.tup).app (.one (rd.keep f.tup))⟩, ⟨gs, ?_, g2⟩, h.s.t.keep f.tup, h.s.e.fr (f.wide fun b z => by rw [z]; exact zs_m r.mL), h.s.wt⟩
  · rw [upd_ne ne.xL]; exact h.s.x
  · rw [upd_ne ne.LG.symm]; exact g1
theorem WS.tgs (h : WS CD DL R r H ns dso dr us rest vs) {gs gs' : List V} {ts : List (Option Nat)} (hG : H r.G = some (.lst gs)) (al : Als RTg gs' ts) : WS CD DL R r (upd H r.G (.lst gs')) ns dso { dr with tgs := ts } us rest vs ∧ Fr (zs DL R r ns) H (upd H r.G (.lst gs')) := by
  have ne := h.ne
  have f : Fr (fun b => b = r.G) H (upd H r.G (.lst gs')) := Fr.set rfl hG rfl
  obtain ⟨is, i1, i2⟩ := h.s.L
  refine h.setX r.mG ⟨_, hG, rfl⟩ ⟨?_, ⟨is, ?_, (i2.mono fun _ _ r => r.keep f.tup)⟩, ⟨_, upd_same, al⟩, h.s.t.keep f.tup, h.s.e.fr (f.wide fun b z => by rw [z]; exact zs_m r.mG), h.s.wt⟩
  · rw [upd_ne ne.xG]; exact h.s.x
  · rw [upd_ne ne.LG]; exact i1
end
end My
namespace My
open PySem PySem.Spec PyProof.Rows L2 TL
/-! ### the pieces of a tree, while a draft is written -/
structure WL (CD DL R : Addr) (r : DAt) (Y : Addr → Prop) (H0 : Hp) (rs : List DAt) (ds : List DSt) (d : DSt) (ds0 : List V) (H : Hp) (us : List V) (w : WSt) (nw : List DAt) : Prop where
  s : WS CD DL R r H (rs ++ nw) (ds ++ w.news) { d with l := w.l, ins := w.ins, tgs := w.tgs } us w.rest (ds0 ++ nw.map fun n => .ref n.x)
  f : Fr Y H0 H
  ln : nw.length = w.news.length
  hz : ∀ b, zs DL R r (rs ++ nw) b → Y b ∨ H0 b = none
section
variable {CD DL R : Addr} {r : DAt} {Y : Addr → Prop} {H0 H H' : Hp} {rs nw : List DAt} {ds : List DSt} {d : DSt} {ds0 us us' : List V} {w w' : WSt}
theorem WL.no (h : WL CD DL R r Y H0 rs ds d ds0 H us w nw) (f : Fr No H H') : WL CD DL R r Y H0 rs ds d ds0 H' us w nw := ⟨h.s.no f, h.f.trans f.no, h.ln, h.hz⟩
theorem WL.go (h : WL CD DL R r Y H0 rs ds d ds0 H us w nw) (f : Fr (zs DL R r (rs ++ nw)) H H') (s : WS CD DL R r H' (rs ++ nw) (ds ++ w'.news) { d with l := w'.l, ins := w'.ins, tgs := w'.tgs } us' w'.rest (ds0 ++ nw.map fun n => .ref n.x)) (e : w'.news = w.news) : WL CD DL R r Y H0 rs ds d ds0 H' us' w' nw :=
  ⟨s, h.f.drop2 f h.hz, by rw [e]; exact h.ln, h.hz⟩
theorem ifG_als {last : Bool} {gs : List V} {ts : List (Option Nat)} (al : Als RTg gs ts) : Als RTg (ifG last gs .non) (ifG last ts none) := by
  unfold ifG
  cases last with
  | true => exact al.app (.one (show RTg .non none from rfl))
  | false => exact (al.app (.one (show RTg .non none from rfl))).app (.one (show RTg .non none from rfl))
theorem leafP_len (dn : DIn) (last : Bool) : (leafP dn last).length ≤ 2 := by cases last <;> simp [leafP]
theorem ifP_len (a b c : Tr) (sc : Sc) (last : Bool) (n : Nat) : (ifP a b c sc last n).length ≤ 7 := by cases last <;> simp [ifP]
theorem nodup_snoc3 {l : List Addr} {x L G : Addr} (nd : l.Nodup) (h1 : x ∉ l) (h2 : L ∉ l) (h3 : G ∉ l) (n1 : x ≠ L) (n2 : x ≠ G) (n3 : L ≠ G) : (l ++ [x, L, G]).Nodup := by
  refine List.nodup_append.mpr ⟨nd, by simp [n1, n2, n3], fun a ha b hb e => ?_⟩
  subst e
  simp only [List.mem_cons, List.not_mem_nil, or_false] at hb
  rcases hb with e | e | e
  · exact h1 (by rw [← e]; exact ha)
  · exact h2 (by rw [← e]; exact ha)
  · exact h3 (by rw [← e]; exact ha)
theorem zs_snoc (DL R : Addr) (r n : DAt) (rs nw : List DAt) : (R :: DL :: (r.muts ++ mutsL (rs ++ (nw ++ [n])))) = (R :: DL :: (r.muts ++ mutsL (rs ++ nw))) ++ [n.x, n.L, n.G] := by
  rw [← List.append_assoc rs, mutsL_app (rs ++ nw)]
  show _ = R :: DL :: ((r.muts ++ mutsL (rs ++ nw)) ++ n.muts)
  rw [List.append_assoc r.muts]
  show R :: DL :: (r.muts ++ (mutsL (rs ++ nw) ++ (n.muts ++ []))) = _
  rw [List.append_nil]
theorem tp_all (h : WL CD DL R r Y H0 rs ds d ds0 H us w nw) {t : Tr} {sc : Sc} {last : Bool} {c : V} {e : Addr} {Q : VK} {E : XK} (rt : RT H c t) (wt : widT t) (sd : SDk (zs DL R r (rs ++ nw)) H e sc) (es : wrStep ds0.length w (.tree t sc last) = some w')
    (cont : ∀ H' nw' a us2 pcs w1, WL CD DL R r Y H0 rs ds d ds0 H' us w1 nw' → w1.rest = w.rest → w' = { w1 with rest := pcs ++ w1.rest } → H' a = some (.lst us2) → Als (RPc (zs DL R r (rs ++ nw')) H') us2 pcs → us2.length ≤ 3000 → ¬ zs DL R r (rs ++ nw') a → Q (.ref a) H') : tpK CD DL r.x e c last H Q E t := by
  have nz : ∀ {a}, H a = none → ¬ zs DL R r (rs ++ nw) a := fun {a} ha z => h.s.there a z ha
  have lea : ∀ (dn : DIn) (v : V), RDi H v dn → w' = { w with rest := leafP dn last ++ w.rest } → spLea [v, .bl last] H Q E := fun dn v rd ew => ⟨zs DL R r (rs ++ nw), v, dn, last, rfl, rd, fun a us2 H' f ha ha2 al =>
    cont H' nw a us2 _ w (h.no f) rfl ew ha2 al (by rw [al.len]; exact Nat.le_trans (leafP_len _ _) (by decide)) (nz ha)⟩
  cases rt with
  | @int a i hh =>
    unfold wrStep at es; cases es
    exact lea (.int i) _ (.int hh) rfl
  | @prim a p hh =>
    unfold wrStep at es; cases es
    exact lea (.prim p) _ (.prim hh) rfl
  | @glob a m y hh =>
    unfold wrStep at es; cases es
    exact lea (.glob m y) _ (.glob hh) rfl
  | @loc a n hh =>
    unfold wrStep at es
    dsimp only at es
    cases hs : scGet n sc with
    | none => rw [hs] at es; cases es
    | some s =>
    rw [hs] at es; cases es
    refine ⟨_, sc, s, sd, hs, fun v rv => ?_⟩
    obtain ⟨b, rfl, hb⟩ := rv
    exact lea (.src s) _ (.src hb) rfl
  | @call a l v vs g ts hh hq rf rs' =>
    unfold wrStep at es; cases es
    have w0 := wt
    unfold widT at w0
    exact ⟨zs DL R r (rs ++ nw), e, _, g, ts, sc, last, rfl, .call hh hq rf rs', wt, sd, fun a us2 H' f ha ha2 al => cont H' nw a us2 _ w (h.no f) rfl rfl ha2 al (by rw [al.len]; unfold callP; rw [List.length_append, List.length_map, List.length_cons]; show ts.length + 1 + 1 ≤ _; omega) (nz ha)⟩
  | @let_ a l v vs ns ts b hh hq rp rb =>
    unfold wrStep at es
    dsimp only at es
    obtain ⟨lim, rfl⟩ := gate_ok es
    have w0 := wt
    unfold widT at w0
    have lts := rp.len.2
    refine ⟨zs DL R r (rs ++ nw), r.x, r.dx, e, r.e, r.L, r.G, d.p, w.l, r.cb, _, ns, ts, b, sc, last, rfl, h.s.s.x, zs_m r.mx, h.s.there, .let_ hh hq rp rb, wt, sd, lim, fun a us2 H' f hx' ha ha2 al => ?_⟩
    have ne := h.s.ne
    have hw : ∀ b, b = r.x → b = R ∨ b = DL ∨ b ∈ r.muts := fun b z => .inr (.inr (by rw [z]; exact r.mx))
    have fz := f.wide (WS.zw (DL := DL) (R := R) (r := r) (ns := rs ++ nw) hw)
    obtain ⟨is, i1, i2⟩ := h.s.s.L
    obtain ⟨gs, g1, g2⟩ := h.s.s.G
    refine cont H' nw a us2 _ { w with l := w.l + ns.length } (h.go fz (h.s.mv f hw (f.keep (ne.Rm _ r.mx) rfl h.s.hR) (h.s.al.mono fun _ _ r => r.fr fz) (f.keep (ne.Dm _ r.mx) rfl h.s.hD)
      ⟨hx', ⟨is, f.keep (fun z => ne.xL z.symm) rfl i1, i2.mono fun _ _ r => r.keep f.tup⟩, ⟨gs, f.keep (fun z => ne.xG z.symm) rfl g1, g2⟩, h.s.s.t.keep f.tup, h.s.s.e.fr fz, h.s.s.wt⟩) rfl) rfl rfl ha2 al ?_ (nz ha)
    rw [al.len]
    unfold letP
    rw [List.length_append, letPs_len]
    show 2 * ts.length + 1 ≤ _
    omega
  | @if_ a y1 y2 y3 p1 p2 p3 hh ry1 ry2 ry3 =>
    unfold wrStep at es
    dsimp only at es
    obtain ⟨lim, rfl⟩ := gate_ok es
    obtain ⟨is, i1, i2⟩ := h.s.s.L
    obtain ⟨gs, g1, g2⟩ := h.s.s.G
    have lg : gs.length = w.tgs.length := g2.len
    refine ⟨zs DL R r (rs ++ nw), r.x, r.dx, e, r.e, r.L, r.G, d.p, w.l, r.cb, _, p1, p2, p3, gs, sc, last, rfl, h.s.s.x, g1, by rw [lg]; exact lim, zs_m r.mG, .if_ hh ry1 ry2 ry3, wt, sd, fun a us2 H' f hG' ha ha2 al => ?_⟩
    have ne := h.s.ne
    have hw : ∀ b, b = r.G → b = R ∨ b = DL ∨ b ∈ r.muts := fun b z => .inr (.inr (by rw [z]; exact r.mG))
    have fz := f.wide (WS.zw (DL := DL) (R := R) (r := r) (ns := rs ++ nw) hw)
    rw [lg] at al
    refine cont H' nw a us2 _ { w with tgs := ifG last w.tgs none } (h.go fz (h.s.mv f hw (f.keep (ne.Rm _ r.mG) rfl h.s.hR) (h.s.al.mono fun _ _ r => r.fr fz) (f.keep (ne.Dm _ r.mG) rfl h.s.hD)
      ⟨f.keep ne.xG rfl h.s.s.x, ⟨is, f.keep ne.LG rfl i1, i2.mono fun _ _ r => r.keep f.tup⟩, ⟨_, hG', ifG_als g2⟩, h.s.s.t.keep f.tup, h.s.s.e.fr fz, h.s.s.wt⟩) rfl) rfl rfl ha2 al ?_ (nz ha)
    rw [al.len]
    exact Nat.le_trans (ifP_len _ _ _ _ _ _) (by decide)
  | @fn a l v ns b hh hq rb =>
    unfold wrStep at es
    dsimp only at es
    cases hs : ssOf sc (outT (.fn ns b)) with
    | none => rw [hs] at es; cases es
    | some ss =>
    rw [hs] at es
    obtain ⟨⟨l1, l2, l3, l4⟩, rfl⟩ := gate_ok es
    have lv : (ds0 ++ nw.map fun n => V.ref n.x).length = ds0.length + w.news.length := by rw [List.length_append, List.length_map, h.ln]
    refine ⟨zs DL R r (rs ++ nw), DL, e, _, _, ns, b, sc, ss, rfl, h.s.hD, by rw [lv]; omega, zs_D, h.s.there, .fn hh hq rb, wt, l2, l3, l4, sd, hs, fun r' x dx cb e' L G H1 f hx hL hG n1 n2 n3 hDL' hx' hL' hG' rtb sde he' rdi => ?_⟩
    rw [lv] at rdi
    let n : DAt := ⟨x, dx, e', L, G, cb⟩
    have ne := h.s.ne
    have hw : ∀ b, b = DL → b = R ∨ b = DL ∨ b ∈ r.muts := fun b z => .inr (.inl z)
    have zz : ∀ q, zs DL R r (rs ++ (nw ++ [n])) q ↔ zs DL R r (rs ++ nw) q ∨ q ∈ [x, L, G] := fun q => by
      unfold zs
      rw [zs_snoc]
      exact List.mem_append
    have zn : ∀ q, q ∈ [x, L, G] → H q = none := fun q m => by
      simp only [List.mem_cons, List.not_mem_nil, or_false] at m
      rcases m with e | e | e <;> rw [e] <;> assumption
    have zg : ∀ q, zs DL R r (rs ++ (nw ++ [n])) q → zs DL R r (rs ++ nw) q ∨ H q = none := fun q z => ((zz q).mp z).imp id (zn q)
    have fz : Fr (zs DL R r (rs ++ nw)) H H1 := f.wide (WS.zw (DL := DL) (R := R) (r := r) (ns := rs ++ nw) hw)
    have fy : Fr (zs DL R r (rs ++ (nw ++ [n]))) H H1 := fz.wide fun q z => (zz q).mpr (.inl z)
    have s1 : WS CD DL R r H1 (rs ++ (nw ++ [n])) (ds ++ (w.news ++ [⟨ns.length, ns.length, [], [], b, fnSc (.fn ns b)⟩])) { d with l := w.l, ins := w.ins, tgs := w.tgs } us w.rest (ds0 ++ (nw ++ [n]).map fun n => .ref n.x) := by
      refine ⟨?_, f.keep ne.RD rfl h.s.hR, (h.s.al.mono fun _ _ r => (r.grow zg).fr fy), ?_, ?_, ((h.s.s.grow zg).fr f (fun b z => (zz b).mpr (.inl (WS.zw hw b z))) fun b m z => ne.Dm b m z.symm)⟩
      · rw [zs_snoc]
        have out : ∀ q, q ∈ [x, L, G] → q ∉ (R :: DL :: (r.muts ++ mutsL (rs ++ nw))) := fun q m z => h.s.there q z (zn q m)
        exact nodup_snoc3 h.s.nd (out x (by simp)) (out L (by simp)) (out G (by simp)) n1 n2 n3
      · rw [hDL', List.map_append, List.append_assoc]; rfl
      · rw [← List.append_assoc rs, ← List.append_assoc ds]
        have o1 := (h.s.o.grow (Z := zs DL R r (rs ++ nw ++ [n])) (by rw [List.append_assoc]; exact zg)).fr f (fun b z => by rw [List.append_assoc]; exact (zz b).mpr (.inl (WS.zw hw b z))) fun b m z => ne.oD b m z
        refine o1.app (.cons ⟨hx', ⟨[], hL', .nil⟩, ⟨[], hG', .nil⟩, rtb, ?_, by unfold widT at wt; exact wt.2⟩ .nil)
        obtain ⟨kvs, k1, k2, k3, k4⟩ := sde
        refine ⟨kvs, k1, fun z => ?_, k3, k4⟩
        rw [List.append_assoc] at z
        rcases (zz _).mp z with z | z
        · exact k2 z
        · simp only [List.mem_cons, List.not_mem_nil, or_false] at z
          rcases z with z | z | z
          · have z : e' = x := z
            rw [z, hx'] at k1; cases k1
          · have z : e' = L := z
            rw [z, hL'] at k1; cases k1
          · have z : e' = G := z
            rw [z, hG'] at k1; cases k1
    have w1 : WL CD DL R r Y H0 rs ds d ds0 H1 us { w with news := w.news ++ [⟨ns.length, ns.length, [], [], b, fnSc (.fn ns b)⟩] } (nw ++ [n]) := by
      refine ⟨s1, h.f.drop2 fz h.hz, by show _ = (w.news ++ [_]).length; rw [List.length_append, List.length_append, h.ln]; rfl, fun q z => ?_⟩
      rcases (zz q).mp z with z | z
      · exact h.hz q z
      · exact .inr (h.f.dom (zn q z))
    exact ⟨zs DL R r (rs ++ (nw ++ [n])), r', _, last, rfl, rdi, fun a us2 H' f2 ha ha2 al => cont H' (nw ++ [n]) a us2 _ _ (w1.no f2) rfl rfl ha2 al (by rw [al.len]; exact Nat.le_trans (leafP_len _ _) (by decide)) (fun z => s1.there a z ha)⟩
end
end My
namespace My
open PySem PySem.Spec PyProof.Rows L2 TL
/-! ### write_draft -/
theorem ev_at {K : PySem.W.Frag} {σ : L2.St} {H : Hp} {i : Nat} {a : Addr} {x w : Str} {xs : List V} {Q : Bool → Hp → Prop} (h : σ[i]? = some (some (.ref a))) (ha : H a = some (.tup (.str x :: xs))) (q : Q (decide (x = w)) H) : tTest (tOp rEq (tOp (rIxT K) (tVar i) (tC (.int 0))) (tC (.str w))) σ H Q := by
  refine ⟨_, h, a, _, 0, _, rfl, rfl, SqT.of ha, at0 _ _, rfl, _, rfl, ?_⟩
  have e : decide (V.str x = V.str w) = decide (x = w) := decide_eq_decide.mpr ⟨fun z => V.str.inj z, fun z => by rw [z]⟩
  rw [e]
  exact q
abbrev sWd : Stmt := top 47
abbrev NWd : List Str := ["drafts", "draft", "rest", "piece"]
def spWd (CD : Addr) : Sp := fun vs H Q _ => ∃ (DL : Addr) (r : DAt) (d : DSt) (Y : Addr → Prop) (rs : List DAt) (ds : List DSt) (ds0 : List V) (k : Nat) (w : WSt), vs = [.ref DL, .ref r.x] ∧ H DL = some (.lst ds0) ∧ DRs CD Y H rs ds ∧ DR CD Y H r d ∧ (DL :: (r.muts ++ mutsL rs)).Nodup ∧
  (∀ b, Y b ↔ b ∈ DL :: (r.muts ++ mutsL rs)) ∧ wrD ds0.length k d = some w ∧
  ∀ (Y' : Addr → Prop) ns H', Fr Y H H' → ns.length = w.news.length → (∀ b, Y' b ↔ b ∈ DL :: (r.muts ++ mutsL (rs ++ ns))) → (∀ b, Y' b → Y b ∨ H b = none) → (DL :: (r.muts ++ mutsL (rs ++ ns))).Nodup → H' DL = some (.lst (ds0 ++ ns.map fun n => .ref n.x)) →
    DRs CD Y' H' (rs ++ ns) (ds ++ w.news) → DR CD Y' H' r { d with l := w.l, ins := w.ins, tgs := w.tgs } → Q .non H'
section
variable {P : Program} {w : World} {K : PySem.W.Frag} {mg : Str → Option Value} {base : Heap} {CD : Addr}
theorem scWd : FnScope NWd ["drafts", "draft"] (defScope sWd) := ⟨rfl, rfl, rfl, by decide +kernel, rfl, by decide +kernel, by decide +kernel⟩
theorem ixN_nat {n i : Nat} (h : i < n) : ixN n (i : Int) = some i := by
  unfold ixN
  rw [if_pos (by omega), if_pos (by omega)]
  rfl
theorem tgs_set {gs : List V} {ts : List (Option Nat)} (al : Als RTg gs ts) {n m : Nat} : Als RTg (gs.set n (.int (m : Nat))) (ts.set n (some m)) := by
  induction al generalizing n with
  | nil => exact .nil
  | cons r rs ih =>
    cases n with
    | zero => exact .cons rfl rs
    | succ n => exact .cons r ih
theorem ok_wd {f fT : Addr} {fd dT : FuncData} (Fn : Fun K "write_draft" "write_draft" sWd f fd) (B : Blt mg) (U : FldC K CD fD6) (GT : Cal P w K mg base CX0 5 "tree_pieces" ["drafts", "draft", "core", "scope", "last"] (spTp CD) fT dT) : FnOk P w K mg base CX0 6 f fd ["drafts", "draft"] (spWd CD) := by
  refine Fn.ok scWd (fun vs H Q E h => ?_) (fun cdv A outer s H vs Q E hr h => ?_)
  · obtain ⟨DL, r, d, Y, rs, ds, ds0, k, w, rfl, _⟩ := h
    rfl
  obtain ⟨DL, r, d, Y, rs, ds, ds0, k, wE, rfl, hDL, hrs, hd, ndp, hY, hw, q⟩ := h
  have nd := scWd.nd
  have hu := hu_of hr
  refine ⟨_, (pss_cons (ps_set (i := 2) nd rfl (Or.inl rfl) (pe_lst (pa_cons (pe_tup (pa_cons pe_str (pa_cons (pe_fld (pv 1) rfl) (pa_cons (pe_fld (pv 1) rfl) (pa_cons pe_bl pa_nil))))) pa_nil)))
    (pss_one (ps_while PassesOwn.never (pt_truth (pv 2) (by intro _; rfl))
      (pss_cons (ps_set (i := 3) nd rfl (Or.inl rfl) (pe_bm0 PySem.F.plainAttrs_list PySem.F.slot_list_pop PySem.F.type_list_pop mt_pop (pv 2)))
      (pss_one (ps_if (pt_cmpR op_eq (pe_ix (r := rIxT K) ix_tup (pv 3) pe_int (fun _ _ => rfl)) pe_str (nomark _)) (pss_one (ps_expr (pe_bm PySem.F.plainAttrs_list PySem.F.slot_list_append PySem.F.type_list_append mt_append (pe_fld (pv 1) rfl) (pa_cons (pe_ix (r := rIxT K) ix_tup (pv 3) pe_int (fun _ _ => rfl)) pa_nil)))) (pss_one (ps_if (pt_cmpR op_eq (pe_ix (r := rIxT K) ix_tup (pv 3) pe_int (fun _ _ => rfl)) pe_str (nomark _)) (pss_one (ps_asg (pe_callB call_len_seq (by rfl) B.len PySem.boot_len (pa_cons (pe_fld (pv 1) rfl) pa_nil)) (pg_sub (pe_fld (pv 1) rfl) (pe_ix (r := rIxT K) ix_tup (pv 3) pe_int (fun _ _ => rfl)) set_list))) (pss_one (ps_expr (pe_bm PySem.F.plainAttrs_list PySem.F.slot_list_extend PySem.F.type_list_extend mt_extend (pv 2) (pa_cons (pe_revL (pe_call GT.ok hr rfl GT.g GT.k GT.b .nil pass0 (pa_cons (pv 0) (pa_cons (pv 1) (pa_cons (pe_ix (r := rIxT K) ix_tup (pv 3) pe_int (fun _ _ => rfl)) (pa_cons (pe_ix (r := rIxT K) ix_tup (pv 3) pe_int (fun _ _ => rfl)) (pa_cons (pe_ix (r := rIxT K) ix_tup (pv 3) pe_int (fun _ _ => rfl)) pa_nil))))))) pa_nil)))))))))))), ?_⟩
  refine ⟨_, rfl, r.x, CD, r.dx, _, _, rfl, hd.x, U.c, U.n _ (by simp), rfl, _, rfl, r.x, CD, r.dx, _, _, rfl, hd.x, U.c, U.n _ (by simp), rfl, by show 4 ≤ sizeLine; decide, fun s1 hs1 => ⟨by show 1 ≤ sizeLine; decide, fun R hR => ?_⟩⟩
  have f1 := Fr.new (X := No) (o := .tup [.str "tree", r.cb, .ref r.e, .bl true]) hs1
  have f2 := Fr.new (X := No) (o := .lst [V.ref s1]) hR
  have f12 := f1.trans f2
  have e1 := f2.tup _ _ upd_same
  have eR : (upd (upd H s1 (.tup [.str "tree", r.cb, .ref r.e, .bl true])) R (.lst [V.ref s1])) R = some (.lst [V.ref s1]) := upd_same
  have hR0 := f1.dom hR
  generalize (upd (upd H s1 (.tup [.str "tree", r.cb, .ref r.e, .bl true])) R (.lst [V.ref s1])) = H1 at f12 e1 eR ⊢
  have th : ∀ b, b ∈ DL :: (r.muts ++ mutsL rs) → H b ≠ none := fun b m => by
    rcases List.mem_cons.mp m with e | m
    · rw [e, hDL]; exact fun z => by cases z
    rcases List.mem_append.mp m with m | m
    · exact hd.there b m
    · exact hrs.there b m
  have zg : ∀ b, zs DL R r rs b → Y b ∨ H b = none := fun b z => by
    rcases List.mem_cons.mp z with e | m
    · rw [e]; exact .inr hR0
    · exact .inl ((hY b).mpr m)
  have w0 : WL CD DL R r Y H rs ds d ds0 H1 [.ref s1] ⟨d.l, d.ins, d.tgs, [.tree d.t d.sc true], []⟩ [] := by
    refine ⟨?_, f12.no, rfl, by rw [List.append_nil]; exact zg⟩
    rw [List.append_nil, List.append_nil]
    have hd1 := (hd.grow zg).fr f12 (fun b z => z.elim) fun b _ z => z
    refine ⟨List.nodup_cons.mpr ⟨fun m => th R m hR0, ndp⟩, eR, ?_, ?_, (hrs.grow zg).fr f12 (fun b z => z.elim) fun b _ z => z, hd1⟩
    · exact .cons (.tree e1 hd1.t hd1.wt hd1.e) .nil
    · rw [List.map_nil, List.append_nil]
      exact f12.keep (fun z => z) rfl hDL
  dsimp only
  refine while_n (fun kk σ H' => ∃ (us : List V) (w : WSt) (nw : List DAt) (v3 : Option V), σ = [some (.ref DL), some (.ref r.x), some (.ref R), v3] ∧ WL CD DL R r Y H rs ds d ds0 H' us w nw ∧ wrF ds0.length kk w = some wE) k
    ⟨_, _, _, _, rfl, w0, hw⟩ ?_ ?_
  · rintro kk σ H' ⟨us, w, nw, v3, rfl, wl, hwr⟩
    have dun := hwr
    refine ⟨_, rfl, !us.isEmpty, .inl ⟨us, SqL.of wl.s.hR, rfl⟩, ?_⟩
    cases kk with
    | zero => unfold wrF at hwr; cases hwr
    | succ kk =>
    unfold wrF at hwr
    have al := wl.s.al
    cases hrest : w.rest with
    | nil =>
      rw [hrest] at hwr al
      cases hwr
      cases al
      refine iteF ?_
      refine q (fun b => b ∈ DL :: (r.muts ++ mutsL (rs ++ nw))) nw H' wl.f wl.ln (fun b => Iff.rfl) (fun b z => wl.hz b (List.mem_cons_of_mem _ z)) (List.nodup_cons.mp wl.s.nd).2 wl.s.hD (wl.s.o.grow fun b z => .inl (List.mem_cons_of_mem _ z)) (wl.s.s.grow fun b z => .inl (List.mem_cons_of_mem _ z))
    | cons p rest =>
      rw [hrest] at hwr al
      dsimp only at hwr
      by_cases lr : rest.length ≤ 900000
      case neg => rw [if_neg lr] at hwr; cases hwr
      rw [if_pos lr] at hwr
      obtain ⟨v, ws, eus, rp, al1⟩ := al.last
      subst eus
      have ie : (!(ws ++ [v]).isEmpty) = true := by cases ws <;> rfl
      rw [ie]
      refine iteT ?_
      refine ⟨_, rfl, .inl ⟨rfl, _, SqL.of wl.s.hR⟩, R, _, v, rfl, rfl, wl.s.hR, by simp, ?_⟩
      rw [List.dropLast_concat]
      obtain ⟨s2, f2⟩ := wl.s.setR al1
      have rp2 := rp.fr f2
      have wl2 : WL CD DL R r Y H rs ds d ds0 _ ws { w with rest := rest } nw := wl.go f2 s2 rfl
      generalize upd H' R (.lst ws) = H2 at f2 s2 rp2 wl2 ⊢
      cases rp2 with
      | @write a v' dn ha rd =>
        cases hst : wrStep ds0.length { w with rest := rest } (.write dn) with
        | none => rw [hst] at hwr; cases hwr
        | some w1 =>
        rw [hst] at hwr
        unfold wrStep at hst
        dsimp only at hst
        obtain ⟨lim, rfl⟩ := gate_ok hst
        refine ev_at rfl ha ?_
        refine ite2 (fun _ => ?_) (fun c => absurd (decide_eq_true (show ("write" : Str) = "write" from rfl)) c)
        obtain ⟨is, i1, i2⟩ := s2.s.L
        have li : is.length = w.ins.length := i2.len
        refine ⟨_, rfl, r.x, CD, r.dx, _, _, rfl, s2.s.x, U.c, U.n _ (by simp), rfl, .inl ⟨rfl, _, SqL.of i1⟩, _, rfl, a, _, 1, _, rfl, rfl, SqT.of ha, at1 _ _ _, r.L, _, _, rfl, rfl, i1, Nat.lt_of_lt_of_le (show is.length < 900000 by omega) (by decide), ?_⟩
        obtain ⟨s3, f3⟩ := s2.insn i1 rd
        exact ⟨kk, Nat.lt_succ_self _, _, _, nw, _, rfl, wl2.go (w' := { w with rest := rest, ins := w.ins ++ [dn] }) f3 s3 rfl, (show wrF _ kk _ = some wE from hwr)⟩
      | @label a n ha =>
        cases hst : wrStep ds0.length { w with rest := rest } (.label n) with
        | none => rw [hst] at hwr; cases hwr
        | some w1 =>
        rw [hst] at hwr
        unfold wrStep at hst
        dsimp only at hst
        obtain ⟨lim, rfl⟩ := gate_ok hst
        refine ev_at rfl ha ?_
        refine ite2 (fun c => absurd (of_decide_eq_true c) (show ¬ ("label" : Str) = "write" by decide +kernel)) (fun _ => ?_)
        refine ev_at rfl ha ?_
        refine ite2 (fun _ => ?_) (fun c => absurd (decide_eq_true (show ("label" : Str) = "label" from rfl)) c)
        obtain ⟨is, i1, i2⟩ := s2.s.L
        obtain ⟨gs, g1, g2⟩ := s2.s.G
        have li : is.length = w.ins.length := i2.len
        have lg : gs.length = w.tgs.length := g2.len
        refine ⟨_, rfl, r.x, CD, r.dx, _, _, rfl, s2.s.x, U.c, U.n _ (by simp), rfl, r.L, _, rfl, .inl (SqL.of i1), _, rfl, r.x, CD, r.dx, _, _, rfl, s2.s.x, U.c, U.n _ (by simp), rfl, _, rfl, a, _, 1, _, rfl, rfl, SqT.of ha, at1 _ _ _, ?_⟩
        refine ⟨r.G, gs, _, n, rfl, rfl, g1, ixN_nat (by omega), ?_⟩
        obtain ⟨s3, f3⟩ := s2.tgs (gs' := gs.set n (.int is.length)) (ts := w.tgs.set n (some w.ins.length)) g1 (by rw [li]; exact tgs_set g2)
        exact ⟨kk, Nat.lt_succ_self _, _, _, nw, _, rfl, wl2.go (w' := { w with rest := rest, tgs := w.tgs.set n (some w.ins.length) }) f3 s3 rfl, (show wrF _ kk _ = some wE from hwr)⟩
      | @tree a e c t sc last ha rt wt sd =>
        cases hst : wrStep ds0.length { w with rest := rest } (.tree t sc last) with
        | none => rw [hst] at hwr; cases hwr
        | some w' =>
        rw [hst] at hwr
        refine ev_at rfl ha ?_
        refine ite2 (fun c => absurd (of_decide_eq_true c) (show ¬ ("tree" : Str) = "write" by decide +kernel)) (fun _ => ?_)
        refine ev_at rfl ha ?_
        refine ite2 (fun c => absurd (of_decide_eq_true c) (show ¬ ("tree" : Str) = "label" by decide +kernel)) (fun _ => ?_)
        refine ⟨_, rfl, .inl ⟨rfl, _, SqL.of s2.hR⟩, _, rfl, _, rfl, _, rfl, a, _, 1, _, rfl, rfl, SqT.of ha, at1 _ _ _, _, rfl, a, _, 2, _, rfl, rfl, SqT.of ha, atI_nat (j := 2) rfl, _, rfl, a, _, 3, _, rfl, rfl, SqT.of ha, atI_nat (j := 3) rfl, ?_⟩
        refine ⟨DL, r.x, e, c, t, last, rfl, rt, ?_⟩
        refine tp_all wl2 rt wt sd hst fun H3 nw' L us2 pcs w1 wl3 er ew hL al2 l2 nz => ?_
        refine ⟨L, us2, rfl, SqL.of hL, fun p hp => ?_⟩
        have f4 : Fr No H3 (upd H3 p (.lst us2.reverse)) := Fr.new hp
        have wl4 := wl3.no f4
        have ep : upd H3 p (.lst us2.reverse) p = some (.lst us2.reverse) := upd_same
        have al4 := al2.mono fun _ _ r => r.fr f4.no
        generalize upd H3 p (.lst us2.reverse) = H4 at f4 wl4 ep al4 ⊢
        have lw : ws.length = rest.length := by rw [al1.len, List.length_reverse]
        refine ⟨R, p, _, _, rfl, rfl, wl4.s.hR, ep, ?_, ?_⟩
        · rw [List.length_reverse]
          exact Nat.le_trans (show ws.length + us2.length ≤ 1000000 by omega) (by decide)
        have al5 : Als (RPc (zs DL R r (rs ++ nw')) H4) (ws ++ us2.reverse) (pcs ++ w1.rest).reverse := by
          rw [List.reverse_append]
          exact wl4.s.al.app al4.rev
        obtain ⟨s5, f5⟩ := wl4.s.setR (rest' := pcs ++ w1.rest) al5
        rw [ew] at hwr
        exact ⟨kk, Nat.lt_succ_self _, _, _, nw', _, rfl, wl4.go (w' := { w1 with rest := pcs ++ w1.rest }) f5 s5 rfl, (show wrF _ kk _ = some wE from hwr)⟩
  · rintro σ H0 Q1 Q2 hm ⟨x, e, kk, h6, h7⟩
    exact ⟨x, e, kk, h6, hm _ _ h7⟩
end
end My
namespace My
open PySem PySem.Spec PyProof.Rows L2 TL
/-! ### compile_core -/
theorem DRs.unapp {CD : Addr} {Y : Addr → Prop} {H : Hp} : ∀ {rs ss : List DAt} {ds es : List DSt}, DRs CD Y H (rs ++ ss) (ds ++ es) → rs.length = ds.length → DRs CD Y H rs ds ∧ DRs CD Y H ss es
  | [], _, [], _, h, _ => ⟨.nil, h⟩
  | _ :: _, _, _ :: _, _, .cons h hs, e => by
    obtain ⟨a, b⟩ := DRs.unapp hs (by simpa using e)
    exact ⟨.cons h a, b⟩
theorem DRs.split3 {CD : Addr} {Y : Addr → Prop} {H : Hp} : ∀ {all : List DAt} {da db : List DSt} {d : DSt}, DRs CD Y H all (da ++ d :: db) → ∃ A r B, all = A ++ r :: B ∧ DRs CD Y H A da ∧ DR CD Y H r d ∧ DRs CD Y H B db
  | _, [], _, _, .cons h hs => ⟨[], _, _, rfl, .nil, h, hs⟩
  | _, _ :: da, _, _, .cons h hs => by
    obtain ⟨A, r, B, e, h1, h2, h3⟩ := DRs.split3 (da := da) hs
    exact ⟨_ :: A, r, B, by rw [e]; rfl, .cons h h1, h2, h3⟩
theorem DRs.get {CD : Addr} {Y : Addr → Prop} {H : Hp} : ∀ {all : List DAt} {ds : List DSt} {i : Nat} {d : DSt}, DRs CD Y H all ds → ds[i]? = some d → ∃ r, all[i]? = some r ∧ DR CD Y H r d
  | _, _, _, _, .nil, e => by simp at e
  | _, _, 0, _, .cons h hs, e => by cases e; exact ⟨_, rfl, h⟩
  | _, _, i + 1, _, .cons h hs, e => by
    obtain ⟨r, h1, h2⟩ := DRs.get (i := i) hs (by simpa using e)
    exact ⟨r, by simpa using h1, h2⟩
theorem putK_len (kvs : List (Key × V)) (k : Key) (v : V) : (putK kvs k v).length ≤ kvs.length + 1 := by
  unfold putK
  split
  · rw [List.length_map]; omega
  · rw [List.length_append]; exact Nat.le_refl _
theorem muts_perm (DL : Addr) (A B : List DAt) (r : DAt) : (DL :: mutsL (A ++ r :: B)).Perm (DL :: (r.muts ++ mutsL (A ++ B))) := by
  refine List.Perm.cons _ ?_
  rw [mutsL_app, mutsL_app]
  show (mutsL A ++ (r.muts ++ mutsL B)).Perm (r.muts ++ (mutsL A ++ mutsL B))
  rw [← List.append_assoc, ← List.append_assoc]
  exact List.Perm.append_right _ List.perm_append_comm
theorem CdR.put {H : Hp} {kvs : List (Key × V)} {cs : Nat → Option Code} {u : V} {c : Code} {i : Nat} (h : CdR H kvs cs) (r : RC H u c) : CdR H (putK kvs (.inl (i : Int)) u) (fun j => if j = i then some c else cs j) := by
  intro k c' e
  dsimp only at e
  rw [valV_put]
  by_cases z : k = i
  · rw [if_pos z] at e
    cases e
    exact ⟨u, by rw [z, if_pos rfl], r⟩
  · rw [if_neg z] at e
    obtain ⟨v, h1, h2⟩ := h k c' e
    exact ⟨v, by rw [if_neg (fun q => z (by have := Sum.inl.inj q; omega))]; exact h1, h2⟩
abbrev sCc : Stmt := top 50
abbrev NCc : List Str := ["core", "drafts", "written", "codes", "at"]
def spCc : Sp := fun vs H Q _ => ∃ (c : V) (t : Tr) (k n : Nat) (code : Code), vs = [c] ∧ RT H c t ∧ widT t ∧ compF k n t = some code ∧ ∀ u H', Fr No H H' → RC H' u code → Q u H'
def dz (DL : Addr) (all : List DAt) : Addr → Prop := fun b => b ∈ DL :: mutsL all
structure CC (CD DL : Addr) (H0 H : Hp) (all : List DAt) (ds : List DSt) : Prop where
  nd : (DL :: mutsL all).Nodup
  hD : H DL = some (.lst (all.map fun n => V.ref n.x))
  o : DRs CD (dz DL all) H all ds
  f : Fr No H0 H
  new : ∀ b, dz DL all b → H0 b = none
section
variable {P : Program} {w : World} {K : PySem.W.Frag} {mg : Str → Option Value} {base : Heap} {CD : Addr}
theorem scCc : FnScope NCc ["core"] (defScope sCc) := ⟨rfl, rfl, rfl, by decide +kernel, rfl, by decide +kernel, by decide +kernel⟩
theorem ok_cc {f fW fF fI : Addr} {fd dW dF dI : FuncData} (Fn : Fun K "compile_core" "compile_core" sCc f fd) (B : Blt mg) (B2 : Bl2 mg) (U : FldC K CD fD6) (MD : MkC P w K mg base 1 "Draft" ["self", "parameters", "body", "scope"] (spDrI CD) CD fI dI) (GW : Cal P w K mg base CX0 6 "write_draft" ["drafts", "draft"] (spWd CD) fW dW)
    (GF : Cal P w K mg base CX0 2 "final_code" ["draft", "codes"] (spFc CD) fF dF) : FnOk P w K mg base CX0 7 f fd ["core"] spCc := by
  refine Fn.ok scCc (fun vs H Q E h => ?_) (fun cdv A outer s H vs Q E hr h => ?_)
  · obtain ⟨c, t, k, n, code, rfl, _⟩ := h
    rfl
  obtain ⟨c, t, k, n, code, rfl, rt, wt, hcomp, q⟩ := h
  have nd := scCc.nd
  have hu := hu_of hr
  have r2 := hr.mono (show 2 ≤ 6 by decide)
  unfold compF at hcomp
  cases hwa : wrAll k n [] [⟨0, 0, [], [], t, []⟩] with
  | none => rw [hwa] at hcomp; cases hcomp
  | some fin =>
  rw [hwa] at hcomp
  dsimp only at hcomp
  by_cases lfin : fin.length ≤ 900000
  case neg => rw [if_neg lfin] at hcomp; cases hcomp
  rw [if_pos lfin] at hcomp
  cases hco : codesF fin fin.length (fun _ => none) with
  | none => rw [hco] at hcomp; cases hcomp
  | some cs0 =>
  rw [hco] at hcomp
  dsimp only at hcomp
  refine ⟨_, (pss_cons (ps_set (i := 1) nd rfl (Or.inl rfl) (pe_lst (pa_cons (pe_make (E := fun _ _ _ => False) MD.m MD.ok r2 rfl MD.g MD.b .nil pass0 (pa_cons pe_int (pa_cons (pv 0) (pa_cons pe_dnewK pa_nil)))) pa_nil)))
    (pss_cons (ps_set (i := 2) nd rfl (Or.inl rfl) pe_int)
    (pss_cons (ps_while PassesOwn.never (pt_cmpR op_lt (pv 2) (pe_callB call_len_seq (by rfl) B.len PySem.boot_len (pa_cons (pv 1) pa_nil)) (nomark _))
      (pss_cons (ps_expr (pe_call GW.ok hr rfl GW.g GW.k GW.b .nil pass0 (pa_cons (pv 1) (pa_cons (pe_ix (r := rIxL K) ix_list (pv 1) (pv 2) (fun _ _ => rfl)) pa_nil))))
      (pss_one (ps_aug (i := 2) nd rfl (Or.inl rfl) pe_int ip_add))))
    (pss_cons (ps_set (i := 3) nd rfl (Or.inl rfl) pe_dnewK)
    (pss_cons (ps_for PassesOwn.never rfl (pi_revR rfl B2.reversed (prg_1 rfl B.range (pe_callB call_len_seq (by rfl) B.len PySem.boot_len (pa_cons (pv 1) pa_nil)))) (pg_name (i := 4) nd rfl (Or.inl rfl))
      (pss_one (ps_dput hu (pv 3) (pv 4) (pe_call GF.ok r2 rfl GF.g GF.k GF.b .nil pass0 (pa_cons (pe_ix (r := rIxL K) ix_list (pv 1) (pv 4) (fun _ _ => rfl)) (pa_cons (pv 3) pa_nil))) rfl)))
    (pss_one (ps_ret (pe_dget hu (pv 3) pe_int (fun _ _ => rfl))))))))), ?_⟩
  refine ⟨_, rfl, fun e he => ?_⟩
  have fe : Fr No H (upd H e (.dK [])) := Fr.new he
  have ee : upd H e (.dK []) e = some (.dK []) := upd_same
  generalize upd H e (.dK []) = He at fe ee ⊢
  refine fun x dx hx hdx ne => ⟨x, dx, e, 0, c, rfl, upd_same, fun L G H5 hL hG nLG f5 e5L e5G e5x => ⟨rfl, by show 1 ≤ sizeLine; decide, fun DL hDL => ?_⟩⟩
  have fm : Fr No He (upd (upd He dx (.own x)) x (.ins CD dx [])) := mk_fr hx hdx ne
  have xm : upd (upd He dx (.own x)) x (.ins CD dx []) x = some (.ins CD dx []) := upd_same
  have em := fm.keep (fun z => z) rfl ee
  generalize upd (upd He dx (.own x)) x (.ins CD dx []) = Hm at fm xm em f5 hL hG ⊢
  have hx0 : H x = none := fe.dom hx
  have nex : e ≠ x := ne_of_none ee hx
  have f05 : Fr No H H5 := (fe.trans fm).drop f5 fun b z => by rw [z]; exact hx0
  have f6 : Fr No H5 (upd H5 DL (.lst [.ref x])) := Fr.new hDL
  have e6 : upd H5 DL (.lst [.ref x]) DL = some (.lst [.ref x]) := upd_same
  have f06 := f05.trans f6
  have e5 := f5.keep nex rfl em
  have c0 : CC CD DL H (upd H5 DL (.lst [.ref x])) [⟨x, dx, e, L, G, c⟩] ([] ++ [⟨0, 0, [], [], t, []⟩]) := by
    have nDx : DL ≠ x := fun z => by rw [z, e5x] at hDL; cases hDL
    have nDL : DL ≠ L := fun z => by rw [z, e5L] at hDL; cases hDL
    have nDG : DL ≠ G := fun z => by rw [z, e5G] at hDL; cases hDL
    have nDe : e ≠ DL := fun z => by rw [← z, e5] at hDL; cases hDL
    have nxL : x ≠ L := fun z => by rw [← z, xm] at hL; cases hL
    have nxG : x ≠ G := fun z => by rw [← z, xm] at hG; cases hG
    have neL : e ≠ L := fun z => by rw [← z, em] at hL; cases hL
    have neG : e ≠ G := fun z => by rw [← z, em] at hG; cases hG
    refine ⟨?_, e6, .cons ⟨f6.keep (fun z => z) rfl e5x, ⟨[], f6.keep (fun z => z) rfl e5L, .nil⟩, ⟨[], f6.keep (fun z => z) rfl e5G, .nil⟩, rt.keep f06.tup, ⟨[], f6.keep (fun z => z) rfl e5, fun z => ?_, .nil, Nat.zero_le _⟩, wt⟩ .nil, f06, fun b z => ?_⟩
    · show [DL, x, L, G].Nodup
      simp [nDx, nDL, nDG, nxL, nxG, nLG]
    · have z : e ∈ [DL, x, L, G] := z
      simp [nDe, nex, neL, neG] at z
    · have z : b ∈ [DL, x, L, G] := z
      simp only [List.mem_cons, List.not_mem_nil, or_false] at z
      rcases z with z | z | z | z <;> rw [z]
      · exact f05.dom hDL
      · exact hx0
      · exact (fe.trans fm).dom hL
      · exact (fe.trans fm).dom hG
  generalize upd H5 DL (.lst [.ref x]) = H6 at f06 c0 ⊢
  dsimp only
  refine seq_of (while_n (fun m σ H' => ∃ (all : List DAt) (done rest : List DSt) (v3 v4 : Option V), σ = [some c, some (.ref DL), some (.int done.length), v3, v4] ∧ CC CD DL H H' all (done ++ rest) ∧ wrAll k m done rest = some fin) n
    ⟨_, [], _, none, none, rfl, c0, hwa⟩ ?_ ?_)
  · rintro m σ H' ⟨all, done, rest, v3, v4, rfl, cc, hwr⟩
    have la : (all.map fun n => V.ref n.x).length = done.length + rest.length := by rw [List.length_map, cc.o.len, List.length_append]
    refine ⟨_, rfl, _, rfl, DL, _, rfl, .inl (SqL.of cc.hD), _, _, rfl, rfl, _, rfl, ?_⟩
    rw [la]
    cases m with
    | zero => unfold wrAll at hwr; cases hwr
    | succ m =>
    cases rest with
    | nil =>
      unfold wrAll at hwr
      cases hwr
      rw [show decide ((fin.length : Int) < ((fin.length + ([] : List DSt).length : Nat) : Int)) = false from decide_eq_false (by simp)]
      refine iteF ?_
      rw [List.append_nil] at cc
      rw [List.length_nil, Nat.add_zero] at la
      refine fun cd hcd => ?_
      have fc : Fr No H' (upd H' cd (.dK [])) := Fr.new hcd
      have ec : upd H' cd (.dK []) cd = some (.dK []) := upd_same
      generalize upd H' cd (.dK []) = Hc at fc ec ⊢
      refine ⟨_, rfl, DL, _, rfl, .inl (SqL.of (fc.keep (fun z => z) rfl cc.hD)), _, rfl, by decide, by decide, ?_, ?_, ?_⟩
      · rw [la]; exact Int.le_trans (by decide) (Int.natCast_nonneg _)
      · rw [la]; omega
      have en : (((all.map fun n => V.ref n.x).length : Int) - 0).toNat = fin.length := by rw [la]; omega
      rw [en]
      refine for_rangeC (fun i σ H2 => ∃ (kvs : List (Key × V)) (cs : Nat → Option Code) (v4 : Option V), σ = [some c, some (.ref DL), some (.int fin.length), some (.ref cd), v4] ∧ H2 cd = some (.dK kvs) ∧ CdR H2 kvs cs ∧ kvs.length ≤ i ∧ codesF fin (fin.length - i) cs = some cs0 ∧ Fr No H' H2)
        ⟨[], fun _ => none, _, rfl, ec, fun k c h => (by cases h), Nat.le_refl _, hco, fc⟩ ?_ ?_
      · rintro i σ H2 hi ⟨kvs, cs, v4, rfl, h1, h2, h3, h4, h5⟩
        rw [show fin.length - i = (fin.length - 1 - i) + 1 by omega] at h4
        unfold codesF at h4
        cases hd : fin[fin.length - 1 - i]? with
        | none => rw [hd] at h4; cases h4
        | some d =>
        rw [hd] at h4
        dsimp only at h4
        by_cases ld : d.ins.length ≤ 1000000
        case neg => rw [if_neg ld] at h4; cases h4
        rw [if_pos ld] at h4
        cases hf : finC d.tgs cs d.ins with
        | none => rw [hf] at h4; cases h4
        | some is =>
        rw [hf] at h4
        dsimp only at h4
        obtain ⟨r, hr', dr⟩ := cc.o.get hd
        have hat : (all.map fun n => V.ref n.x)[fin.length - 1 - i]? = some (.ref r.x) := by rw [List.getElem?_map, hr']; rfl
        have ej : (0 : Int) + (fin.length : Nat) - 1 + (i : Nat) * -1 = ((fin.length - 1 - i : Nat) : Int) := by omega
        rw [ej]
        generalize ejj : fin.length - 1 - i = j at h4 hat ⊢
        have dr2 := dr.fr h5 (fun b z => z.elim) fun b _ z => z
        obtain ⟨us, u1, u2⟩ := dr2.L
        obtain ⟨gs, g1, g2⟩ := dr2.G
        refine ⟨_, rfl, _, rfl, DL, _, _, _, rfl, rfl, SqL.of (h5.keep (fun z => z) rfl cc.hD), atI_nat hat, _, rfl, ?_⟩
        refine ⟨r.x, r.dx, cd, r.e, r.L, r.G, d.p, d.l, r.cb, us, gs, d.ins, d.tgs, kvs, cs, is, rfl, dr2.x, u1, u2, by rw [u2.len]; exact ld, g1, g2, h1, h2, hf, fun u H3 f3 rc => ?_⟩
        have h1' := f3.keep (fun z => z) rfl h1
        refine ⟨_, rfl, _, rfl, cd, _, rfl, DPut.k (k := .inl (j : Int)) h1' (Nat.lt_of_le_of_lt (show kvs.length ≤ 900000 by omega) (by decide)), ?_⟩
        have fm : Fr (fun b => b = cd) H3 (upd H3 cd (.dK (putK kvs (.inl (j : Int)) u))) := Fr.set rfl h1' rfl
        refine ⟨putK kvs (.inl (j : Int)) u, _, _, rfl, upd_same, CdR.put ((h2.keep f3.tup).keep fm.tup) (rc.keep fm.tup), ?_, by rw [show fin.length - (i + 1) = j by omega]; exact h4, (h5.trans f3).mut hcd h1' rfl⟩
        exact Nat.le_trans (putK_len _ _ _) (by omega)
      · rintro σ H2 ⟨kvs, cs, v4, rfl, h1, h2, h3, h4, h5⟩
        rw [Nat.sub_self] at h4
        cases h4
        obtain ⟨v, k1, k2⟩ := h2 _ _ hcomp
        have dg := DGet.k (k := (.inl ((0 : Nat) : Int) : Key)) h1
        rw [k1] at dg
        exact ⟨_, rfl, cd, _, rfl, dg, q _ _ (cc.f.trans h5) k2⟩
    | cons d rest =>
      unfold wrAll at hwr
      rw [show decide ((done.length : Int) < ((done.length + (d :: rest).length : Nat) : Int)) = true from decide_eq_true (by rw [List.length_cons]; omega)]
      refine iteT ?_
      cases hw1 : wrD (done.length + 1 + rest.length) k d with
      | none => rw [hw1] at hwr; cases hwr
      | some wE =>
      rw [hw1] at hwr
      dsimp only at hwr
      obtain ⟨A, r, B', rfl, oA, oR, oB⟩ := cc.o.split3
      have lA : A.length = done.length := oA.len
      have pm := muts_perm DL A B' r
      have hat : ((A ++ r :: B').map fun n => V.ref n.x)[done.length]? = some (.ref r.x) := by
        rw [← lA, List.map_append, List.getElem?_append_right (by rw [List.length_map]; exact Nat.le_refl _), List.length_map, Nat.sub_self]
        rfl
      refine ⟨_, rfl, _, rfl, _, rfl, DL, _, _, _, rfl, rfl, SqL.of cc.hD, atI_nat hat, ?_⟩
      have hY : ∀ b, dz DL (A ++ r :: B') b ↔ b ∈ DL :: (r.muts ++ mutsL (A ++ B')) := fun b => pm.mem_iff
      refine ⟨DL, r, d, dz DL (A ++ r :: B'), A ++ B', done ++ rest, _, k, wE, rfl, cc.hD, oA.app oB, oR, pm.nodup_iff.mp cc.nd, hY, by rw [la, List.length_cons, show done.length + (rest.length + 1) = done.length + 1 + rest.length by omega]; exact hw1, fun Y' ns H2 f2 ln hY' hz nd2 hD2 o2 s2 => ?_⟩
      have pm2 := muts_perm DL A (B' ++ ns) r
      rw [← List.append_assoc] at pm2
      have o3 : DRs CD Y' H2 (A ++ B') (done ++ rest) ∧ DRs CD Y' H2 ns wE.news := o2.unapp (by rw [List.length_append, List.length_append, lA, oB.len])
      have o4 := o3.1.unapp lA
      have hYd : ∀ b, Y' b ↔ dz DL (A ++ r :: (B' ++ ns)) b := fun b => (hY' b).trans pm2.mem_iff.symm
      have eY : Y' = dz DL (A ++ r :: (B' ++ ns)) := funext fun b => propext (hYd b)
      rw [eY] at o3 o4 s2
      have c2 : CC CD DL H H2 (A ++ r :: (B' ++ ns)) ((done ++ [{ d with l := wE.l, ins := wE.ins, tgs := wE.tgs }]) ++ (rest ++ wE.news)) := by
        refine ⟨pm2.nodup_iff.mpr nd2, ?_, ?_, cc.f.drop f2 cc.new, fun b z => ?_⟩
        · rw [hD2, List.map_append, List.map_append, List.map_cons, List.map_cons, List.map_append, List.append_assoc]
          rfl
        · rw [List.append_assoc]
          exact o4.1.app (.cons s2 (o4.2.app o3.2))
        · rcases hz b ((hYd b).mpr z) with z | z
          · exact cc.new b z
          · exact cc.f.dom z
      refine ⟨_, rfl, _, _, rfl, rfl, ?_⟩
      refine ⟨m, Nat.lt_succ_self _, A ++ r :: (B' ++ ns), done ++ [{ d with l := wE.l, ins := wE.ins, tgs := wE.tgs }], rest ++ wE.news, v3, v4, ?_, c2, hwr⟩
      show [some c, some (V.ref DL), some (V.int ((done.length : Int) + 1)), v3, v4] = _
      rw [List.length_append]
      rfl
  · rintro σ H0 Q1 Q2 hm ⟨x, e, x2, e2, b1, b2, b3, b4, b5, b6, b7, b8, b9, b10, h7⟩
    exact ⟨x, e, x2, e2, b1, b2, b3, b4, b5, b6, b7, b8, b9, b10, hm _ _ h7⟩
end
end My
namespace My
open PySem PySem.Spec PyProof.Rows L2 TL
/-! ### the machine's frames and state -/
structure FA where
  x : Addr
  dx : Addr
  q : Addr
  P : Addr
  S : Addr
  e : Addr
/-- a frame: its stack the newest first -/
structure FS where
  is : List Ins
  at_ : Nat
  pl : List Vl
  st : List Vl
  ks : List Vl
abbrev fF5 : List Str := ["instructions", "at", "places", "stack", "kept"]
abbrev fM6 : List Str := ["most", "steps", "defined", "frames", "most_frames", "result"]
def ffl (q : Addr) (n : Nat) (P S e : Addr) : List (Str × V) := [("instructions", .ref q), ("at", .int n), ("places", .ref P), ("stack", .ref S), ("kept", .ref e)]
def FA.muts (a : FA) : List Addr := [a.x, a.P, a.S]
structure RF (CF : Addr) (C : Cs) (X : Addr → Prop) (H : Hp) (a : FA) (s : FS) : Prop where
  x : H a.x = some (.ins CF a.dx (ffl a.q s.at_ a.P a.S a.e))
  q : ∃ vs, H a.q = some (.tup vs) ∧ RIs H vs s.is
  P : ∃ vs, H a.P = some (.lst vs) ∧ RVs C X H vs s.pl
  S : ∃ vs, H a.S = some (.lst vs) ∧ RVs C X H vs s.st.reverse
  e : ∃ vs, H a.e = some (.lst vs) ∧ ¬ X a.e ∧ RVs C X H vs s.ks
inductive RFs (CF : Addr) (C : Cs) (X : Addr → Prop) (H : Hp) : List FA → List FS → Prop
  | nil : RFs CF C X H [] []
  | cons {a : FA} {s : FS} {fa : List FA} {ss : List FS} (h : RF CF C X H a s) (hs : RFs CF C X H fa ss) : RFs CF C X H (a :: fa) (s :: ss)
def mutF : List FA → List Addr
  | [] => []
  | a :: r => a.muts ++ mutF r
structure MA where
  R : Addr
  dx : Addr
  FL : Addr
  D : Addr
structure MS where
  n : Nat
  mf : Nat
  fs : List FS
  res : Option Vl
def mfl (p : MA) (m : Wd) (n mf : Nat) (rv : V) : List (Str × V) := [("most", .int m.m), ("steps", .int n), ("defined", .ref p.D), ("frames", .ref p.FL), ("most_frames", .int mf), ("result", rv)]
def RRes (C : Cs) (X : Addr → Prop) (H : Hp) (rv : V) : Option Vl → Prop
  | none => rv = .non
  | some x => RV C X H rv x
structure RM (CM CF : Addr) (C : Cs) (X : Addr → Prop) (H : Hp) (p : MA) (fa : List FA) (m : Wd) (s : MS) : Prop where
  r : ∃ rv, H p.R = some (.ins CM p.dx (mfl p m s.n s.mf rv)) ∧ RRes C X H rv s.res
  fl : H p.FL = some (.lst (fa.reverse.map fun a => V.ref a.x))
  fs : RFs CF C X H fa s.fs
  d : RDf C X H p.D m.gl
  nd : (p.R :: p.FL :: mutF fa).Nodup
  xx : ∀ b ∈ p.R :: p.FL :: mutF fa, X b
  dom : ∀ b, X b → H b ≠ none
section
variable {CM CF : Addr} {C : Cs} {X Y W : Addr → Prop} {H H' : Hp} {a : FA} {s s' : FS} {fa : List FA} {ss : List FS} {p : MA} {m : Wd} {ms : MS}
theorem RF.fr (h : RF CF C X H a s) (f : Fr W H H') (hw : ∀ b, W b → X b) (n : ∀ b ∈ a.muts, ¬ W b) : RF CF C X H' a s := by
  obtain ⟨q1, q2, q3⟩ := h.q
  obtain ⟨p1, p2, p3⟩ := h.P
  obtain ⟨s1, s2, s3⟩ := h.S
  obtain ⟨e1, e2, e3, e4⟩ := h.e
  have fX := f.wide hw
  exact ⟨f.keep (n _ (by simp [FA.muts])) rfl h.x, ⟨q1, f.tup _ _ q2, q3.keep f.tup⟩, ⟨p1, f.keep (n _ (by simp [FA.muts])) rfl p2, p3.fr fX⟩, ⟨s1, f.keep (n _ (by simp [FA.muts])) rfl s2, s3.fr fX⟩, ⟨e1, fX.keep e3 rfl e2, e3, e4.fr fX⟩⟩
theorem RF.grow (h : RF CF C X H a s) (g : ∀ b, Y b → X b ∨ H b = none) : RF CF C Y H a s := by
  obtain ⟨p1, p2, p3⟩ := h.P
  obtain ⟨s1, s2, s3⟩ := h.S
  obtain ⟨e1, e2, e3, e4⟩ := h.e
  exact ⟨h.x, h.q, ⟨p1, p2, p3.grow g⟩, ⟨s1, s2, s3.grow g⟩, ⟨e1, e2, fun z => (g _ z).elim e3 fun n => (by rw [e2] at n; cases n), e4.grow g⟩⟩
theorem RFs.fr (f : Fr W H H') (hw : ∀ b, W b → X b) : ∀ {fa : List FA} {ss : List FS}, RFs CF C X H fa ss → (∀ b ∈ mutF fa, ¬ W b) → RFs CF C X H' fa ss
  | _, _, .nil, _ => .nil
  | _, _, .cons h hs, n => .cons (h.fr f hw fun b m => n b (List.mem_append_left _ m)) (RFs.fr f hw hs fun b m => n b (List.mem_append_right _ m))
theorem RFs.grow (g : ∀ b, Y b → X b ∨ H b = none) : ∀ {fa : List FA} {ss : List FS}, RFs CF C X H fa ss → RFs CF C Y H fa ss
  | _, _, .nil => .nil
  | _, _, .cons h hs => .cons (h.grow g) (RFs.grow g hs)
theorem RFs.len : ∀ {fa : List FA} {ss : List FS}, RFs CF C X H fa ss → fa.length = ss.length
  | _, _, .nil => rfl
  | _, _, .cons _ hs => congrArg (· + 1) (RFs.len hs)
theorem RRes.fr (f : Fr X H H') {rv : V} {r : Option Vl} (h : RRes C X H rv r) : RRes C X H' rv r := by
  cases r with
  | none => exact h
  | some x => exact RV.fr f h
theorem RRes.grow (g : ∀ b, Y b → X b ∨ H b = none) {rv : V} {r : Option Vl} (h : RRes C X H rv r) : RRes C Y H rv r := by
  cases r with
  | none => exact h
  | some x => exact RV.grow g h
structure NeM (p : MA) (fa : List FA) : Prop where
  RF : p.R ≠ p.FL
  Rm : ∀ b ∈ mutF fa, b ≠ p.R
  Fm : ∀ b ∈ mutF fa, b ≠ p.FL
  m : (mutF fa).Nodup
theorem RM.ne (h : RM CM CF C X H p fa m ms) : NeM p fa := by
  obtain ⟨h1, h2⟩ := List.nodup_cons.mp h.nd
  obtain ⟨h3, h4⟩ := List.nodup_cons.mp h2
  exact ⟨fun e => h1 (by rw [e]; exact List.mem_cons_self), fun b m e => h1 (List.mem_cons_of_mem _ (by rw [← e]; exact m)), fun b m e => h3 (by rw [← e]; exact m), h4⟩
theorem RM.xR (h : RM CM CF C X H p fa m ms) : X p.R := h.xx _ List.mem_cons_self
theorem RM.xF (h : RM CM CF C X H p fa m ms) : X p.FL := h.xx _ (List.mem_cons_of_mem _ List.mem_cons_self)
theorem RM.xm (h : RM CM CF C X H p fa m ms) : ∀ b ∈ mutF fa, X b := fun b m => h.xx _ (List.mem_cons_of_mem _ (List.mem_cons_of_mem _ m))
theorem RM.neRD (h : RM CM CF C X H p fa m ms) : p.D ≠ p.R := by
  obtain ⟨kvs, t1, _⟩ := h.d
  obtain ⟨rv, r1, _⟩ := h.r
  exact ne_of t1 r1 fun z => by cases z
theorem RM.neFD (h : RM CM CF C X H p fa m ms) : p.D ≠ p.FL := by
  obtain ⟨kvs, t1, _⟩ := h.d
  exact ne_of t1 h.fl fun z => by cases z
theorem RF.neD {D : Addr} {gl : Gl} (h : RF CF C X H a s) (d : RDf C Y H D gl) : D ∉ a.muts := fun z => by
  obtain ⟨kvs, t1, _⟩ := d
  obtain ⟨p1, p2, _⟩ := h.P
  obtain ⟨s1, s2, _⟩ := h.S
  have z : D ∈ [a.x, a.P, a.S] := z
  simp only [List.mem_cons, List.not_mem_nil, or_false] at z
  rcases z with e | e | e
  · rw [e, h.x] at t1; cases t1
  · rw [e, p2] at t1; cases t1
  · rw [e, s2] at t1; cases t1
theorem RDf.grow {D : Addr} {gl : Gl} (g : ∀ b, Y b → X b ∨ H b = none) (d : RDf C X H D gl) : RDf C Y H D gl := by
  obtain ⟨kvs, h1, h2⟩ := d
  exact ⟨kvs, h1, h2.grow g⟩
/-- nothing that may change has changed -/
theorem RM.no (h : RM CM CF C X H p fa m ms) (f : Fr No H H') : RM CM CF C X H' p fa m ms := by
  obtain ⟨rv, r1, r2⟩ := h.r
  exact ⟨⟨rv, f.keep (fun z => z) rfl r1, r2.fr f.no⟩, f.keep (fun z => z) rfl h.fl, h.fs.fr f (fun _ z => z.elim) (fun _ _ z => z), h.d.fr f (fun _ z => z.elim) (fun z => z), h.nd, h.xx, fun b x => f.dom' (h.dom b x)⟩
/-- the machine's own fields are set anew -/
theorem RM.setR (h : RM CM CF C X H p fa m ms) {n mf : Nat} {rv : V} {res : Option Vl} (hr : RRes C X H rv res) :
    RM CM CF C X (upd H p.R (.ins CM p.dx (mfl p m n mf rv))) p fa m ⟨n, mf, ms.fs, res⟩ ∧ Fr X H (upd H p.R (.ins CM p.dx (mfl p m n mf rv))) := by
  obtain ⟨rv0, r1, r2⟩ := h.r
  have ne := h.ne
  have f : Fr (fun b => b = p.R) H (upd H p.R (.ins CM p.dx (mfl p m n mf rv))) := Fr.set rfl r1 rfl
  have hw : ∀ b, b = p.R → X b := fun b e => by rw [e]; exact h.xR
  exact ⟨⟨⟨rv, upd_same, hr.fr (f.wide hw)⟩, by rw [upd_ne ne.RF.symm]; exact h.fl, h.fs.fr f hw (fun b m e => ne.Rm b m e), h.d.fr f hw h.neRD, h.nd, h.xx, fun b x => f.dom' (h.dom b x)⟩, f.wide hw⟩
/-- the list of frames is set anew: the last one is gone -/
theorem RM.pop (h : RM CM CF C X H p (a :: fa) m ⟨n, mf, s :: ss, res⟩) :
    RM CM CF C X (upd H p.FL (.lst (fa.reverse.map fun a => V.ref a.x))) p fa m ⟨n, mf, ss, res⟩ ∧ RF CF C X (upd H p.FL (.lst (fa.reverse.map fun a => V.ref a.x))) a s ∧ Fr X H (upd H p.FL (.lst (fa.reverse.map fun a => V.ref a.x))) := by
  obtain ⟨rv, r1, r2⟩ := h.r
  have ne := h.ne
  have f : Fr (fun b => b = p.FL) H (upd H p.FL (.lst (fa.reverse.map fun a => V.ref a.x))) := Fr.set rfl h.fl rfl
  have hw : ∀ b, b = p.FL → X b := fun b e => by rw [e]; exact h.xF
  have fX := f.wide hw
  cases h.fs with
  | cons h1 hs =>
  have sub : ∀ b, b ∈ p.R :: p.FL :: mutF fa → b ∈ p.R :: p.FL :: mutF (a :: fa) := fun b z => by
    rcases List.mem_cons.mp z with e | z
    · rw [e]; exact List.mem_cons_self
    rcases List.mem_cons.mp z with e | z
    · rw [e]; exact List.mem_cons_of_mem _ List.mem_cons_self
    · exact List.mem_cons_of_mem _ (List.mem_cons_of_mem _ (List.mem_append_right _ z))
  have nd2 : (p.R :: p.FL :: mutF fa).Nodup := by
    refine h.nd.sublist ?_
    exact List.Sublist.cons₂ _ (List.Sublist.cons₂ _ (List.sublist_append_right _ _))
  exact ⟨⟨⟨rv, by rw [upd_ne ne.RF]; exact r1, r2.fr fX⟩, upd_same, hs.fr f hw (fun b m e => ne.Fm b (List.mem_append_right _ m) e), h.d.fr f hw h.neFD, nd2, fun b z => h.xx b (sub b z), fun b x => f.dom' (h.dom b x)⟩, h1.fr f hw (fun b m e => ne.Fm b (List.mem_append_left _ m) e), fX⟩
/-- the last frame changes -/
theorem RM.top (h : RM CM CF C X H p (a :: fa) m ⟨n, mf, s :: ss, res⟩) (f : Fr (fun b => b ∈ a.muts) H H') (r : RF CF C X H' a s') : RM CM CF C X H' p (a :: fa) m ⟨n, mf, s' :: ss, res⟩ ∧ Fr X H H' := by
  obtain ⟨rv, r1, r2⟩ := h.r
  have ne := h.ne
  have hw : ∀ b, b ∈ a.muts → X b := fun b z => h.xm b (List.mem_append_left _ z)
  have fX := f.wide hw
  cases h.fs with
  | cons h1 hs =>
  refine ⟨⟨⟨rv, f.keep (fun z => ne.Rm _ (List.mem_append_left _ z) rfl) rfl r1, r2.fr fX⟩, f.keep (fun z => ne.Fm _ (List.mem_append_left _ z) rfl) rfl h.fl, .cons r (hs.fr f hw fun b m z => ?_), h.d.fr f hw (h1.neD h.d), h.nd, h.xx, fun b x => f.dom' (h.dom b x)⟩, fX⟩
  exact (List.nodup_append.mp ne.m).2.2 b z b m rfl
/-- a frame that is no longer among the frames changes -/
theorem RM.off (h : RM CM CF C X H p fa m ms) (f : Fr (fun b => b ∈ a.muts) H H') (hx : ∀ b ∈ a.muts, X b ∧ b ≠ p.R ∧ b ≠ p.FL ∧ b ∉ mutF fa ∧ b ≠ p.D) : RM CM CF C X H' p fa m ms ∧ Fr X H H' := by
  obtain ⟨rv, r1, r2⟩ := h.r
  have hw : ∀ b, b ∈ a.muts → X b := fun b z => (hx b z).1
  have fX := f.wide hw
  refine ⟨⟨⟨rv, f.keep (fun z => (hx _ z).2.1 rfl) rfl r1, r2.fr fX⟩, f.keep (fun z => (hx _ z).2.2.1 rfl) rfl h.fl, h.fs.fr f hw fun b m z => (hx b z).2.2.2.1 m, h.d.fr f hw (fun z => (hx _ z).2.2.2.2 rfl), h.nd, h.xx, fun b x => f.dom' (h.dom b x)⟩, fX⟩
theorem RM.offs (h : RM CM CF C X H p (a :: fa) m ⟨n, mf, s :: ss, res⟩) : ∀ b ∈ a.muts, X b ∧ b ≠ p.R ∧ b ≠ p.FL ∧ b ∉ mutF fa ∧ b ≠ p.D := fun b z => by
  have ne := h.ne
  cases h.fs with
  | cons h1 hs =>
  exact ⟨h.xm b (List.mem_append_left _ z), ne.Rm b (List.mem_append_left _ z), ne.Fm b (List.mem_append_left _ z), fun m => (List.nodup_append.mp ne.m).2.2 b z b m rfl, fun e => h1.neD h.d (by rw [← e]; exact z)⟩
/-- a frame is added -/
theorem RM.push (h : RM CM CF C X H p fa m ⟨n, mf, ss, res⟩) (f : Fr No H H') (nw : ∀ b ∈ a.muts, H b = none) (na : a.muts.Nodup) (ra : RF CF C (fun b => X b ∨ b ∈ a.muts) H' a s) :
    RM CM CF C (fun b => X b ∨ b ∈ a.muts) (upd H' p.FL (.lst ((a :: fa).reverse.map fun a => V.ref a.x))) p (a :: fa) m ⟨n, mf, s :: ss, res⟩ ∧ Fr X H (upd H' p.FL (.lst ((a :: fa).reverse.map fun a => V.ref a.x))) := by
  have ne := h.ne
  have g : ∀ b, (X b ∨ b ∈ a.muts) → X b ∨ H b = none := fun b z => z.imp id (nw b)
  obtain ⟨rv, r1, r2⟩ := (h.no f).r
  have r2' : RRes C (fun b => X b ∨ b ∈ a.muts) H' rv res := by
    obtain ⟨rv0, q1, q2⟩ := h.r
    have e : rv = rv0 := by
      have q1' := f.keep (fun z => z) rfl q1
      rw [r1] at q1'
      injection q1' with q1'
      injection q1' with _ _ q1'
      injection q1' with _ q1'
      injection q1' with _ q1'
      injection q1' with _ q1'
      injection q1' with _ q1'
      injection q1' with _ q1'
      injection q1' with q1'
      injection q1' with _ q1'
    rw [e]
    exact (q2.grow g).fr f.no
  have hfl := f.keep (fun z => z) rfl h.fl
  have f2 : Fr (fun b => b = p.FL) H' (upd H' p.FL (.lst ((a :: fa).reverse.map fun a => V.ref a.x))) := Fr.set rfl hfl rfl
  have hw : ∀ b, b = p.FL → X b ∨ b ∈ a.muts := fun b e => by rw [e]; exact .inl h.xF
  have there : ∀ b, b ∈ p.R :: p.FL :: mutF fa → b ∉ a.muts := fun b z y => h.dom b (h.xx b z) (nw b y)
  have nF : ∀ b ∈ a.muts, b ≠ p.FL := fun b z e => there p.FL (List.mem_cons_of_mem _ List.mem_cons_self) (by rw [← e]; exact z)
  have fX : Fr X H' (upd H' p.FL (.lst ((a :: fa).reverse.map fun a => V.ref a.x))) := f2.wide fun b e => by rw [e]; exact h.xF
  refine ⟨⟨⟨rv, by rw [upd_ne ne.RF]; exact r1, r2'.fr (f2.wide hw)⟩, upd_same, .cons (ra.fr f2 hw nF) ((((h.fs.grow g).fr f (fun _ z => z.elim) fun _ _ z => z)).fr f2 hw fun b m e => ne.Fm b m e), ((h.d.grow g).fr f (fun _ z => z.elim) (fun z => z)).fr f2 hw h.neFD, ?_, fun b z => ?_, fun b x => ?_⟩, f.no.trans fX⟩
  · obtain ⟨h1, h2⟩ := List.nodup_cons.mp h.nd
    obtain ⟨h3, h4⟩ := List.nodup_cons.mp h2
    refine List.nodup_cons.mpr ⟨fun z => ?_, List.nodup_cons.mpr ⟨fun z => ?_, List.nodup_append.mpr ⟨na, h4, fun b z c y e => there b (List.mem_cons_of_mem _ (List.mem_cons_of_mem _ (by rw [e]; exact y))) z⟩⟩⟩
    · rcases List.mem_cons.mp z with e | z
      · exact ne.RF e
      rcases List.mem_append.mp z with z | z
      · exact there p.R List.mem_cons_self z
      · exact ne.Rm _ z rfl
    · rcases List.mem_append.mp z with z | z
      · exact there p.FL (List.mem_cons_of_mem _ List.mem_cons_self) z
      · exact ne.Fm _ z rfl
  · rcases List.mem_cons.mp z with e | z
    · rw [e]; exact .inl h.xR
    rcases List.mem_cons.mp z with e | z
    · rw [e]; exact .inl h.xF
    rcases List.mem_append.mp z with z | z
    · exact .inr z
    · exact .inl (h.xm b z)
  · refine f2.dom' ?_
    rcases x with x | x
    · exact f.dom' (h.dom b x)
    · simp only [FA.muts, List.mem_cons, List.not_mem_nil, or_false] at x
      obtain ⟨p1, p2, p3⟩ := ra.P
      obtain ⟨s1, s2, s3⟩ := ra.S
      rcases x with e | e | e <;> rw [e]
      · rw [ra.x]; exact fun z => by cases z
      · rw [p2]; exact fun z => by cases z
      · rw [s2]; exact fun z => by cases z
end
/-! ### what the machine does -/
inductive MRes where
  | stuck
  | err (ws : List Str) (n mf : Nat)
  | ok (s : MS)
def rdS (f : FS) : Src → Option Vl
  | .place n => f.pl[n]?
  | .kept n => f.ks[n]?
def rdSs (f : FS) : List Src → Option (List Vl)
  | [] => some []
  | s :: ss => match rdS f s, rdSs f ss with
    | some v, some vs => some (v :: vs)
    | _, _ => none
/-- the instructions that only see their frame -/
def frF (f : FS) : Ins → Option FS
  | .int i => gate (i.natAbs ≤ 10 ^ 60 ∧ f.st.length < many) { f with st := .int i :: f.st }
  | .prim p => gate (f.st.length < many) { f with st := .prim p :: f.st }
  | .src s => (rdS f s).bind fun v => gate (f.st.length < many) { f with st := v :: f.st }
  | .fn c ss => (rdSs f ss).bind fun vs => gate (ss.length ≤ many ∧ f.st.length < many) { f with st := .fnM c vs :: f.st }
  | .put n => match f.st with
    | v :: st => gate (n < f.pl.length) { f with st := st, pl := f.pl.set n v }
    | [] => none
  | .jump n => some { f with at_ := n }
  | .unless n => match f.st with
    | .int i :: st => some { f with st := st, at_ := if i = 0 then n else f.at_ }
    | _ => none
  | _ => none
def giveF (s : MS) (x : Vl) : MRes := match s.fs with
  | [] => .ok { s with res := some x }
  | f :: fs => if f.st.length < many then .ok { s with fs := { f with st := x :: f.st } :: fs } else .stuck
def addF (s : MS) (c : Code) (ps ks : List Vl) : MRes :=
  if c.places ≤ many ∧ ps.length ≤ 1000 ∧ s.fs.length < many then .ok { s with fs := ⟨c.is, 0, ps ++ List.replicate (c.places - ps.length) (.int 0), [], ks⟩ :: s.fs, mf := max s.mf (s.fs.length + 1) } else .stuck
def entF (s : MS) (called : Vl) (ps : List Vl) : MRes := match chkF called ps.length with
  | some ws => .err ws s.n s.mf
  | none => match called with
    | .prim q => match primF q ps with
      | .ok y => giveF s y
      | .error ws => .err ws s.n s.mf
    | .fnM c ks => addF s c ps ks
    | _ => .stuck
def actM (gl : Gl) (i : Ins) (s : MS) : MRes := match s.fs with
  | [] => .stuck
  | f :: fs => match i with
    | .call n => match f.st.drop n with
      | called :: st => if n ≤ 1000 ∧ f.st.length < many then entF { s with fs := { f with st := st } :: fs } called (f.st.take n).reverse else .stuck
      | [] => .stuck
    | .tail n => match f.st.drop n with
      | called :: _ => if n ≤ 1000 ∧ f.st.length < many then entF { s with fs := fs } called (f.st.take n).reverse else .stuck
      | [] => .stuck
    | .end_ => match f.st with
      | x :: _ => giveF { s with fs := fs } x
      | [] => .stuck
    | .glob a b => match glGet (a, b) gl with
      | some v => if f.st.length < many then .ok { s with fs := { f with st := v :: f.st } :: fs } else .stuck
      | none => .err ["error", "early"] s.n s.mf
    | i => match frF f i with
      | some f' => .ok { s with fs := f' :: fs }
      | none => .stuck
def stepM (m : Wd) (s : MS) : MRes := match s.fs with
  | [] => .stuck
  | f :: fs => if m.m ≤ s.n then .err ["steps"] s.n s.mf else match f.is[f.at_]? with
    | none => .stuck
    | some i => actM m.gl i { s with n := s.n + 1, fs := { f with at_ := f.at_ + 1 } :: fs }
def runM : Nat → Wd → MS → Option (Except (List Str × Nat × Nat) MS)
  | 0, _, _ => none
  | k + 1, m, s => match s.fs with
    | [] => some (.ok s)
    | _ :: _ => match stepM m s with
      | .stuck => none
      | .err ws n mf => some (.error (ws, n, mf))
      | .ok s' => runM k m s'
end My
namespace My
open PySem PySem.Spec PyProof.Rows L2 TL
/-! ### frames: made, read -/
abbrev sFri : Stmt := inClass (top 20) 0
abbrev sFrd : Stmt := inClass (top 20) 1
def spFri (CF : Addr) : Sp := fun vs H Q _ => ∃ (x dx o e : Addr) (cv : V) (c : Code) (ps : List V), vs = [.ref x, cv, .ref o, .ref e] ∧ H x = some (.ins CF dx []) ∧ RC H cv c ∧ H o = some (.lst ps) ∧ ps.length ≤ 1000 ∧ c.places ≤ many ∧
  ∀ P S q vs H', H P = none → H S = none → P ≠ S → P ≠ x → S ≠ x → Fr (fun b => b = x) H H' → H' x = some (.ins CF dx (ffl q 0 P S e)) → H' P = some (.lst (ps ++ List.replicate (c.places - ps.length) (.int 0))) → H' S = some (.lst []) → H' q = some (.tup vs) → RIs H' vs c.is → Q .non H'
def spFrd (CF : Addr) (C : Cs) : Sp := fun vs H Q _ => ∃ (X : Addr → Prop) (a : FA) (f : FS) (v : V) (s : Src) (y : Vl), vs = [.ref a.x, v] ∧ RF CF C X H a f ∧ RSr H v s ∧ rdS f s = some y ∧ ∀ u, RV C X H u y → Q u H
section
variable {P : Program} {w : World} {K : PySem.W.Frag} {mg : Str → Option Value} {base : Heap} {CF : Addr} {C : Cs}
theorem scFri : FnScope ["self", "code", "parts", "kept"] ["self", "code", "parts", "kept"] (defScope sFri) := ⟨rfl, rfl, rfl, by decide +kernel, rfl, by decide +kernel, by decide +kernel⟩
theorem scFrd : FnScope ["self", "source"] ["self", "source"] (defScope sFrd) := ⟨rfl, rfl, rfl, by decide +kernel, rfl, by decide +kernel, by decide +kernel⟩
theorem flat_one {α : Type} (x : α) : ∀ n : Nat, (List.replicate n [x]).flatten = List.replicate n x
  | 0 => rfl
  | n + 1 => by rw [List.replicate_succ, List.replicate_succ, List.flatten_cons, flat_one x n]; rfl
theorem ok_fri {f : Addr} {fd : FuncData} (Fn : Fun K "__init__" "Frame.__init__" sFri f fd) (B : Blt mg) (U : FldC K CF fF5) : FnOk P w K mg base CX0 1 f fd ["self", "code", "parts", "kept"] (spFri CF) := by
  refine Fn.ok scFri (fun vs H Q E h => ?_) (fun cdv A outer s H vs Q E hr h => ?_)
  · obtain ⟨x, dx, o, e, cv, c, ps, rfl, _⟩ := h
    rfl
  obtain ⟨x, dx, o, e, cv, c, ps, rfl, hx, rc, ho, lp, lc, q⟩ := h
  have nd := scFri.nd
  cases rc with
  | @mk a qq p l vs is hc hq rs =>
  have lc : l ≤ many := lc
  refine ⟨_, (pss_cons (ps_fld (pv 0) (pe_ix (r := rIxT K) ix_tup (pv 1) pe_int (fun _ _ => rfl)) rfl)
    (pss_cons (ps_fld (pv 0) pe_int rfl)
    (pss_cons (ps_fld (pv 0) (pe_op op_cat (pv 2) (pe_op op_rep (pe_lst (pa_cons pe_int pa_nil)) (pe_op op_sub (pe_ix (r := rIxT K) ix_tup (pv 1) pe_int (fun _ _ => rfl)) (pe_callB call_len_seq (by rfl) B.len PySem.boot_len (pa_cons (pv 2) pa_nil))))) rfl)
    (pss_cons (ps_fld (pv 0) (pe_lst pa_nil) rfl)
    (pss_one (ps_fld (pv 0) (pv 3) rfl)))))), ?_⟩
  refine ⟨_, rfl, a, _, 3, _, rfl, rfl, SqT.of hc, atI_nat (j := 3) rfl, _, rfl, x, CF, dx, _, rfl, hx, U.c, U.n _ (by simp), by decide, ?_⟩
  refine ⟨_, rfl, x, CF, dx, _, rfl, upd_same, U.c, U.n _ (by simp), by show 1 < 1000; decide, ?_⟩
  rw [upd_upd]
  have ep : putF ("at" : Str) (V.int 0) (putF ("instructions" : Str) (V.ref qq) []) = ([("instructions", .ref qq), ("at", .int 0)] : List (Str × V)) := rfl
  rw [ep]
  have f1 : Fr (fun b => b = x) H (upd H x (.ins CF dx [("instructions", .ref qq), ("at", .int 0)])) := Fr.set rfl hx rfl
  have x1 : upd H x (.ins CF dx [("instructions", .ref qq), ("at", .int 0)]) x = some (.ins CF dx [("instructions", .ref qq), ("at", .int 0)]) := upd_same
  have nox : o ≠ x := fun z => by rw [z, hx] at ho; cases ho
  have o1 := f1.keep nox rfl ho
  generalize upd H x (.ins CF dx [("instructions", .ref qq), ("at", .int 0)]) = H1 at f1 x1 o1 ⊢
  refine ⟨_, rfl, by show 1 ≤ sizeLine; decide, fun z hz => ?_⟩
  have f2 : Fr No H1 (upd H1 z (.lst [.int 0])) := Fr.new hz
  have z2 : upd H1 z (.lst [.int 0]) z = some (.lst [.int 0]) := upd_same
  have a2 := f2.tup _ _ (f1.tup _ _ hc)
  have o2 := f2.keep (fun z => z) rfl o1
  have x2 := f2.keep (fun z => z) rfl x1
  generalize upd H1 z (.lst [.int 0]) = H2 at f2 z2 a2 o2 x2 ⊢
  refine ⟨_, rfl, a, _, 2, _, rfl, rfl, SqT.of a2, atI_nat (j := 2) rfl, _, rfl, o, _, rfl, .inl (SqL.of o2), _, _, rfl, rfl, ?_⟩
  have ek : ((l : Int) - (ps.length : Int)).toNat = l - ps.length := by omega
  have m6 : many = 1000000 := rfl
  refine ⟨z, _, _, rfl, rfl, z2, ?_, ?_, ?_, fun r hr => ?_⟩
  · omega
  · omega
  · rw [ek, List.length_singleton, Nat.one_mul]
    exact Nat.le_trans (show l - ps.length ≤ 1000000 by omega) (by decide)
  rw [ek, flat_one]
  have f3 : Fr No H2 (upd H2 r (.lst (List.replicate (l - ps.length) (.int 0)))) := Fr.new hr
  have r3 : upd H2 r (.lst (List.replicate (l - ps.length) (.int 0))) r = some (.lst (List.replicate (l - ps.length) (.int 0))) := upd_same
  have o3 := f3.keep (fun z => z) rfl o2
  have x3 := f3.keep (fun z => z) rfl x2
  generalize upd H2 r (.lst (List.replicate (l - ps.length) (.int 0))) = H3 at f3 r3 o3 x3 ⊢
  refine ⟨o, r, _, _, rfl, rfl, o3, r3, ?_, fun P1 hP => ?_⟩
  · rw [List.length_replicate]
    exact Nat.le_trans (show ps.length + (l - ps.length) ≤ 1001000 by omega) (by decide)
  have f4 : Fr No H3 (upd H3 P1 (.lst (ps ++ List.replicate (l - ps.length) (.int 0)))) := Fr.new hP
  have p4 : upd H3 P1 (.lst (ps ++ List.replicate (l - ps.length) (.int 0))) P1 = some (.lst (ps ++ List.replicate (l - ps.length) (.int 0))) := upd_same
  have x4 := f4.keep (fun z => z) rfl x3
  have nPx : P1 ≠ x := fun z => by rw [z, x3] at hP; cases hP
  generalize upd H3 P1 (.lst (ps ++ List.replicate (l - ps.length) (.int 0))) = H4 at f4 p4 x4 ⊢
  refine ⟨_, rfl, x, CF, dx, _, rfl, x4, U.c, U.n _ (by simp), by show 2 < 1000; decide, ?_⟩
  have ep : putF ("places" : Str) (V.ref P1) ([("instructions", .ref qq), ("at", .int 0)] : List (Str × V)) = ([("instructions", .ref qq), ("at", .int 0), ("places", .ref P1)] : List (Str × V)) := rfl
  rw [ep]
  have f5 : Fr (fun b => b = x) H4 (upd H4 x (.ins CF dx [("instructions", .ref qq), ("at", .int 0), ("places", .ref P1)])) := Fr.set rfl x4 rfl
  have x5 : upd H4 x (.ins CF dx [("instructions", .ref qq), ("at", .int 0), ("places", .ref P1)]) x = some (.ins CF dx [("instructions", .ref qq), ("at", .int 0), ("places", .ref P1)]) := upd_same
  have p5 := f5.keep nPx rfl p4
  generalize upd H4 x (.ins CF dx [("instructions", .ref qq), ("at", .int 0), ("places", .ref P1)]) = H5 at f5 x5 p5 ⊢
  refine ⟨by show 0 ≤ sizeLine; decide, fun S1 hS => ?_⟩
  have f6 : Fr No H5 (upd H5 S1 (.lst [])) := Fr.new hS
  have x6 := f6.keep (fun z => z) rfl x5
  have p6 := f6.keep (fun z => z) rfl p5
  have s6 : upd H5 S1 (.lst []) S1 = some (.lst []) := upd_same
  have nSx : S1 ≠ x := fun z => by rw [z, x5] at hS; cases hS
  have nPS : P1 ≠ S1 := fun z => by rw [← z, p5] at hS; cases hS
  generalize upd H5 S1 (.lst []) = H6 at f6 x6 p6 s6 ⊢
  refine ⟨_, rfl, x, CF, dx, _, rfl, x6, U.c, U.n _ (by simp), by show 3 < 1000; decide, ?_⟩
  have ep2 : putF ("stack" : Str) (V.ref S1) ([("instructions", .ref qq), ("at", .int 0), ("places", .ref P1)] : List (Str × V)) = ([("instructions", .ref qq), ("at", .int 0), ("places", .ref P1), ("stack", .ref S1)] : List (Str × V)) := rfl
  rw [ep2]
  refine ⟨_, rfl, _, rfl, x, CF, dx, _, rfl, upd_same, U.c, U.n _ (by simp), by show 4 < 1000; decide, ?_⟩
  rw [upd_upd]
  have f24 := f2.trans (f3.trans f4)
  have fa : Fr (fun b => b = x) H H6 := (f1.trans f24.no).trans (f5.trans f6.no)
  have f7 : Fr (fun b => b = x) H6 (upd H6 x (.ins CF dx (ffl qq 0 P1 S1 e))) := Fr.set rfl x6 rfl
  have t16 : KpT H H6 := fa.tup
  have fr := fa.trans f7
  have hP0 : H P1 = none := (f1.trans (f2.trans f3).no).dom hP
  have hS0 : H S1 = none := ((f1.trans f24.no).trans f5).dom hS
  exact q P1 S1 qq vs _ hP0 hS0 nPS nPx nSx fr upd_same (f7.keep nPx rfl p6) (f7.keep nSx rfl s6) (fr.tup _ _ hq) (rs.keep fr.tup)
theorem ok_frd {f : Addr} {fd : FuncData} (Fn : Fun K "read" "Frame.read" sFrd f fd) (U : FldC K CF fF5) : FnOk P w K mg base CX0 1 f fd ["self", "source"] (spFrd CF C) := by
  refine Fn.ok scFrd (fun vs H Q E h => ?_) (fun cdv A outer s H vs Q E hr h => ?_)
  · obtain ⟨X, a, f, v, s, y, rfl, _⟩ := h
    rfl
  obtain ⟨X, a, fs, v, s, y, rfl, hf, rs, hy, q⟩ := h
  have nd := scFrd.nd
  obtain ⟨b, rfl, hb⟩ := rs
  refine ⟨_, (pss_cons (ps_if (pt_cmpR op_eq (pe_ix (r := rIxT K) ix_tup (pv 1) pe_int (fun _ _ => rfl)) pe_str (nomark _)) (pss_one (ps_ret (pe_ix (r := rIxL K) ix_list (pe_fld (pv 0) rfl) (pe_ix (r := rIxT K) ix_tup (pv 1) pe_int (fun _ _ => rfl)) (fun _ _ => rfl)))) pss_nil)
    (pss_one (ps_ret (pe_ix (r := rIxL K) ix_list (pe_fld (pv 0) rfl) (pe_ix (r := rIxT K) ix_tup (pv 1) pe_int (fun _ _ => rfl)) (fun _ _ => rfl))))), ?_⟩
  cases s with
  | place n =>
    refine ev_at rfl hb ?_
    refine ite2 (fun _ => ?_) (fun c => absurd (decide_eq_true (show ("place" : Str) = "place" from rfl)) c)
    obtain ⟨ps, p1, p2⟩ := hf.P
    obtain ⟨u, hu, ru⟩ := p2.get2 hy
    exact ⟨_, rfl, a.x, CF, a.dx, _, _, rfl, hf.x, U.c, U.n _ (by simp), rfl, _, rfl, b, _, 1, _, rfl, rfl, SqT.of hb, at1 _ _ _, a.P, _, _, _, rfl, rfl, SqL.of p1, atI_nat hu, q _ ru⟩
  | kept n =>
    refine ev_at rfl hb ?_
    refine ite2 (fun c => absurd (of_decide_eq_true c) (show ¬ ("kept" : Str) = "place" by decide +kernel)) (fun _ => ?_)
    obtain ⟨ps, p1, _, p2⟩ := hf.e
    obtain ⟨u, hu, ru⟩ := p2.get2 hy
    exact ⟨_, rfl, a.x, CF, a.dx, _, _, rfl, hf.x, U.c, U.n _ (by simp), rfl, _, rfl, b, _, 1, _, rfl, rfl, SqT.of hb, at1 _ _ _, a.e, _, _, _, rfl, rfl, SqL.of p1, atI_nat hu, q _ ru⟩
end
end My
namespace My
open PySem PySem.Spec PyProof.Rows L2 TL
/-! ### the instructions that only see their frame -/
def spFo (CF : Addr) (C : Cs) (ok : Ins → Prop) : Sp := fun vs H Q _ => ∃ (X : Addr → Prop) (a : FA) (f f' : FS) (mv v : V) (i : Ins), vs = [mv, .ref a.x, v] ∧ RF CF C X H a f ∧ RI H v i ∧ ok i ∧ a.muts.Nodup ∧ (∀ b ∈ a.muts, X b) ∧ (∀ b, X b → H b ≠ none) ∧ frF f i = some f' ∧
  ∀ H', Fr (fun b => b ∈ a.muts) H H' → RF CF C X H' a f' → Q .non H'
def isInt (i : Ins) : Prop := ∃ z, i = .int z
def isPrim (i : Ins) : Prop := ∃ z, i = .prim z
def isSrc (i : Ins) : Prop := ∃ z, i = .src z
def isFn (i : Ins) : Prop := ∃ c ss, i = .fn c ss
def isPut (i : Ins) : Prop := ∃ z, i = .put z
def isJump (i : Ins) : Prop := ∃ z, i = .jump z
def isUnless (i : Ins) : Prop := ∃ z, i = .unless z
abbrev sMi : Stmt := top 21
abbrev sMp : Stmt := top 22
abbrev sMs : Stmt := top 24
abbrev sMf : Stmt := top 25
abbrev sMt : Stmt := top 26
abbrev sMj : Stmt := top 27
abbrev sMu : Stmt := top 28
structure NeA (a : FA) : Prop where
  xP : a.x ≠ a.P
  xS : a.x ≠ a.S
  PS : a.P ≠ a.S
theorem neA {a : FA} (h : a.muts.Nodup) : NeA a := by
  have h : [a.x, a.P, a.S].Nodup := h
  simp only [List.nodup_cons, List.mem_cons, List.not_mem_nil, or_false, not_or] at h
  obtain ⟨⟨a1, a2⟩, a3, _⟩ := h
  exact ⟨a1, a2, a3⟩
theorem FA.mx {a : FA} : a.x ∈ a.muts := by simp [FA.muts]
theorem FA.mP {a : FA} : a.P ∈ a.muts := by simp [FA.muts]
theorem FA.mS {a : FA} : a.S ∈ a.muts := by simp [FA.muts]
section
variable {CF : Addr} {C : Cs} {X : Addr → Prop} {H H' : Hp} {a : FA} {f : FS}
theorem RVs.set {C : Cs} {X : Addr → Prop} {H : Hp} : ∀ {vs : List V} {xs : List Vl} {n : Nat} {v : V} {x : Vl}, RVs C X H vs xs → RV C X H v x → RVs C X H (vs.set n v) (xs.set n x)
  | _, _, _, _, _, .nil, _ => .nil
  | _, _, 0, _, _, .cons _ rs, r => .cons r rs
  | _, _, _ + 1, _, _, .cons h rs, r => .cons h (RVs.set rs r)
theorem RF.no (h : RF CF C X H a f) (g : Fr No H H') : RF CF C X H' a f := h.fr g (fun _ z => z.elim) fun _ _ z => z
theorem RF.setS (h : RF CF C X H a f) (nd : a.muts.Nodup) (hX : ∀ b ∈ a.muts, X b) {vs : List V} {st : List Vl} (r : RVs C X H vs st.reverse) : RF CF C X (upd H a.S (.lst vs)) a { f with st := st } ∧ Fr (fun b => b ∈ a.muts) H (upd H a.S (.lst vs)) := by
  obtain ⟨s1, s2, s3⟩ := h.S
  have ne := neA nd
  have fm : Fr (fun b => b ∈ a.muts) H (upd H a.S (.lst vs)) := Fr.set a.mS s2 rfl
  have fX := fm.wide hX
  obtain ⟨q1, q2, q3⟩ := h.q
  obtain ⟨p1, p2, p3⟩ := h.P
  obtain ⟨e1, e2, e3, e4⟩ := h.e
  exact ⟨⟨by rw [upd_ne ne.xS]; exact h.x, ⟨q1, fm.tup _ _ q2, q3.keep fm.tup⟩, ⟨p1, by rw [upd_ne ne.PS]; exact p2, p3.fr fX⟩, ⟨vs, upd_same, r.fr fX⟩, ⟨e1, fX.keep e3 rfl e2, e3, e4.fr fX⟩⟩, fm⟩
theorem RF.setP (h : RF CF C X H a f) (nd : a.muts.Nodup) (hX : ∀ b ∈ a.muts, X b) {vs : List V} {pl : List Vl} (r : RVs C X H vs pl) : RF CF C X (upd H a.P (.lst vs)) a { f with pl := pl } ∧ Fr (fun b => b ∈ a.muts) H (upd H a.P (.lst vs)) := by
  obtain ⟨p1, p2, p3⟩ := h.P
  have ne := neA nd
  have fm : Fr (fun b => b ∈ a.muts) H (upd H a.P (.lst vs)) := Fr.set a.mP p2 rfl
  have fX := fm.wide hX
  obtain ⟨q1, q2, q3⟩ := h.q
  obtain ⟨s1, s2, s3⟩ := h.S
  obtain ⟨e1, e2, e3, e4⟩ := h.e
  exact ⟨⟨by rw [upd_ne ne.xP]; exact h.x, ⟨q1, fm.tup _ _ q2, q3.keep fm.tup⟩, ⟨vs, upd_same, r.fr fX⟩, ⟨s1, by rw [upd_ne ne.PS.symm]; exact s2, s3.fr fX⟩, ⟨e1, fX.keep e3 rfl e2, e3, e4.fr fX⟩⟩, fm⟩
theorem RF.setA (h : RF CF C X H a f) (nd : a.muts.Nodup) (hX : ∀ b ∈ a.muts, X b) {n : Nat} : RF CF C X (upd H a.x (.ins CF a.dx (ffl a.q n a.P a.S a.e))) a { f with at_ := n } ∧ Fr (fun b => b ∈ a.muts) H (upd H a.x (.ins CF a.dx (ffl a.q n a.P a.S a.e))) := by
  have ne := neA nd
  have fm : Fr (fun b => b ∈ a.muts) H (upd H a.x (.ins CF a.dx (ffl a.q n a.P a.S a.e))) := Fr.set a.mx h.x rfl
  have fX := fm.wide hX
  obtain ⟨p1, p2, p3⟩ := h.P
  obtain ⟨q1, q2, q3⟩ := h.q
  obtain ⟨s1, s2, s3⟩ := h.S
  obtain ⟨e1, e2, e3, e4⟩ := h.e
  exact ⟨⟨upd_same, ⟨q1, fm.tup _ _ q2, q3.keep fm.tup⟩, ⟨p1, by rw [upd_ne ne.xP.symm]; exact p2, p3.fr fX⟩, ⟨s1, by rw [upd_ne ne.xS.symm]; exact s2, s3.fr fX⟩, ⟨e1, fX.keep e3 rfl e2, e3, e4.fr fX⟩⟩, fm⟩
theorem RF.push (h : RF CF C X H a f) (nd : a.muts.Nodup) (hX : ∀ b ∈ a.muts, X b) {vs : List V} {v : V} {x : Vl} (hs : H a.S = some (.lst vs)) (rv : RV C X H v x) : RF CF C X (upd H a.S (.lst (vs ++ [v]))) a { f with st := x :: f.st } ∧ Fr (fun b => b ∈ a.muts) H (upd H a.S (.lst (vs ++ [v]))) := by
  obtain ⟨s1, s2, s3⟩ := h.S
  rw [hs] at s2
  cases s2
  exact h.setS nd hX (st := x :: f.st) (by rw [List.reverse_cons]; exact s3.app (.one rv))
theorem RF.lenS (h : RF CF C X H a f) {vs : List V} (hs : H a.S = some (.lst vs)) : vs.length = f.st.length := by
  obtain ⟨s1, s2, s3⟩ := h.S
  rw [hs] at s2
  cases s2
  rw [s3.len, List.length_reverse]
end
section
variable {P : Program} {w : World} {K : PySem.W.Frag} {mg : Str → Option Value} {base : Heap} {CF : Addr} {C : Cs}
theorem scMi : FnScope ["_", "frame", "instruction"] ["_", "frame", "instruction"] (defScope sMi) := ⟨rfl, rfl, rfl, by decide +kernel, rfl, by decide +kernel, by decide +kernel⟩
theorem scMp : FnScope ["_", "frame", "instruction"] ["_", "frame", "instruction"] (defScope sMp) := ⟨rfl, rfl, rfl, by decide +kernel, rfl, by decide +kernel, by decide +kernel⟩
theorem scMs : FnScope ["_", "frame", "instruction"] ["_", "frame", "instruction"] (defScope sMs) := ⟨rfl, rfl, rfl, by decide +kernel, rfl, by decide +kernel, by decide +kernel⟩
theorem scMf : FnScope ["_", "frame", "instruction", "code", "kept", "source"] ["_", "frame", "instruction"] (defScope sMf) := ⟨rfl, rfl, rfl, by decide +kernel, rfl, by decide +kernel, by decide +kernel⟩
theorem scMt : FnScope ["_", "frame", "instruction"] ["_", "frame", "instruction"] (defScope sMt) := ⟨rfl, rfl, rfl, by decide +kernel, rfl, by decide +kernel, by decide +kernel⟩
theorem scMj : FnScope ["_", "frame", "instruction"] ["_", "frame", "instruction"] (defScope sMj) := ⟨rfl, rfl, rfl, by decide +kernel, rfl, by decide +kernel, by decide +kernel⟩
theorem scMu : FnScope ["_", "frame", "instruction"] ["_", "frame", "instruction"] (defScope sMu) := ⟨rfl, rfl, rfl, by decide +kernel, rfl, by decide +kernel, by decide +kernel⟩
theorem ok_mi {f : Addr} {fd : FuncData} (Fn : Fun K "put_int" "put_int" sMi f fd) (U : FldC K CF fF5) : FnOk P w K mg base (L2.CX P w) 1 f fd ["_", "frame", "instruction"] (spFo CF C isInt) := by
  refine Fn.okX scMi (fun vs H Q E h => ?_) (fun cdv A outer s H vs Q E hr h => ?_)
  · obtain ⟨X, a, fs, f', mv, v, i, rfl, _⟩ := h
    rfl
  obtain ⟨X, a, fs, f', mv, v, i, rfl, hf, ri, ⟨z, rfl⟩, na, hX, dom, hy, q⟩ := h
  have nd := scMi.nd
  unfold frF at hy
  dsimp only at hy
  obtain ⟨⟨b60, ls⟩, rfl⟩ := gate_ok hy
  cases ri with
  | @int b _ hb =>
  obtain ⟨vs, s1, _⟩ := hf.S
  have l0 := hf.lenS s1
  refine ⟨_, (pss_one (ps_expr (pe_bm PySem.F.plainAttrs_list PySem.F.slot_list_append PySem.F.type_list_append mt_append (pe_fld (pv 1) rfl) (pa_cons (pe_ix (r := rIxT K) ix_tup (pv 2) pe_int (fun _ _ => rfl)) pa_nil)))), ?_⟩
  refine ⟨_, rfl, a.x, CF, a.dx, _, _, rfl, hf.x, U.c, U.n _ (by simp), rfl, .inl ⟨rfl, _, SqL.of s1⟩, _, rfl, b, _, 1, _, rfl, rfl, SqT.of hb, at1 _ _ _, a.S, _, _, rfl, rfl, s1, Nat.lt_of_lt_of_le (show vs.length < many by omega) (by decide), ?_⟩
  obtain ⟨h1, h2⟩ := hf.push na hX s1 (.int z b60)
  exact q _ h2 h1
theorem ok_mp {f fP : Addr} {fd dP : FuncData} (Fn : Fun K "put_prim" "put_prim" sMp f fd) (U : FldC K CF fF5) (MP : MkC P w K mg base 1 "Primitive" ["self", "name"] (spPri C.pr) C.pr fP dP) : FnOk P w K mg base (L2.CX P w) 3 f fd ["_", "frame", "instruction"] (spFo CF C isPrim) := by
  refine Fn.okX scMp (fun vs H Q E h => ?_) (fun cdv A outer s H vs Q E hr h => ?_)
  · obtain ⟨X, a, fs, f', mv, v, i, rfl, _⟩ := h
    rfl
  obtain ⟨X, a, fs, f', mv, v, i, rfl, hf, ri, ⟨z, rfl⟩, na, hX, dom, hy, q⟩ := h
  have nd := scMp.nd
  unfold frF at hy
  dsimp only at hy
  obtain ⟨ls, rfl⟩ := gate_ok hy
  cases ri with
  | @prim b _ hb =>
  obtain ⟨vs, s1, _⟩ := hf.S
  have l0 := hf.lenS s1
  refine ⟨_, (pss_one (ps_expr (pe_bm PySem.F.plainAttrs_list PySem.F.slot_list_append PySem.F.type_list_append mt_append (pe_fld (pv 1) rfl) (pa_cons (pe_make (E := fun _ _ _ => False) MP.m MP.ok hr rfl MP.g MP.b .nil pass0 (pa_cons (pe_ix (r := rIxT K) ix_tup (pv 2) pe_int (fun _ _ => rfl)) pa_nil)) pa_nil)))), ?_⟩
  refine ⟨_, rfl, a.x, CF, a.dx, _, _, rfl, hf.x, U.c, U.n _ (by simp), rfl, .inl ⟨rfl, _, SqL.of s1⟩, _, rfl, b, _, 1, _, rfl, rfl, SqT.of hb, at1 _ _ _, fun x dx hx hd ne => ⟨x, dx, z, rfl, upd_same, fun H' g => ⟨rfl, ?_⟩⟩⟩
  have f3 : Fr No H (upd H' x (.ins C.pr dx [("parameters", .int (arP z)), ("name", .str z)])) := ((mk_fr hx hd ne).trans g).mut hx (g.keep (fun z => z) rfl upd_same) rfl
  have rv : RV C X (upd H' x (.ins C.pr dx [("parameters", .int (arP z)), ("name", .str z)])) (.ref x) (.prim z) := .prim upd_same fun q => dom x q hx
  have s3 := f3.keep (fun z => z) rfl s1
  refine ⟨a.S, _, _, rfl, rfl, s3, Nat.lt_of_lt_of_le (show vs.length < many by omega) (by decide), ?_⟩
  obtain ⟨h1, h2⟩ := (hf.no f3).push na hX s3 rv
  exact q _ (f3.no.trans h2) h1
theorem ok_ms {f fR : Addr} {fd dR : FuncData} (Fn : Fun K "put_source" "put_source" sMs f fd) (U : FldC K CF fF5) (MR : MCal P w K mg base CX0 1 CF "read" ["self", "source"] (spFrd CF C) fR dR) : FnOk P w K mg base (L2.CX P w) 2 f fd ["_", "frame", "instruction"] (spFo CF C isSrc) := by
  refine Fn.okX scMs (fun vs H Q E h => ?_) (fun cdv A outer s H vs Q E hr h => ?_)
  · obtain ⟨X, a, fs, f', mv, v, i, rfl, _⟩ := h
    rfl
  obtain ⟨X, a, fs, f', mv, v, i, rfl, hf, ri, ⟨z, rfl⟩, na, hX, dom, hy, q⟩ := h
  have nd := scMs.nd
  unfold frF at hy
  dsimp only at hy
  cases hz : rdS fs z with
  | none => rw [hz] at hy; cases hy
  | some y =>
  rw [hz] at hy
  obtain ⟨ls, rfl⟩ := gate_ok hy
  cases ri with
  | @src b _ hb =>
  obtain ⟨vs, s1, _⟩ := hf.S
  have l0 := hf.lenS s1
  refine ⟨_, (pss_one (ps_expr (pe_bm PySem.F.plainAttrs_list PySem.F.slot_list_append PySem.F.type_list_append mt_append (pe_fld (pv 1) rfl) (pa_cons (pe_meth (pv 1) MR.c MR.m MR.ok hr MR.b .nil pass0 (pa_cons (pv 2) pa_nil)) pa_nil)))), ?_⟩
  refine ⟨_, rfl, a.x, CF, a.dx, _, _, rfl, hf.x, U.c, U.n _ (by simp), rfl, .inl ⟨rfl, _, SqL.of s1⟩, _, rfl, a.x, a.dx, _, rfl, hf.x, rfl, _, rfl, ?_⟩
  refine ⟨X, a, fs, .ref b, z, y, rfl, hf, ⟨b, rfl, hb⟩, hz, fun u ru => ?_⟩
  refine ⟨a.S, _, _, rfl, rfl, s1, Nat.lt_of_lt_of_le (show vs.length < many by omega) (by decide), ?_⟩
  obtain ⟨h1, h2⟩ := hf.push na hX s1 ru
  exact q _ h2 h1
theorem rdSs_get {f : FS} : ∀ {ss : List Src} {vs : List Vl} {i : Nat} {s : Src}, rdSs f ss = some vs → ss[i]? = some s → ∃ v, rdS f s = some v ∧ vs[i]? = some v
  | [], _, _, _, _, e => by simp at e
  | t :: ss, vs, i, s, h, e => by
    unfold rdSs at h
    cases h1 : rdS f t with
    | none => rw [h1] at h; cases h
    | some u =>
      cases h2 : rdSs f ss with
      | none => rw [h1, h2] at h; cases h
      | some r =>
        rw [h1, h2] at h
        cases h
        cases i with
        | zero => cases e; exact ⟨u, h1, rfl⟩
        | succ i =>
          obtain ⟨v, e1, e2⟩ := rdSs_get (i := i) h2 (by simpa using e)
          exact ⟨v, e1, by simpa using e2⟩
theorem rdSs_len {f : FS} : ∀ {ss : List Src} {vs : List Vl}, rdSs f ss = some vs → vs.length = ss.length
  | [], _, h => by cases h; rfl
  | t :: ss, vs, h => by
    unfold rdSs at h
    cases h1 : rdS f t with
    | none => rw [h1] at h; cases h
    | some u =>
      cases h2 : rdSs f ss with
      | none => rw [h1, h2] at h; cases h
      | some r =>
        rw [h1, h2] at h
        cases h
        rw [List.length_cons, List.length_cons, rdSs_len h2]
theorem RSs.get {H : Hp} : ∀ {vs : List V} {ss : List Src} {i : Nat} {v : V}, RSs H vs ss → vs[i]? = some v → ∃ s, ss[i]? = some s ∧ RSr H v s
  | _, _, _, _, .nil, e => by simp at e
  | _, _, 0, _, .cons r _, e => by cases e; exact ⟨_, rfl, r⟩
  | _, _, i + 1, _, .cons _ rs, e => by
    obtain ⟨t, h1, h2⟩ := RSs.get (i := i) rs (by simpa using e)
    exact ⟨t, by simpa using h1, h2⟩
theorem ok_mf {f fR fU : Addr} {fd dR dU : FuncData} (Fn : Fun K "put_function" "put_function" sMf f fd) (U : FldC K CF fF5) (MR : MCal P w K mg base CX0 1 CF "read" ["self", "source"] (spFrd CF C) fR dR) (MF : MkC P w K mg base 1 "Function" ["self", "parameters", "body", "kept"] (spIni C.fu 3 (three "parameters" "body" "kept")) C.fu fU dU) : FnOk P w K mg base (L2.CX P w) 3 f fd ["_", "frame", "instruction"] (spFo CF C isFn) := by
  refine Fn.okX scMf (fun vs H Q E h => ?_) (fun cdv A outer s H vs Q E hr h => ?_)
  · obtain ⟨X, a, fs, f', mv, v, i, rfl, _⟩ := h
    rfl
  obtain ⟨X, a, fs, f', mv, v, i, rfl, hf, ri, ⟨c, ss, rfl⟩, na, hX, dom, hy, q⟩ := h
  have nd := scMf.nd
  have r1 := hr.mono (show 1 ≤ 2 by decide)
  unfold frF at hy
  dsimp only at hy
  cases hz : rdSs fs ss with
  | none => rw [hz] at hy; cases hy
  | some ys =>
  rw [hz] at hy
  obtain ⟨⟨lss, ls⟩, rfl⟩ := gate_ok hy
  cases ri with
  | @fn b qq cv us _ _ hb hq rc rs =>
  obtain ⟨vs, s1, _⟩ := hf.S
  have l0 := hf.lenS s1
  refine ⟨_, (pss_cons (ps_set (i := 3) nd rfl (Or.inl rfl) (pe_ix (r := rIxT K) ix_tup (pv 2) pe_int (fun _ _ => rfl)))
    (pss_cons (ps_setLc (i := 4) (own := [("source", 5)]) (g := gName 5) (tt := tYes) rfl nd rfl rfl (sw_true rfl rfl rfl (by decide +kernel)) (pi_tup (pe_ix (r := rIxT K) ix_tup (pv 2) pe_int (fun _ _ => rfl))) (blkOk_by (N := ["_", "frame", "instruction", "code", "kept", "source"]) (sc := defScope sMf) (by decide +kernel)) (fun _ _ _ _ _ => (pg_name (i := 5) nd rfl (Or.inl rfl) (hf := Or.inr rfl))) (fun _ _ _ _ _ => pts_nil) (fun _ _ _ _ _ => (pe_meth (pv 1) MR.c MR.m MR.ok r1 MR.b .nil pass0 (pa_cons (pv 5) pa_nil))))
    (pss_one (ps_expr (pe_bm PySem.F.plainAttrs_list PySem.F.slot_list_append PySem.F.type_list_append mt_append (pe_fld (pv 1) rfl) (pa_cons (pe_make (E := fun _ _ _ => False) MF.m MF.ok hr rfl MF.g MF.b .nil pass0 (pa_cons (pe_ix (r := rIxT K) ix_tup (pv 3) pe_int (fun _ _ => rfl)) (pa_cons (pv 3) (pa_cons (pv 4) pa_nil)))) pa_nil)))))), ?_⟩
  have rc0 := rc
  cases rc with
  | @mk ca cq p l cvs is hc hcq rs2 =>
  refine ⟨_, rfl, b, _, 1, _, rfl, rfl, SqT.of hb, at1 _ _ _, ?_⟩
  refine ⟨_, rfl, b, _, 2, _, rfl, rfl, SqT.of hb, atI_nat (j := 2) rfl, qq, rfl, ⟨_, SqT.of hq⟩, fun D hD => ?_⟩
  have lus : us.length = ss.length := rs.len
  have lys := rdSs_len hz
  let X2 : Addr → Prop := fun q => X q ∨ q = D
  have fD : Fr No H (upd H D (.lst [])) := Fr.new hD
  have hf2 : RF CF C X2 H a fs := hf.grow fun b z => z.imp id fun e => by rw [e]; exact hD
  have nD : ∀ b ∈ a.muts, b ≠ D := fun b m e => dom b (hX b m) (by rw [e]; exact hD)
  refine lc_tup (xs := us) (fun i H' => ∃ ws, H' D = some (.lst ws) ∧ RVs C X2 H' ws (ys.take i) ∧ ws.length = i ∧ RF CF C X2 H' a fs ∧ Fr No H H') ⟨[], upd_same, by rw [List.take_zero]; exact .nil, rfl, hf2.no fD, fD⟩ (fun i H' _ ⟨_, _, _, _, _, g⟩ => SqT.of (g.tup _ _ hq)) ?_ ?_
  · rintro i v H' hi ⟨ws, h1, h2, h3, h4, h5⟩
    obtain ⟨sr, hs, rsr⟩ := rs.get hi
    obtain ⟨y, hy1, hy2⟩ := rdSs_get hz hs
    have il : i < us.length := (List.getElem?_eq_some_iff.mp hi).1
    refine ⟨rfl, _, rfl, a.x, a.dx, _, rfl, h4.x, rfl, _, rfl, X2, a, fs, v, sr, y, rfl, h4, rsr.keep h5.tup, hy1, fun u ru => ?_⟩
    have fm : Fr (fun q => q = D) H' (upd H' D (.lst (ws ++ [u]))) := Fr.set rfl h1 rfl
    have fm2 : Fr X2 H' (upd H' D (.lst (ws ++ [u]))) := fm.wide fun q e => .inr e
    have m6 : many = 1000000 := rfl
    refine ⟨ws, h1, Nat.lt_of_le_of_lt (show ws.length ≤ 1000000 by omega) (by decide), ws ++ [u], upd_same, ?_, by simp [h3], h4.fr fm (fun b e => .inr e) nD, h5.mut hD h1 rfl⟩
    rw [take_more hy2]
    exact (h2.fr fm2).app (.one (ru.fr fm2))
  rintro H2 ⟨ws, h1, h2, h3, h4, h5⟩
  rw [lus, ← lys, List.take_length] at h2
  have h2x : RVs C X H2 ws ys := h2.mv (fun b o t e n => ⟨e, fun z => n (.inl z)⟩) fun _ _ z => z
  have nXD : ¬ X D := fun z => dom D z hD
  have hf3 := hf.no h5
  have s3 := h5.keep (fun z => z) rfl s1
  refine ⟨_, rfl, a.x, CF, a.dx, _, _, rfl, hf3.x, U.c, U.n _ (by simp), rfl, .inl ⟨rfl, _, SqL.of s3⟩, ?_⟩
  refine ⟨_, rfl, ca, _, 1, _, rfl, rfl, SqT.of (h5.tup _ _ hc), at1 _ _ _, _, rfl, _, rfl, ?_⟩
  refine fun x dx hx hdx ne => ⟨x, dx, _, rfl, rfl, upd_same, rfl, ?_⟩
  rw [upd_upd]
  have f6 : Fr No H2 (upd (upd H2 dx (.own x)) x (.ins C.fu dx (three "parameters" "body" "kept" [.int p, .ref ca, .ref D]))) := mk_fr hx hdx ne
  have x6 : upd (upd H2 dx (.own x)) x (.ins C.fu dx (three "parameters" "body" "kept" [.int p, .ref ca, .ref D])) x = some (.ins C.fu dx [("parameters", .int p), ("body", .ref ca), ("kept", .ref D)]) := upd_same
  have f06 := h5.trans f6
  have rv : RV C X (upd (upd H2 dx (.own x)) x (.ins C.fu dx (three "parameters" "body" "kept" [.int p, .ref ca, .ref D]))) (.ref x) (.fnM (.mk p l is) ys) := .fnM x6 (fun z => dom x z (h5.dom hx)) (rc0.keep f06.tup) (f6.keep (fun z => z) rfl h1) nXD (h2x.fr f6.no)
  refine ⟨a.S, _, _, rfl, rfl, f6.keep (fun z => z) rfl s3, Nat.lt_of_lt_of_le (show vs.length < many by omega) (by decide), ?_⟩
  obtain ⟨h7, h8⟩ := (hf.no f06).push na hX (f6.keep (fun z => z) rfl s3) rv
  exact q _ (f06.no.trans h8) h7
theorem ok_mt {f : Addr} {fd : FuncData} (Fn : Fun K "fill_place" "fill_place" sMt f fd) (U : FldC K CF fF5) : FnOk P w K mg base (L2.CX P w) 1 f fd ["_", "frame", "instruction"] (spFo CF C isPut) := by
  refine Fn.okX scMt (fun vs H Q E h => ?_) (fun cdv A outer s H vs Q E hr h => ?_)
  · obtain ⟨X, a, fs, f', mv, v, i, rfl, _⟩ := h
    rfl
  obtain ⟨X, a, fs, f', mv, v, i, rfl, hf, ri, ⟨n, rfl⟩, na, hX, dom, hy, q⟩ := h
  have nd := scMt.nd
  unfold frF at hy
  dsimp only at hy
  cases hst : fs.st with
  | nil => rw [hst] at hy; cases hy
  | cons x st =>
  rw [hst] at hy
  obtain ⟨ln, rfl⟩ := gate_ok hy
  cases ri with
  | @put b _ hb =>
  obtain ⟨vs, s1, s2⟩ := hf.S
  rw [hst] at s2
  obtain ⟨u, us, rfl, ru, rus⟩ := s2.last
  refine ⟨_, (pss_one (ps_asg (pe_bm0 PySem.F.plainAttrs_list PySem.F.slot_list_pop PySem.F.type_list_pop mt_pop (pe_fld (pv 1) rfl)) (pg_sub (pe_fld (pv 1) rfl) (pe_ix (r := rIxT K) ix_tup (pv 2) pe_int (fun _ _ => rfl)) set_list))), ?_⟩
  refine ⟨_, rfl, a.x, CF, a.dx, _, _, rfl, hf.x, U.c, U.n _ (by simp), rfl, .inl ⟨rfl, _, SqL.of s1⟩, a.S, _, u, rfl, rfl, s1, by simp, ?_⟩
  rw [List.dropLast_concat]
  obtain ⟨h1, f1⟩ := hf.setS na hX (st := st) rus
  have ru1 := ru.fr (f1.wide hX)
  have hb1 := f1.tup _ _ hb
  generalize upd H a.S (.lst us) = H1 at h1 f1 ru1 hb1 ⊢
  obtain ⟨ps, p1, p2⟩ := h1.P
  have lp : ps.length = fs.pl.length := p2.len
  refine ⟨_, rfl, a.x, CF, a.dx, _, _, rfl, h1.x, U.c, U.n _ (by simp), rfl, _, rfl, b, _, 1, _, rfl, rfl, SqT.of hb1, at1 _ _ _, a.P, ps, _, n, rfl, rfl, p1, ixN_nat (by omega), ?_⟩
  obtain ⟨h2, f2⟩ := h1.setP na hX (vs := ps.set n u) (pl := fs.pl.set n x) (p2.set ru1)
  exact q _ (f1.trans f2) h2
theorem ok_mj {f : Addr} {fd : FuncData} (Fn : Fun K "jump" "jump" sMj f fd) (U : FldC K CF fF5) : FnOk P w K mg base (L2.CX P w) 1 f fd ["_", "frame", "instruction"] (spFo CF C isJump) := by
  refine Fn.okX scMj (fun vs H Q E h => ?_) (fun cdv A outer s H vs Q E hr h => ?_)
  · obtain ⟨X, a, fs, f', mv, v, i, rfl, _⟩ := h
    rfl
  obtain ⟨X, a, fs, f', mv, v, i, rfl, hf, ri, ⟨n, rfl⟩, na, hX, dom, hy, q⟩ := h
  have nd := scMj.nd
  unfold frF at hy
  dsimp only at hy
  cases hy
  cases ri with
  | @jump b _ hb =>
  refine ⟨_, (pss_one (ps_fld (pv 1) (pe_ix (r := rIxT K) ix_tup (pv 2) pe_int (fun _ _ => rfl)) rfl)), ?_⟩
  refine ⟨_, rfl, b, _, 1, _, rfl, rfl, SqT.of hb, at1 _ _ _, _, rfl, a.x, CF, a.dx, _, rfl, hf.x, U.c, U.n _ (by simp), by show 5 < 1000; decide, ?_⟩
  obtain ⟨h2, f2⟩ := hf.setA na hX (n := n)
  exact q _ f2 h2
theorem ok_mu {f : Addr} {fd : FuncData} (Fn : Fun K "jump_unless" "jump_unless" sMu f fd) (U : FldC K CF fF5) : FnOk P w K mg base (L2.CX P w) 1 f fd ["_", "frame", "instruction"] (spFo CF C isUnless) := by
  refine Fn.okX scMu (fun vs H Q E h => ?_) (fun cdv A outer s H vs Q E hr h => ?_)
  · obtain ⟨X, a, fs, f', mv, v, i, rfl, _⟩ := h
    rfl
  obtain ⟨X, a, fs, f', mv, v, i, rfl, hf, ri, ⟨n, rfl⟩, na, hX, dom, hy, q⟩ := h
  have nd := scMu.nd
  unfold frF at hy
  dsimp only at hy
  obtain ⟨i0, st, hst⟩ : ∃ i st, fs.st = .int i :: st := by
    cases hst : fs.st with
    | nil => rw [hst] at hy; cases hy
    | cons x st =>
      rw [hst] at hy
      cases x with
      | int i => exact ⟨i, st, rfl⟩
      | _ => cases hy
  rw [hst] at hy
  cases hy
  cases ri with
  | @«unless» b _ hb =>
  obtain ⟨vs, s1, s2⟩ := hf.S
  rw [hst] at s2
  obtain ⟨u, us, rfl, ru, rus⟩ := s2.last
  cases ru with
  | int _ hi =>
  refine ⟨_, (pss_one (ps_if (pt_cmpR op_eq (pe_bm0 PySem.F.plainAttrs_list PySem.F.slot_list_pop PySem.F.type_list_pop mt_pop (pe_fld (pv 1) rfl)) pe_int (nomark _)) (pss_one (ps_fld (pv 1) (pe_ix (r := rIxT K) ix_tup (pv 2) pe_int (fun _ _ => rfl)) rfl)) pss_nil)), ?_⟩
  refine ⟨_, rfl, a.x, CF, a.dx, _, _, rfl, hf.x, U.c, U.n _ (by simp), rfl, .inl ⟨rfl, _, SqL.of s1⟩, a.S, _, .int i0, rfl, rfl, s1, by simp, ?_⟩
  rw [List.dropLast_concat]
  obtain ⟨h1, f1⟩ := hf.setS na hX (st := st) rus
  have hb1 := f1.tup _ _ hb
  generalize upd H a.S (.lst us) = H1 at h1 f1 hb1 ⊢
  refine ⟨rfl, _, rfl, ?_⟩
  refine ite2 (fun c => ?_) (fun c => ?_)
  · have e0 := v_int c
    refine ⟨_, rfl, b, _, 1, _, rfl, rfl, SqT.of hb1, at1 _ _ _, _, rfl, a.x, CF, a.dx, _, rfl, h1.x, U.c, U.n _ (by simp), by show 5 < 1000; decide, ?_⟩
    obtain ⟨h2, f2⟩ := h1.setA na hX (n := n)
    rw [if_pos e0] at q
    exact q _ (f1.trans f2) h2
  · rw [if_neg (fun z => c (decide_eq_true (congrArg V.int z)))] at q
    exact q _ f1 h1
end
end My
namespace My
open PySem PySem.Spec PyProof.Rows L2 TL
/-! ### the machine's methods -/
abbrev sMin : Stmt := inClass (top 33) 0
abbrev sMaf : Stmt := inClass (top 33) 1
abbrev sMen : Stmt := inClass (top 33) 2
abbrev sMgi : Stmt := inClass (top 33) 3
def spMin (CM : Addr) : Sp := fun vs H Q _ => ∃ (x dx : Addr) (m : Int), vs = [.ref x, .int m] ∧ H x = some (.ins CM dx []) ∧
  ∀ D FL H', H D = none → H FL = none → Fr (fun b => b = x) H H' → H' D = some (.dT []) → H' FL = some (.lst []) → H' x = some (.ins CM dx [("most", .int m), ("steps", .int 0), ("defined", .ref D), ("frames", .ref FL), ("most_frames", .int 0), ("result", .non)]) → Q .non H'
/-- what follows a step of the machine -/
def goM (CM CF : Addr) (C : Cs) (En : Addr) (X : Addr → Prop) (H : Hp) (p : MA) (m : Wd) (Q : VK) (E : XK) : MRes → Prop
  | .stuck => False
  | .ok s' => ∀ X' fa' H', Fr X H H' → (∀ b, X b → X' b) → (∀ b, X' b → X b ∨ H b = none) → RM CM CF C X' H' p fa' m s' → Q .non H'
  | .err ws n mf => ∀ H1 rv, Fr X H H1 → H1 p.R = some (.ins CM p.dx (mfl p m n mf rv)) → erX No En ws H1 E
def spAf (CM CF : Addr) (C : Cs) (En : Addr) : Sp := fun vs H Q E => ∃ (X : Addr → Prop) (p : MA) (fa : List FA) (m : Wd) (s : MS) (cv : V) (c : Code) (o e : Addr) (us ws : List V) (ps ks : List Vl), vs = [.ref p.R, cv, .ref o, .ref e] ∧ RM CM CF C X H p fa m s ∧ RC H cv c ∧ H o = some (.lst us) ∧ RVs C X H us ps ∧
  H e = some (.lst ws) ∧ ¬ X e ∧ RVs C X H ws ks ∧ goM CM CF C En X H p m Q E (addF s c ps ks)
def spGi (CM CF : Addr) (C : Cs) (En : Addr) : Sp := fun vs H Q E => ∃ (X : Addr → Prop) (p : MA) (fa : List FA) (m : Wd) (s : MS) (v : V) (x : Vl), vs = [.ref p.R, v] ∧ RM CM CF C X H p fa m s ∧ RV C X H v x ∧ goM CM CF C En X H p m Q E (giveF s x)
def spEn (CM CF : Addr) (C : Cs) (En P1 : Addr) : Sp := fun vs H Q E => ∃ (X : Addr → Prop) (p : MA) (fa : List FA) (m : Wd) (s : MS) (v : V) (x : Vl) (o : Addr) (us : List V) (ps : List Vl), vs = [.ref p.R, v, .ref o] ∧ RM CM CF C X H p fa m s ∧ RV C X H v x ∧ H o = some (.lst us) ∧ RVs C X H us ps ∧ GxR.TabG H P1 ∧
  goM CM CF C En X H p m Q E (entF s x ps)
theorem goM.fr {CM CF : Addr} {C : Cs} {En : Addr} {X : Addr → Prop} {H H1 : Hp} {p : MA} {m : Wd} {Q : VK} {E : XK} (f : Fr X H H1) : ∀ {r : MRes}, goM CM CF C En X H p m Q E r → goM CM CF C En X H1 p m Q E r
  | .stuck, h => h
  | .ok s', h => fun X' fa' H' f2 a b r => h X' fa' H' (f.trans f2) a (fun c z => (b c z).imp id fun n => f.dom n) r
  | .err ws n mf, h => fun H2 rv f2 e => h H2 rv (f.trans f2) e
section
variable {P : Program} {w : World} {K : PySem.W.Frag} {mg : Str → Option Value} {base : Heap} {CM CF En P1 : Addr} {C : Cs}
theorem scMin : FnScope ["self", "most"] ["self", "most"] (defScope sMin) := ⟨rfl, rfl, rfl, by decide +kernel, rfl, by decide +kernel, by decide +kernel⟩
theorem scMaf : FnScope ["self", "code", "parts", "kept"] ["self", "code", "parts", "kept"] (defScope sMaf) := ⟨rfl, rfl, rfl, by decide +kernel, rfl, by decide +kernel, by decide +kernel⟩
theorem scMen : FnScope ["self", "called", "parts"] ["self", "called", "parts"] (defScope sMen) := ⟨rfl, rfl, rfl, by decide +kernel, rfl, by decide +kernel, by decide +kernel⟩
theorem scMgi : FnScope ["self", "value"] ["self", "value"] (defScope sMgi) := ⟨rfl, rfl, rfl, by decide +kernel, rfl, by decide +kernel, by decide +kernel⟩
theorem ok_min {f R fR : Addr} {fd dR : FuncData} (Fn : Fun K "__init__" "Machine.__init__" sMin f fd) (U : FldC K CM fM6) (GR : InitC P w K mg base 1 "Run" ["self", "most"] (spRin CM) R fR dR) : FnOk P w K mg base CX0 2 f fd ["self", "most"] (spMin CM) := by
  refine Fn.ok scMin (fun vs H Q E h => ?_) (fun cdv A outer s H vs Q E hr h => ?_)
  · obtain ⟨x, dx, m, rfl, _⟩ := h
    rfl
  obtain ⟨x, dx, m, rfl, hx, q⟩ := h
  have nd := scMin.nd
  refine ⟨_, (pss_cons (ps_expr (pe_initC GR hr rfl (pa_cons (pv 0) (pa_cons (pv 1) pa_nil))))
    (pss_cons (ps_fld (pv 0) (pe_lst pa_nil) rfl)
    (pss_cons (ps_fld (pv 0) pe_int rfl)
    (pss_one (ps_fld (pv 0) pe_non rfl))))), ?_⟩
  refine ⟨_, rfl, _, rfl, x, dx, m, rfl, hx, fun D H1 hD f1 d1 x1 => ?_⟩
  refine ⟨by show 0 ≤ sizeLine; decide, fun FL hF => ?_⟩
  have f2 : Fr No H1 (upd H1 FL (.lst [])) := Fr.new hF
  have x2 := f2.keep (fun z => z) rfl x1
  have d2 := f2.keep (fun z => z) rfl d1
  have F2 : upd H1 FL (.lst []) FL = some (.lst []) := upd_same
  have nxF : FL ≠ x := fun z => by rw [z, x1] at hF; cases hF
  have nDx : D ≠ x := fun z => by rw [z, x1] at d1; cases d1
  generalize upd H1 FL (.lst []) = H2 at f2 x2 d2 F2 ⊢
  refine ⟨_, rfl, x, CM, dx, _, rfl, x2, U.c, U.n _ (by simp), by show 3 < 1000; decide, ?_⟩
  refine ⟨_, rfl, x, CM, dx, _, rfl, upd_same, U.c, U.n _ (by simp), by show 4 < 1000; decide, ?_⟩
  refine ⟨_, rfl, x, CM, dx, _, rfl, upd_same, U.c, U.n _ (by simp), by show 5 < 1000; decide, ?_⟩
  rw [upd_upd, upd_upd]
  have f3 : Fr (fun b => b = x) H2 (upd H2 x (.ins CM dx [("most", .int m), ("steps", .int 0), ("defined", .ref D), ("frames", .ref FL), ("most_frames", .int 0), ("result", .non)])) := Fr.set rfl x2 rfl
  exact q D FL _ hD (f1.dom hF) ((f1.trans f2.no).trans f3) (f3.keep nDx rfl d2) (f3.keep nxF rfl F2) upd_same
theorem ok_mgi {f : Addr} {fd : FuncData} (Fn : Fun K "give" "Machine.give" sMgi f fd) (U : FldC K CM fM6) (UF : FldC K CF fF5) : FnOk P w K mg base (L2.CX P w) 1 f fd ["self", "value"] (spGi CM CF C En) := by
  refine Fn.okX scMgi (fun vs H Q E h => ?_) (fun cdv A outer s H vs Q E hr h => ?_)
  · obtain ⟨X, p, fa, m, s, v, x, rfl, _⟩ := h
    rfl
  obtain ⟨X, p, fa, m, s, v, x, rfl, rm, rv, q⟩ := h
  have nd := scMgi.nd
  obtain ⟨r0, e0, e1⟩ := rm.r
  refine ⟨_, (pss_one (ps_if (pt_truth (pe_fld (pv 0) rfl) (by intro _; rfl)) (pss_one (ps_expr (pe_bm PySem.F.plainAttrs_list PySem.F.slot_list_append PySem.F.type_list_append mt_append (pe_fld (pe_ix (r := rIxL K) ix_list (pe_fld (pv 0) rfl) (pe_un un_neg pe_int) (fun _ _ => rfl)) rfl) (pa_cons (pv 1) pa_nil)))) (pss_one (ps_fld (pv 0) (pv 1) rfl)))), ?_⟩
  refine ⟨_, rfl, p.R, CM, p.dx, _, _, rfl, e0, U.c, U.n _ (by simp), rfl, _, .inl ⟨_, SqL.of rm.fl, rfl⟩, ?_⟩
  obtain ⟨n, mf, fs, res⟩ := s
  have fss := rm.fs
  cases fss with
  | nil =>
    refine iteF ?_
    refine ⟨_, rfl, _, rfl, p.R, CM, p.dx, _, rfl, e0, U.c, U.n _ (by simp), by show 6 < 1000; decide, ?_⟩
    obtain ⟨g1, g2⟩ := rm.setR (n := n) (mf := mf) (rv := v) (res := some x) rv
    exact q X [] _ g2 (fun b z => z) (fun b z => .inl z) g1
  | @cons a f0 fa fs hf hfs =>
    have eL : ((a :: fa).reverse.map fun a => V.ref a.x) = (fa.reverse.map fun a => V.ref a.x) ++ [.ref a.x] := by rw [List.reverse_cons, List.map_append]; rfl
    have fl := rm.fl
    rw [eL] at fl ⊢
    rw [show (!((fa.reverse.map fun a => V.ref a.x) ++ [V.ref a.x]).isEmpty) = true by cases (fa.reverse.map fun a => V.ref a.x) <;> rfl]
    refine iteT ?_
    have q : goM CM CF C En X H p m Q E (if f0.st.length < many then .ok ⟨n, mf, { f0 with st := x :: f0.st } :: fs, res⟩ else .stuck) := q
    by_cases ls : f0.st.length < many
    case neg => rw [if_neg ls] at q; exact q.elim
    rw [if_pos ls] at q
    obtain ⟨vs, s1, _⟩ := hf.S
    have l0 := hf.lenS s1
    refine ⟨_, rfl, p.R, CM, p.dx, _, _, rfl, e0, U.c, U.n _ (by simp), rfl, _, rfl, p.FL, _, _, _, rfl, rfl, SqL.of fl, atI_last _ _, a.x, CF, a.dx, _, _, rfl, hf.x, UF.c, UF.n _ (by simp), rfl, .inl ⟨rfl, _, SqL.of s1⟩, _, rfl, a.S, _, _, rfl, rfl, s1, Nat.lt_of_lt_of_le (show vs.length < many by omega) (by decide), ?_⟩
    have na : a.muts.Nodup := (List.nodup_append.mp rm.ne.m).1
    obtain ⟨h1, h2⟩ := hf.push na (fun b z => rm.xm b (List.mem_append_left _ z)) s1 rv
    obtain ⟨g1, g2⟩ := rm.top h2 h1
    exact q X (a :: fa) _ g2 (fun b z => z) (fun b z => .inl z) g1
theorem ok_maf {f fI : Addr} {fd dI : FuncData} (Fn : Fun K "add_frame" "Machine.add_frame" sMaf f fd) (B : Blt mg) (B2 : Bl2 mg) (U : FldC K CM fM6) (MF : MkC P w K mg base 1 "Frame" ["self", "code", "parts", "kept"] (spFri CF) CF fI dI) : FnOk P w K mg base (L2.CX P w) 3 f fd ["self", "code", "parts", "kept"] (spAf CM CF C En) := by
  refine Fn.okX scMaf (fun vs H Q E h => ?_) (fun cdv A outer s H vs Q E hr h => ?_)
  · obtain ⟨X, p, fa, m, s, cv, c, o, e, us, ws, ps, ks, rfl, _⟩ := h
    rfl
  obtain ⟨X, p, fa, m, s, cv, c, o, e, us, ws, ps, ks, rfl, rm, rc, ho, rps, he, nXe, rks, q⟩ := h
  have nd := scMaf.nd
  obtain ⟨r0, e0, e1⟩ := rm.r
  obtain ⟨n, mf, fs, res⟩ := s
  have q : goM CM CF C En X H p m Q E (if c.places ≤ many ∧ ps.length ≤ 1000 ∧ fs.length < many then .ok ⟨n, max mf (fs.length + 1), ⟨c.is, 0, ps ++ List.replicate (c.places - ps.length) (.int 0), [], ks⟩ :: fs, res⟩ else .stuck) := q
  by_cases lim : c.places ≤ many ∧ ps.length ≤ 1000 ∧ fs.length < many
  case neg => rw [if_neg lim] at q; exact q.elim
  rw [if_pos lim] at q
  obtain ⟨l1, l2, l3⟩ := lim
  have lu : us.length = ps.length := rps.len
  refine ⟨_, (pss_cons (ps_expr (pe_bm PySem.F.plainAttrs_list PySem.F.slot_list_append PySem.F.type_list_append mt_append (pe_fld (pv 0) rfl) (pa_cons (pe_make (E := fun _ _ _ => False) MF.m MF.ok hr rfl MF.g MF.b .nil pass0 (pa_cons (pv 1) (pa_cons (pv 2) (pa_cons (pv 3) pa_nil)))) pa_nil)))
    (pss_one (ps_fld (pv 0) (pe_callB (call_max2 rfl) (by rfl) B2.max (by decide +kernel) (pa_cons (pe_fld (pv 0) rfl) (pa_cons (pe_callB call_len_seq (by rfl) B.len PySem.boot_len (pa_cons (pe_fld (pv 0) rfl) pa_nil)) pa_nil))) rfl))), ?_⟩
  refine ⟨_, rfl, p.R, CM, p.dx, _, _, rfl, e0, U.c, U.n _ (by simp), rfl, .inl ⟨rfl, _, SqL.of rm.fl⟩, _, rfl, _, rfl, _, rfl, ?_⟩
  refine fun x dx hx hdx ne => ⟨x, dx, o, e, cv, c, us, rfl, upd_same, ?_⟩
  have fm : Fr No H (upd (upd H dx (.own x)) x (.ins CF dx [])) := mk_fr hx hdx ne
  have xm : upd (upd H dx (.own x)) x (.ins CF dx []) x = some (.ins CF dx []) := upd_same
  generalize upd (upd H dx (.own x)) x (.ins CF dx []) = Hm at fm xm ⊢
  refine ⟨rc.keep fm.tup, fm.keep (fun z => z) rfl ho, by rw [lu]; exact l2, l1, fun P S qa vs H1 hP hS nPS nPx nSx f1 x1 P1' S1 q1 ri => ⟨rfl, ?_⟩⟩
  have hP0 := fm.dom hP
  have hS0 := fm.dom hS
  have f01 : Fr No H H1 := fm.drop f1 fun b z => by rw [z]; exact hx
  have fl1 := f01.keep (fun z => z) rfl rm.fl
  have lfa : fa.length = fs.length := rm.fs.len
  refine ⟨p.FL, _, _, rfl, rfl, fl1, ?_, ?_⟩
  · rw [List.length_map, List.length_reverse, lfa]
    exact Nat.lt_of_lt_of_le l3 (by decide)
  let a : FA := ⟨x, dx, qa, P, S, e⟩
  have nw : ∀ b ∈ a.muts, H b = none := fun b z => by
    have z : b ∈ [x, P, S] := z
    simp only [List.mem_cons, List.not_mem_nil, or_false] at z
    rcases z with z | z | z <;> rw [z] <;> assumption
  have na : a.muts.Nodup := by
    show [x, P, S].Nodup
    simp [nPx.symm, nSx.symm, nPS]
  have g : ∀ b, (X b ∨ b ∈ a.muts) → X b ∨ H b = none := fun b z => z.imp id (nw b)
  have zeros : ∀ k : Nat, RVs C (fun b => X b ∨ b ∈ a.muts) H1 (List.replicate k (.int 0)) (List.replicate k (.int 0)) := by
    intro k
    induction k with
    | zero => exact .nil
    | succ k ih => exact .cons (.int 0 (by decide)) ih
  have ra : RF CF C (fun b => X b ∨ b ∈ a.muts) H1 a ⟨c.is, 0, ps ++ List.replicate (c.places - ps.length) (.int 0), [], ks⟩ := by
    refine ⟨x1, ⟨vs, q1, ri⟩, ⟨_, P1', ?_⟩, ⟨[], S1, .nil⟩, ⟨ws, f01.keep (fun z => z) rfl he, (fun z => z.elim nXe fun m => (by have he' := he; rw [nw e m] at he'; cases he')), (rks.grow g).fr f01.no⟩⟩
    rw [lu]
    exact ((rps.grow g).fr f01.no).app (zeros _)
  obtain ⟨g1, g2⟩ := rm.push f01 nw na ra
  have eL : ((a :: fa).reverse.map fun a => V.ref a.x) = (fa.reverse.map fun a => V.ref a.x) ++ [.ref x] := by rw [List.reverse_cons, List.map_append]; rfl
  rw [eL] at g1 g2
  generalize upd H1 p.FL (.lst ((fa.reverse.map fun a => V.ref a.x) ++ [.ref x])) = H2 at g1 g2 ⊢
  obtain ⟨r2, e2, e3⟩ := g1.r
  have fl2 := g1.fl
  rw [eL] at fl2
  refine ⟨_, rfl, p.R, CM, p.dx, _, _, rfl, e2, U.c, U.n _ (by simp), rfl, _, rfl, p.R, CM, p.dx, _, _, rfl, e2, U.c, U.n _ (by simp), rfl, p.FL, _, rfl, .inl (SqL.of fl2), _, _, rfl, _, rfl, p.R, CM, p.dx, _, rfl, e2, U.c, U.n _ (by simp), by show 6 < 1000; decide, ?_⟩
  dsimp only
  have emx : (if (((fa.reverse.map fun a => V.ref a.x) ++ [V.ref x]).length : Int) > (mf : Int) then (((fa.reverse.map fun a => V.ref a.x) ++ [V.ref x]).length : Int) else (mf : Int)) = ((max mf (fs.length + 1) : Nat) : Int) := by
    rw [List.length_append, List.length_map, List.length_reverse, lfa]
    show (if ((fs.length + 1 : Nat) : Int) > (mf : Int) then ((fs.length + 1 : Nat) : Int) else (mf : Int)) = _
    split <;> omega
  rw [emx]
  obtain ⟨g3, g4⟩ := g1.setR (n := n) (mf := max mf (fs.length + 1)) (rv := r2) (res := res) e3
  refine q (fun b => X b ∨ b ∈ a.muts) (a :: fa) _ ?_ (fun b z => .inl z) g g3
  exact g2.drop2 g4 g
end
end My
namespace My
open PySem PySem.Spec PyProof.Rows L2 TL
/-! ### calls and ends -/
abbrev sMc : Stmt := top 29
abbrev sMtl : Stmt := top 30
abbrev sMlv : Stmt := top 31
def isCall (i : Ins) : Prop := ∃ z, i = .call z
def isTail (i : Ins) : Prop := ∃ z, i = .tail z
def isEnd (i : Ins) : Prop := i = .end_
def spMx (CM CF : Addr) (C : Cs) (En P1 : Addr) (ok : Ins → Prop) : Sp := fun vs H Q E => ∃ (X : Addr → Prop) (p : MA) (a : FA) (fa : List FA) (m : Wd) (s : MS) (v : V) (i : Ins), vs = [.ref p.R, .ref a.x, v] ∧ RM CM CF C X H p (a :: fa) m s ∧ RI H v i ∧ ok i ∧ GxR.TabG H P1 ∧ goM CM CF C En X H p m Q E (actM m.gl i s)
section
variable {CF : Addr} {C : Cs} {X : Addr → Prop} {H H' : Hp} {a : FA} {f : FS}
/-- the last n values are taken -/
theorem RF.take (h : RF CF C X H a f) (nd : a.muts.Nodup) (hX : ∀ b ∈ a.muts, X b) (dom : ∀ b, X b → H b ≠ none) {n : Nat} {us : List V} {q : Addr} (hs : H a.S = some (.lst us)) (hn : n ≤ f.st.length) (hq : H q = none) :
    n ≤ us.length ∧ RF CF C X (upd (upd H q (.lst (us.drop (us.length - n)))) a.S (.lst (us.take (us.length - n)))) a { f with st := f.st.drop n } ∧ Fr No H (upd H q (.lst (us.drop (us.length - n)))) ∧ Fr (fun b => b ∈ a.muts) (upd H q (.lst (us.drop (us.length - n)))) (upd (upd H q (.lst (us.drop (us.length - n)))) a.S (.lst (us.take (us.length - n)))) ∧
      (upd (upd H q (.lst (us.drop (us.length - n)))) a.S (.lst (us.take (us.length - n)))) q = some (.lst (us.drop (us.length - n))) ∧ RVs C X (upd (upd H q (.lst (us.drop (us.length - n)))) a.S (.lst (us.take (us.length - n)))) (us.drop (us.length - n)) (f.st.take n).reverse ∧ ¬ X q := by
  obtain ⟨us0, s1, s2⟩ := h.S
  rw [hs] at s1
  cases s1
  have lr : us.length = f.st.length := by rw [s2.len, List.length_reverse]
  obtain ⟨c1, c2⟩ := rev_cut f.st n hn
  have fn : Fr No H (upd H q (.lst (us.drop (us.length - n)))) := Fr.new hq
  have h1 := h.no fn
  have r1 := s2.fr fn.no
  have ra := r1.take (us.length - n)
  have rb := r1.drop (us.length - n)
  have ra' : RVs C X (upd H q (.lst (us.drop (us.length - n)))) (us.take (us.length - n)) (f.st.drop n).reverse := by rw [← c1, ← lr]; exact ra
  have rb' : RVs C X (upd H q (.lst (us.drop (us.length - n)))) (us.drop (us.length - n)) (f.st.take n).reverse := by rw [← c2, ← lr]; exact rb
  have g := h1.setS nd hX ra'
  have nq : q ≠ a.S := fun z => by rw [z, hs] at hq; cases hq
  exact ⟨by omega, g.1, fn, g.2, by rw [upd_ne nq]; exact upd_same, rb'.fr (g.2.wide hX), fun z => dom q z hq⟩
end
section
variable {P : Program} {w : World} {K : PySem.W.Frag} {mg : Str → Option Value} {base : Heap} {CM CF En P1 : Addr} {C : Cs}
theorem ok_men {f fG fA fC fP : Addr} {fd dG dA dC dP : FuncData} (Fn : Fun K "enter" "Machine.enter" sMen f fd) (B : Blt mg) (VC : ValC K mg C) (U : FldC K CM fM6) (MG : MCal P w K mg base (L2.CX P w) 1 CM "give" ["self", "value"] (spGi CM CF C En) fG dG) (MA' : MCal P w K mg base (L2.CX P w) 3 CM "add_frame" ["self", "code", "parts", "kept"] (spAf CM CF C En) fA dA)
    (GC : Cal P w K mg base (L2.CX P w) 3 "check_call" ["called", "parts"] (spChk C En) fC dC) (GP : Cal P w K mg base (L2.CX P w) 4 "call_primitive" ["name", "parts"] (spPrm C En P1) fP dP) : FnOk P w K mg base (L2.CX P w) 5 f fd ["self", "called", "parts"] (spEn CM CF C En P1) := by
  refine Fn.okX scMen (fun vs H Q E h => ?_) (fun cdv A outer s H vs Q E hr h => ?_)
  · obtain ⟨X, p, fa, m, s, v, x, o, us, ps, rfl, _⟩ := h
    rfl
  obtain ⟨X, p, fa, m, s, v, x, o, us, ps, rfl, rm, rv, ho, rps, tg, q⟩ := h
  have nd := scMen.nd
  have r1 := hr.mono (show 1 ≤ 4 by decide)
  have r3 := hr.mono (show 3 ≤ 4 by decide)
  obtain ⟨r0, e0, e1⟩ := rm.r
  have lu : us.length = ps.length := rps.len
  refine ⟨_, (pss_cons (ps_expr (pe_call GC.ok r3 rfl GC.g GC.k GC.b .nil (passes_call (takes_of rfl rfl rfl rfl) fun _ _ _ _ h => h) (pa_cons (pv 1) (pa_cons (pv 2) pa_nil))))
    (pss_one (ps_if (pt_val (pe_callB call_isi (by rfl) B.isinstance (by decide +kernel) (pa_cons (pv 1) (pa_cons (pe_glob (v := .ref C.pr) rfl VC.gr rfl) pa_nil)))) (pss_one (ps_expr (pe_meth (pv 0) MG.c MG.m MG.ok r1 MG.b .nil (passes_call (takes_of rfl rfl rfl rfl) fun _ _ _ _ h => h) (pa_cons (pe_call GP.ok hr rfl GP.g GP.k GP.b .nil (passes_call (takes_of rfl rfl rfl rfl) fun _ _ _ _ h => h) (pa_cons (pe_fld (pv 1) rfl) (pa_cons (pv 2) pa_nil))) pa_nil)))) (pss_one (ps_expr (pe_meth (pv 0) MA'.c MA'.m MA'.ok r3 MA'.b .nil (passes_call (takes_of rfl rfl rfl rfl) fun _ _ _ _ h => h) (pa_cons (pe_fld (pv 1) rfl) (pa_cons (pv 2) (pa_cons (pe_fld (pv 1) rfl) pa_nil))))))))), ?_⟩
  unfold entF at q
  refine ⟨_, rfl, _, rfl, X, v, x, o, us, rfl, rv, ho, fun ec H3 f3 => ?_, fun er ee => ?_⟩
  · rw [lu] at ec
    rw [ec] at q
    dsimp only at q
    have rm3 := rm.no f3
    have rv3 := rv.fr f3.no
    have ho3 := f3.keep (fun z => z) rfl ho
    have rps3 := rps.fr f3.no
    have e03 := f3.keep (fun z => z) rfl e0
    have q3 := q
    refine ⟨_, rfl, _, _, _, _, _, rfl, .own _, rv3.ty VC, VC.prim x, _, rfl, ?_⟩
    cases rv3 with
    | int i hi => unfold chkF at ec; cases ec
    | pair h nn ra rb => unfold chkF at ec; cases ec
    | fnP => exact q.elim
    | @prim b dx z hb nb =>
      refine iteT ?_
      dsimp only at q
      refine ⟨_, rfl, p.R, p.dx, _, rfl, e03, rfl, _, rfl, b, C.pr, dx, _, _, rfl, hb, VC.fr.c, VC.fr.n _ (by simp), rfl, _, rfl, ?_⟩
      have ar : (ps.length : Int) = arP z := (chk_par ec).symm
      refine ⟨X, z, o, us, _, rfl, ho3, rps3, ar, f3.sm.tab _ tg, rm3.dom, fun y ey u H4 f4 ru => ?_, fun er ee => ?_⟩
      · rw [ey] at q
        exact ⟨X, p, fa, m, s, u, y, rfl, rm3.no f4, ru, goM.fr (f3.trans f4).no q⟩
      · rw [ee] at q
        exact q _ r0 f3.no e03
    | @fnM b dx d cv c0 vs0 ks hb nb rc he ne rk =>
      refine iteF ?_
      dsimp only at q
      refine ⟨_, rfl, p.R, p.dx, _, rfl, e03, rfl, _, rfl, b, C.fu, dx, _, _, rfl, hb, VC.ff.c, VC.ff.n _ (by simp), rfl, _, rfl, _, rfl, b, C.fu, dx, _, _, rfl, hb, VC.ff.c, VC.ff.n _ (by simp), rfl, ?_⟩
      exact ⟨X, p, fa, m, s, cv, c0, o, d, us, vs0, ps, ks, rfl, rm3, rc, ho3, rps3, he, ne, rk, goM.fr f3.no q⟩
  · rw [lu] at ee
    rw [ee] at q
    exact q _ r0 (Fr.refl _ _) e0
theorem scMc : FnScope ["machine", "frame", "instruction", "parts"] ["machine", "frame", "instruction"] (defScope sMc) := ⟨rfl, rfl, rfl, by decide +kernel, rfl, by decide +kernel, by decide +kernel⟩
theorem scMtl : FnScope ["machine", "frame", "instruction", "parts"] ["machine", "frame", "instruction"] (defScope sMtl) := ⟨rfl, rfl, rfl, by decide +kernel, rfl, by decide +kernel, by decide +kernel⟩
theorem scMlv : FnScope ["machine", "frame", "_"] ["machine", "frame", "_"] (defScope sMlv) := ⟨rfl, rfl, rfl, by decide +kernel, rfl, by decide +kernel, by decide +kernel⟩
theorem fl_last (a : FA) (fa : List FA) : ((a :: fa).reverse.map fun a => V.ref a.x) = (fa.reverse.map fun a => V.ref a.x) ++ [.ref a.x] := by rw [List.reverse_cons, List.map_append]; rfl
theorem ok_mlv {f fG : Addr} {fd dG : FuncData} (Fn : Fun K "leave" "leave" sMlv f fd) (U : FldC K CM fM6) (UF : FldC K CF fF5) (MG : MCal P w K mg base (L2.CX P w) 1 CM "give" ["self", "value"] (spGi CM CF C En) fG dG) : FnOk P w K mg base (L2.CX P w) 2 f fd ["machine", "frame", "_"] (spMx CM CF C En P1 isEnd) := by
  refine Fn.okX scMlv (fun vs H Q E h => ?_) (fun cdv A outer s H vs Q E hr h => ?_)
  · obtain ⟨X, p, a, fa, m, s, v, i, rfl, _⟩ := h
    rfl
  obtain ⟨X, p, a, fa, m, s, v, i, rfl, rm, ri, wd, tg, q⟩ := h
  cases wd
  have nd := scMlv.nd
  obtain ⟨n, mf, fs, res⟩ := s
  have fss := rm.fs
  cases fss with
  | @cons _ f0 _ fs hf hfs =>
  unfold actM at q
  dsimp only at q
  cases hst : f0.st with
  | nil => rw [hst] at q; exact q.elim
  | cons x st =>
  rw [hst] at q
  dsimp only at q
  obtain ⟨r0, e0, e1⟩ := rm.r
  refine ⟨_, (pss_cons (ps_expr (pe_bm0 PySem.F.plainAttrs_list PySem.F.slot_list_pop PySem.F.type_list_pop mt_pop (pe_fld (pv 0) rfl)))
    (pss_one (ps_expr (pe_meth (pv 0) MG.c MG.m MG.ok hr MG.b .nil (passes_call (takes_of rfl rfl rfl rfl) fun _ _ _ _ h => h) (pa_cons (pe_bm0 PySem.F.plainAttrs_list PySem.F.slot_list_pop PySem.F.type_list_pop mt_pop (pe_fld (pv 1) rfl)) pa_nil))))), ?_⟩
  have fl := rm.fl
  rw [fl_last] at fl
  refine ⟨_, rfl, p.R, CM, p.dx, _, _, rfl, e0, U.c, U.n _ (by simp), rfl, .inl ⟨rfl, _, SqL.of fl⟩, p.FL, _, .ref a.x, rfl, rfl, fl, by simp, ?_⟩
  rw [List.dropLast_concat]
  have offs := rm.offs
  have na : a.muts.Nodup := (List.nodup_append.mp rm.ne.m).1
  obtain ⟨rm1, hf1, f1⟩ := rm.pop
  generalize upd H p.FL (.lst (fa.reverse.map fun a => V.ref a.x)) = H1 at rm1 hf1 f1 ⊢
  obtain ⟨r1, e2, e3⟩ := rm1.r
  obtain ⟨vs, s1, s2⟩ := hf1.S
  rw [hst] at s2
  obtain ⟨u, us, rfl, ru, rus⟩ := s2.last
  refine ⟨_, rfl, p.R, p.dx, _, rfl, e2, rfl, _, rfl, a.x, CF, a.dx, _, _, rfl, hf1.x, UF.c, UF.n _ (by simp), rfl, .inl ⟨rfl, _, SqL.of s1⟩, a.S, _, u, rfl, rfl, s1, by simp, ?_⟩
  rw [List.dropLast_concat]
  obtain ⟨h2, f2⟩ := hf1.setS na (fun b z => (offs b z).1) (st := st) rus
  obtain ⟨rm2, f2X⟩ := rm1.off f2 offs
  exact ⟨X, p, fa, m, _, u, x, rfl, rm2, ru.fr f2X, goM.fr (f1.trans f2X) q⟩
theorem ok_mc {f fE fT : Addr} {fd dE dT : FuncData} (Fn : Fun K "call" "call" sMc f fd) (U : FldC K CM fM6) (UF : FldC K CF fF5) (ME : MCal P w K mg base (L2.CX P w) 5 CM "enter" ["self", "called", "parts"] (spEn CM CF C En P1) fE dE) (GT : Cal P w K mg base CX0 1 "take_last" ["stack", "many"] spTak fT dT) : FnOk P w K mg base (L2.CX P w) 6 f fd ["machine", "frame", "instruction"] (spMx CM CF C En P1 isCall) := by
  refine Fn.okX scMc (fun vs H Q E h => ?_) (fun cdv A outer s H vs Q E hr h => ?_)
  · obtain ⟨X, p, a, fa, m, s, v, i, rfl, _⟩ := h
    rfl
  obtain ⟨X, p, a, fa, m, s, v, i, rfl, rm, ri, ⟨k, rfl⟩, tg, q⟩ := h
  have nd := scMc.nd
  have r1 := hr.mono (show 1 ≤ 5 by decide)
  obtain ⟨n, mf, fs, res⟩ := s
  have fss := rm.fs
  cases fss with
  | @cons _ f0 _ fs hf hfs =>
  unfold actM at q
  dsimp only at q
  cases hdr : f0.st.drop k with
  | nil => rw [hdr] at q; exact q.elim
  | cons x st =>
  rw [hdr] at q
  dsimp only at q
  by_cases lim : k ≤ 1000 ∧ f0.st.length < many
  case neg => rw [if_neg lim] at q; exact q.elim
  rw [if_pos lim] at q
  have lk : k ≤ f0.st.length := by
    have := congrArg List.length hdr
    rw [List.length_drop, List.length_cons] at this
    omega
  obtain ⟨r0, e0, e1⟩ := rm.r
  cases ri with
  | @call b _ hb =>
  obtain ⟨us, s1, s2⟩ := hf.S
  refine ⟨_, (pss_cons (ps_set (i := 3) nd rfl (Or.inl rfl) (pe_call GT.ok r1 rfl GT.g GT.k GT.b .nil pass0 (pa_cons (pe_fld (pv 1) rfl) (pa_cons (pe_ix (r := rIxT K) ix_tup (pv 2) pe_int (fun _ _ => rfl)) pa_nil))))
    (pss_one (ps_expr (pe_meth (pv 0) ME.c ME.m ME.ok hr ME.b .nil (passes_call (takes_of rfl rfl rfl rfl) fun _ _ _ _ h => h) (pa_cons (pe_bm0 PySem.F.plainAttrs_list PySem.F.slot_list_pop PySem.F.type_list_pop mt_pop (pe_fld (pv 1) rfl)) (pa_cons (pv 3) pa_nil)))))), ?_⟩
  have na : a.muts.Nodup := (List.nodup_append.mp rm.ne.m).1
  have hX : ∀ b ∈ a.muts, X b := fun b z => rm.xm b (List.mem_append_left _ z)
  have lus : k ≤ us.length := by rw [s2.len, List.length_reverse]; exact lk
  refine ⟨_, rfl, a.x, CF, a.dx, _, _, rfl, hf.x, UF.c, UF.n _ (by simp), rfl, _, rfl, b, _, 1, _, rfl, rfl, SqT.of hb, at1 _ _ _, a.S, us, k, rfl, s1, lus, fun o ho => ?_⟩
  obtain ⟨_, h1, fo, f1, ho1, rp1, nXo⟩ := hf.take na hX rm.dom s1 lk ho
  obtain ⟨rm1, f1X⟩ := (rm.no fo).top f1 h1
  have f01 := fo.no.trans f1X
  generalize upd (upd H o (.lst (us.drop (us.length - k)))) a.S (.lst (us.take (us.length - k))) = H1 at h1 f1 ho1 rp1 rm1 f1X f01 ⊢
  generalize us.drop (us.length - k) = ps at ho1 rp1 ⊢
  obtain ⟨r1', e2, e3⟩ := rm1.r
  obtain ⟨vs, t1, t2⟩ := h1.S
  have t2 : RVs C X H1 vs (f0.st.drop k).reverse := t2
  rw [hdr] at t2
  obtain ⟨u, us1, rfl, ru, rus⟩ := t2.last
  refine ⟨_, rfl, p.R, p.dx, _, rfl, e2, rfl, _, rfl, a.x, CF, a.dx, _, _, rfl, h1.x, UF.c, UF.n _ (by simp), rfl, .inl ⟨rfl, _, SqL.of t1⟩, a.S, _, u, rfl, rfl, t1, by simp, ?_⟩
  rw [List.dropLast_concat]
  obtain ⟨h2, f2⟩ := h1.setS na hX (st := st) rus
  obtain ⟨rm2, f2X⟩ := rm1.top f2 h2
  refine ⟨_, rfl, ?_⟩
  exact ⟨X, p, a :: fa, m, _, u, x, o, ps, _, rfl, rm2, ru.fr f2X, f2X.keep nXo rfl ho1, rp1.fr f2X, (f01.trans f2X).sm.tab _ tg, goM.fr (f01.trans f2X) q⟩
theorem ok_mtl {f fE fT : Addr} {fd dE dT : FuncData} (Fn : Fun K "tail_call" "tail_call" sMtl f fd) (U : FldC K CM fM6) (UF : FldC K CF fF5) (ME : MCal P w K mg base (L2.CX P w) 5 CM "enter" ["self", "called", "parts"] (spEn CM CF C En P1) fE dE) (GT : Cal P w K mg base CX0 1 "take_last" ["stack", "many"] spTak fT dT) : FnOk P w K mg base (L2.CX P w) 6 f fd ["machine", "frame", "instruction"] (spMx CM CF C En P1 isTail) := by
  refine Fn.okX scMtl (fun vs H Q E h => ?_) (fun cdv A outer s H vs Q E hr h => ?_)
  · obtain ⟨X, p, a, fa, m, s, v, i, rfl, _⟩ := h
    rfl
  obtain ⟨X, p, a, fa, m, s, v, i, rfl, rm, ri, ⟨k, rfl⟩, tg, q⟩ := h
  have nd := scMtl.nd
  have r1 := hr.mono (show 1 ≤ 5 by decide)
  obtain ⟨n, mf, fs, res⟩ := s
  have fss := rm.fs
  cases fss with
  | @cons _ f0 _ fs hf hfs =>
  unfold actM at q
  dsimp only at q
  cases hdr : f0.st.drop k with
  | nil => rw [hdr] at q; exact q.elim
  | cons x st =>
  rw [hdr] at q
  dsimp only at q
  by_cases lim : k ≤ 1000 ∧ f0.st.length < many
  case neg => rw [if_neg lim] at q; exact q.elim
  rw [if_pos lim] at q
  have lk : k ≤ f0.st.length := by
    have := congrArg List.length hdr
    rw [List.length_drop, List.length_cons] at this
    omega
  obtain ⟨r0, e0, e1⟩ := rm.r
  cases ri with
  | @tail b _ hb =>
  obtain ⟨us, s1, s2⟩ := hf.S
  refine ⟨_, (pss_cons (ps_set (i := 3) nd rfl (Or.inl rfl) (pe_call GT.ok r1 rfl GT.g GT.k GT.b .nil pass0 (pa_cons (pe_fld (pv 1) rfl) (pa_cons (pe_ix (r := rIxT K) ix_tup (pv 2) pe_int (fun _ _ => rfl)) pa_nil))))
    (pss_cons (ps_expr (pe_bm0 PySem.F.plainAttrs_list PySem.F.slot_list_pop PySem.F.type_list_pop mt_pop (pe_fld (pv 0) rfl)))
    (pss_one (ps_expr (pe_meth (pv 0) ME.c ME.m ME.ok hr ME.b .nil (passes_call (takes_of rfl rfl rfl rfl) fun _ _ _ _ h => h) (pa_cons (pe_bm0 PySem.F.plainAttrs_list PySem.F.slot_list_pop PySem.F.type_list_pop mt_pop (pe_fld (pv 1) rfl)) (pa_cons (pv 3) pa_nil))))))), ?_⟩
  have na : a.muts.Nodup := (List.nodup_append.mp rm.ne.m).1
  have hX : ∀ b ∈ a.muts, X b := fun b z => rm.xm b (List.mem_append_left _ z)
  have lus : k ≤ us.length := by rw [s2.len, List.length_reverse]; exact lk
  refine ⟨_, rfl, a.x, CF, a.dx, _, _, rfl, hf.x, UF.c, UF.n _ (by simp), rfl, _, rfl, b, _, 1, _, rfl, rfl, SqT.of hb, at1 _ _ _, a.S, us, k, rfl, s1, lus, fun o ho => ?_⟩
  obtain ⟨_, h1, fo, f1, ho1, rp1, nXo⟩ := hf.take na hX rm.dom s1 lk ho
  obtain ⟨rm1, f1X⟩ := (rm.no fo).top f1 h1
  have f01 := fo.no.trans f1X
  generalize upd (upd H o (.lst (us.drop (us.length - k)))) a.S (.lst (us.take (us.length - k))) = H1 at h1 f1 ho1 rp1 rm1 f1X f01 ⊢
  generalize us.drop (us.length - k) = ps at ho1 rp1 ⊢
  obtain ⟨r1', e2, e3⟩ := rm1.r
  have fl := rm1.fl
  rw [fl_last] at fl
  refine ⟨_, rfl, p.R, CM, p.dx, _, _, rfl, e2, U.c, U.n _ (by simp), rfl, .inl ⟨rfl, _, SqL.of fl⟩, p.FL, _, .ref a.x, rfl, rfl, fl, by simp, ?_⟩
  rw [List.dropLast_concat]
  have offs := rm1.offs
  obtain ⟨rm2, hf2, f2⟩ := rm1.pop
  have ho2 := f2.keep nXo rfl ho1
  have rp2 := rp1.fr f2
  have f02 := f01.trans f2
  generalize upd H1 p.FL (.lst (fa.reverse.map fun a => V.ref a.x)) = H2 at rm2 hf2 f2 ho2 rp2 f02 ⊢
  obtain ⟨r2', e4, e5⟩ := rm2.r
  obtain ⟨vs, t1, t2⟩ := hf2.S
  have t2 : RVs C X H2 vs (f0.st.drop k).reverse := t2
  rw [hdr] at t2
  obtain ⟨u, us1, rfl, ru, rus⟩ := t2.last
  refine ⟨_, rfl, p.R, p.dx, _, rfl, e4, rfl, _, rfl, a.x, CF, a.dx, _, _, rfl, hf2.x, UF.c, UF.n _ (by simp), rfl, .inl ⟨rfl, _, SqL.of t1⟩, a.S, _, u, rfl, rfl, t1, by simp, ?_⟩
  rw [List.dropLast_concat]
  obtain ⟨h3, f3⟩ := hf2.setS na hX (st := st) rus
  obtain ⟨rm3, f3X⟩ := rm2.off f3 offs
  refine ⟨_, rfl, ?_⟩
  exact ⟨X, p, fa, m, _, u, x, o, ps, _, rfl, rm3, ru.fr f3X, f3X.keep nXo rfl ho2, rp2.fr f3X, (f02.trans f3X).sm.tab _ tg, goM.fr (f02.trans f3X) q⟩
end
end My
namespace My
open PySem PySem.Spec PyProof.Rows L2 TL
/-! ### a definition's value is put -/
abbrev sMpg : Stmt := top 23
def isGlob (i : Ins) : Prop := ∃ a b, i = .glob a b
section
variable {P : Program} {w : World} {K : PySem.W.Frag} {mg : Str → Option Value} {base : Heap} {CM CF En P1 : Addr} {C : Cs}
theorem scMpg : FnScope ["machine", "frame", "instruction"] ["machine", "frame", "instruction"] (defScope sMpg) := ⟨rfl, rfl, rfl, by decide +kernel, rfl, by decide +kernel, by decide +kernel⟩
theorem ok_mpg {f fD : Addr} {fd dD : FuncData} (Fn : Fun K "put_global" "put_global" sMpg f fd) (U : FldC K CM fM6) (UF : FldC K CF fF5) (MD : MCal P w K mg base (L2.CX P w) 3 CM "definition" ["self", "module", "name"] (spDfn CM C En) fD dD) : FnOk P w K mg base (L2.CX P w) 4 f fd ["machine", "frame", "instruction"] (spMx CM CF C En P1 isGlob) := by
  refine Fn.okX scMpg (fun vs H Q E h => ?_) (fun cdv A outer s H vs Q E hr h => ?_)
  · obtain ⟨X, p, a, fa, m, s, v, i, rfl, _⟩ := h
    rfl
  obtain ⟨X, p, a, fa, m, s, v, i, rfl, rm, ri, ⟨y, z, rfl⟩, tg, q⟩ := h
  have nd := scMpg.nd
  obtain ⟨n, mf, fs, res⟩ := s
  have fss := rm.fs
  cases fss with
  | @cons _ f0 _ fs hf hfs =>
  unfold actM at q
  dsimp only at q
  obtain ⟨r0, e0, e1⟩ := rm.r
  cases ri with
  | @glob b _ _ hb =>
  obtain ⟨vs, s1, _⟩ := hf.S
  have na : a.muts.Nodup := (List.nodup_append.mp rm.ne.m).1
  have hX : ∀ b ∈ a.muts, X b := fun b z => rm.xm b (List.mem_append_left _ z)
  refine ⟨_, (pss_one (ps_expr (pe_bm PySem.F.plainAttrs_list PySem.F.slot_list_append PySem.F.type_list_append mt_append (pe_fld (pv 1) rfl) (pa_cons (pe_meth (pv 0) MD.c MD.m MD.ok hr MD.b .nil (passes_call (takes_of rfl rfl rfl rfl) fun _ _ _ _ h => h) (pa_cons (pe_ix (r := rIxT K) ix_tup (pv 2) pe_int (fun _ _ => rfl)) (pa_cons (pe_ix (r := rIxT K) ix_tup (pv 2) pe_int (fun _ _ => rfl)) pa_nil))) pa_nil)))), ?_⟩
  refine ⟨_, rfl, a.x, CF, a.dx, _, _, rfl, hf.x, UF.c, UF.n _ (by simp), rfl, .inl ⟨rfl, _, SqL.of s1⟩, ?_⟩
  refine ⟨_, rfl, p.R, p.dx, _, rfl, e0, rfl, _, rfl, b, _, 1, _, rfl, rfl, SqT.of hb, at1 _ _ _, _, rfl, b, _, 2, _, rfl, rfl, SqT.of hb, atI_nat (j := 2) rfl, ?_⟩
  refine ⟨X, p.R, p.dx, p.D, _, y, z, m.gl, rfl, e0, rfl, rm.d, fun x hx u H' f ru => ?_, fun hx => ?_⟩
  · rw [hx] at q
    dsimp only at q
    by_cases ls : f0.st.length < many
    case neg => rw [if_neg ls] at q; exact q.elim
    rw [if_pos ls] at q
    have rm1 := rm.no f
    have hf1 := hf.no f
    have s1' := f.keep (fun z => z) rfl s1
    have l0 := hf1.lenS s1'
    refine ⟨a.S, _, _, rfl, rfl, s1', Nat.lt_of_lt_of_le (show vs.length < many by omega) (by decide), ?_⟩
    obtain ⟨h1, h2⟩ := hf1.push na hX s1' ru
    obtain ⟨g1, g2⟩ := rm1.top h2 h1
    exact q X (a :: fa) _ (f.no.trans g2) (fun b z => z) (fun b z => .inl z) g1
  · rw [hx] at q
    dsimp only at q
    exact q H r0 (Fr.refl _ _) e0
end
end My
namespace My
open PySem PySem.Spec PyProof.Rows L2 TL
/-! ### the machine's loop -/
inductive AW where
  | int | prim | glob | place | kept | fn | put | jump | unless | call | tail | end_
def AW.word : AW → Str
  | .int => "int" | .prim => "prim" | .glob => "global" | .place => "place" | .kept => "kept" | .fn => "fn" | .put => "put" | .jump => "jump" | .unless => "unless" | .call => "call" | .tail => "tail" | .end_ => "end"
def AW.sp (CM CF : Addr) (C : Cs) (En P1 : Addr) : AW → Sp
  | .int => spFo CF C isInt | .prim => spFo CF C isPrim | .glob => spMx CM CF C En P1 isGlob | .place => spFo CF C isSrc | .kept => spFo CF C isSrc | .fn => spFo CF C isFn | .put => spFo CF C isPut | .jump => spFo CF C isJump | .unless => spFo CF C isUnless
  | .call => spMx CM CF C En P1 isCall | .tail => spMx CM CF C En P1 isTail | .end_ => spMx CM CF C En P1 isEnd
def awI : Ins → Option AW
  | .int _ => some .int | .prim _ => some .prim | .glob _ _ => some .glob | .src (.place _) => some .place | .src (.kept _) => some .kept | .fn _ _ => some .fn | .put _ => some .put | .jump _ => some .jump | .unless _ => some .unless | .call _ => some .call | .tail _ => some .tail | .end_ => some .end_
theorem RI.head {H : Hp} {v : V} {i : Ins} {aw : AW} (r : RI H v i) (e : awI i = some aw) : ∃ (b : Addr) (xs : List V), v = .ref b ∧ H b = some (.tup (.str aw.word :: xs)) := by
  cases r with
  | int h => cases e; exact ⟨_, _, rfl, h⟩
  | prim h => cases e; exact ⟨_, _, rfl, h⟩
  | glob h => cases e; exact ⟨_, _, rfl, h⟩
  | @src a s h =>
    cases s with
    | place n => cases e; exact ⟨_, _, rfl, h⟩
    | kept n => cases e; exact ⟨_, _, rfl, h⟩
  | fn h => cases e; exact ⟨_, _, rfl, h⟩
  | put h => cases e; exact ⟨_, _, rfl, h⟩
  | jump h => cases e; exact ⟨_, _, rfl, h⟩
  | «unless» h => cases e; exact ⟨_, _, rfl, h⟩
  | call h => cases e; exact ⟨_, _, rfl, h⟩
  | tail h => cases e; exact ⟨_, _, rfl, h⟩
  | end_ h => cases e; exact ⟨_, _, rfl, h⟩
theorem RIs.get2 {H : Hp} : ∀ {vs : List V} {is : List Ins} {n : Nat} {i : Ins}, RIs H vs is → is[n]? = some i → ∃ v, vs[n]? = some v ∧ RI H v i
  | _, _, _, _, .nil, e => by simp at e
  | _, _, 0, _, .cons r _, e => by cases e; exact ⟨_, rfl, r⟩
  | _, _, n + 1, _, .cons _ rs, e => by
    obtain ⟨v, h1, h2⟩ := RIs.get2 (n := n) rs (by simpa using e)
    exact ⟨v, by simpa using h1, h2⟩
abbrev sMca : Stmt := inClass (top 33) 4
def outM (CM CF : Addr) (C : Cs) (En : Addr) (X : Addr → Prop) (H : Hp) (p : MA) (m : Wd) (Q : VK) (E : XK) : Option (Except (List Str × Nat × Nat) MS) → Prop
  | some (.ok s) => ∃ v, s.res = some v ∧ ∀ X' u H', Fr X H H' → (∀ b, X b → X' b) → (∀ b, X' b → X b ∨ H b = none) → RM CM CF C X' H' p [] m s → RV C X' H' u v → Q u H'
  | some (.error (ws, n, mf)) => ∀ H1 rv, Fr X H H1 → H1 p.R = some (.ins CM p.dx (mfl p m n mf rv)) → erX No En ws H1 E
  | none => False
def spMca (CM CF : Addr) (C : Cs) (En P1 : Addr) : Sp := fun vs H Q E => ∃ (X : Addr → Prop) (p : MA) (m : Wd) (s0 s1 : MS) (cv : V) (c : Code) (k : Nat), vs = [.ref p.R, cv] ∧ RM CM CF C X H p [] m s0 ∧ RC H cv c ∧ GxR.TabG H P1 ∧ addF s0 c [] [] = .ok s1 ∧ outM CM CF C En X H p m Q E (runM k m s1)
theorem fo_of {CM CF : Addr} {C : Cs} {En : Addr} {X : Addr → Prop} {H : Hp} {p : MA} {a : FA} {fa : List FA} {m : Wd} {n mf : Nat} {f0 : FS} {fs : List FS} {res : Option Vl} {Q : VK} {E : XK} {mv v : V} {i : Ins} {ok : Ins → Prop} (h : RM CM CF C X H p (a :: fa) m ⟨n, mf, f0 :: fs, res⟩) (ri : RI H v i) (hok : ok i)
    (g : goM CM CF C En X H p m Q E (actM m.gl i ⟨n, mf, f0 :: fs, res⟩)) (e : actM m.gl i ⟨n, mf, f0 :: fs, res⟩ = match frF f0 i with | some f' => .ok ⟨n, mf, f' :: fs, res⟩ | none => .stuck) : spFo CF C ok [mv, .ref a.x, v] H Q E := by
  rw [e] at g
  cases hf : frF f0 i with
  | none => rw [hf] at g; exact g.elim
  | some f' =>
    rw [hf] at g
    have na : a.muts.Nodup := (List.nodup_append.mp h.ne.m).1
    cases h.fs with
    | cons h1 hs =>
    refine ⟨X, a, f0, f', mv, v, i, rfl, h1, ri, hok, na, fun b z => h.xm b (List.mem_append_left _ z), h.dom, hf, fun H' f r => ?_⟩
    obtain ⟨g1, g2⟩ := h.top f r
    exact g X (a :: fa) H' g2 (fun b z => z) (fun b z => .inl z) g1
section
variable {P : Program} {w : World} {K : PySem.W.Frag} {mg : Str → Option Value} {base : Heap} {CM CF En P1 : Addr} {C : Cs}
theorem scMca : FnScope ["self", "code", "frame", "instruction", "action"] ["self", "code"] (defScope sMca) := ⟨rfl, rfl, rfl, by decide +kernel, rfl, by decide +kernel, by decide +kernel⟩
theorem ok_mca {f fK fA fc : Addr} {fd dK dA : FuncData} (Fn : Fun K "carry_out" "Machine.carry_out" sMca f fd) (U : FldC K CM fM6) (UF : FldC K CF fF5) (gA : mg "ACTIONS" = some (.ref fc)) (KD : ∃ es n, KDict K w fc es n) (MK : MCal P w K mg base (L2.CX P w) 3 CM "count_step" ["self"] (spCnt CM En) fK dK)
    (MF : MCal P w K mg base (L2.CX P w) 3 CM "add_frame" ["self", "code", "parts", "kept"] (spAf CM CF C En) fA dA)
    (TB : ∀ wd : AW, ∃ g, PySem.W.nsIn K fc wd.word = some (some (.ref g)) ∧ HeldX P w K mg base 6 g (wd.sp CM CF C En P1)) : FnOk P w K mg base (L2.CX P w) 7 f fd ["self", "code"] (spMca CM CF C En P1) := by
  refine Fn.okX scMca (fun vs H Q E h => ?_) (fun cdv A outer s H vs Q E hr h => ?_)
  · obtain ⟨X, p, m, s0, s1, cv, c, k, rfl, _⟩ := h
    rfl
  obtain ⟨X, p, m, s0, s1, cv, c, k, rfl, rm, rc, tg, ea, q⟩ := h
  have nd := scMca.nd
  have r3 := hr.mono (show 3 ≤ 6 by decide)
  obtain ⟨es, nn, KD⟩ := KD
  have held : ∀ g sp, (∃ wd : AW, PySem.W.nsIn K fc wd.word = some (some (.ref g)) ∧ sp = wd.sp CM CF C En P1) → HeldX P w K mg base 6 g sp := by
    rintro g sp ⟨wd, hn, rfl⟩
    obtain ⟨g', h1, h2⟩ := TB wd
    rw [hn] at h1
    cases h1
    exact h2
  obtain ⟨r0, e0, e1⟩ := rm.r
  refine ⟨_, (pss_cons (ps_expr (pe_meth (pv 0) MF.c MF.m MF.ok r3 MF.b .nil (passes_call (takes_of rfl rfl rfl rfl) fun _ _ _ _ h => h) (pa_cons (pv 1) (pa_cons (pe_lst pa_nil) (pa_cons (pe_lst pa_nil) pa_nil)))))
    (pss_cons (ps_while (passes_of rfl) (pt_truth (pe_fld (pv 0) rfl) (by intro _; rfl))
      (pss_cons (ps_expr (pe_meth0 (pv 0) MK.c MK.m MK.ok r3 MK.b .nil (passes_call (takes_of rfl rfl rfl rfl) fun _ _ _ _ h => h)))
      (pss_cons (ps_set (i := 2) nd rfl (Or.inl rfl) (pe_ix (r := rIxL K) ix_list (pe_fld (pv 0) rfl) (pe_un un_neg pe_int) (fun _ _ => rfl)))
      (pss_cons (ps_set (i := 3) nd rfl (Or.inl rfl) (pe_ix (r := rIxT K) ix_tup (pe_fld (pv 2) rfl) (pe_fld (pv 2) rfl) (fun _ _ => rfl)))
      (pss_cons (ps_fldaug (pv 2) pe_int in_add)
      (pss_cons (ps_set (i := 4) nd rfl (Or.inl rfl) (pe_ix (r := rIxD K w) ix_kdict (pe_glob (v := .ref fc) rfl gA rfl) (pe_ix (r := rIxT K) ix_tup (pv 3) pe_int (fun _ _ => rfl)) (fun _ _ => rfl)))
      (pss_one (ps_expr (pe_callAX (i := 4) held hr rfl (.inl rfl) (passes_call (takes_of rfl rfl rfl rfl) fun _ _ _ _ h => h) (pa_cons (pv 0) (pa_cons (pv 2) (pa_cons (pv 3) pa_nil))))))))))))
    (pss_one (ps_ret (pe_fld (pv 0) rfl))))), ?_⟩
  refine ⟨_, rfl, p.R, p.dx, _, rfl, e0, rfl, _, rfl, by show 0 ≤ sizeLine; decide, fun o ho => ⟨by show 0 ≤ sizeLine; decide, fun e he => ?_⟩⟩
  have f1 := Fr.new (X := No) (o := .lst []) ho
  have f2 := Fr.new (X := No) (o := .lst []) he
  have f12 := f1.trans f2
  have eo : upd (upd H o (.lst [])) e (.lst []) o = some (.lst []) := f2.keep (fun z => z) rfl upd_same
  have ee : upd (upd H o (.lst [])) e (.lst []) e = some (.lst []) := upd_same
  have he0 := f1.dom he
  generalize upd (upd H o (.lst [])) e (.lst []) = H1 at f12 eo ee ⊢
  refine ⟨X, p, [], m, s0, cv, c, o, e, [], [], [], [], rfl, rm.no f12, rc.keep f12.tup, eo, .nil, ee, fun z => rm.dom e z he0, .nil, ?_⟩
  rw [ea]
  intro X2 fa2 H2 f3 x2 x2n rm2
  have f03 := f12.no.trans f3
  generalize hr0 : runM k m s1 = r at q
  dsimp only
  refine seq_of (while_n (fun kk σ H' => ∃ (X' : Addr → Prop) (fa : List FA) (s' : MS) (v2 v3 v4 : Option V), σ = [some (.ref p.R), some cv, v2, v3, v4] ∧ RM CM CF C X' H' p fa m s' ∧ Fr X H H' ∧ (∀ b, X b → X' b) ∧ (∀ b, X' b → X b ∨ H b = none) ∧ runM kk m s' = r) k
    ⟨X2, fa2, s1, none, none, none, rfl, rm2, f03, x2, fun b z => (x2n b z).imp id fun n => f12.dom n, hr0⟩ ?_ ?_)
  · rintro kk σ H' ⟨X', fa, s', v2, v3, v4, rfl, rm', f', xa, xb, er⟩
    cases kk with
    | zero => unfold runM at er; rw [← er] at q; exact q.elim
    | succ kk =>
    obtain ⟨r0, e0, e1⟩ := rm'.r
    refine ⟨_, rfl, p.R, CM, p.dx, _, _, rfl, e0, U.c, U.n _ (by simp), rfl, _, .inl ⟨_, SqL.of rm'.fl, rfl⟩, ?_⟩
    obtain ⟨n, mf, fs, res⟩ := s'
    have fss := rm'.fs
    cases fss with
    | nil =>
      refine iteF ?_
      unfold runM at er
      dsimp only at er
      rw [← er] at q
      obtain ⟨v, hv, q⟩ := q
      have hv : res = some v := hv
      subst hv
      exact ⟨_, rfl, p.R, CM, p.dx, _, _, rfl, e0, U.c, U.n _ (by simp), rfl, q X' r0 H' f' xa xb rm' e1⟩
    | @cons a f0 fa fs hf hfs =>
      rw [fl_last]
      rw [show (!((fa.reverse.map fun a => V.ref a.x) ++ [V.ref a.x]).isEmpty) = true by cases (fa.reverse.map fun a => V.ref a.x) <;> rfl]
      refine iteT ?_
      unfold runM at er
      dsimp only at er
      unfold stepM at er
      dsimp only at er
      refine ⟨_, rfl, p.R, p.dx, _, rfl, e0, rfl, p.R, p.dx, _, n, m.m, rfl, e0, rfl, rfl, by show 6 < 1000; decide, fun lt => ?_, fun le => ?_⟩
      · rw [if_neg (Nat.not_le_of_lt lt)] at er
        cases hi : f0.is[f0.at_]? with
        | none => rw [hi] at er; rw [← er] at q; exact q.elim
        | some i =>
        rw [hi] at er
        dsimp only at er
        obtain ⟨rm1, f1⟩ := rm'.setR (n := n + 1) (mf := mf) (rv := r0) (res := res) e1
        have ep : putF ("steps" : Str) (V.int (n + 1 : Nat)) (mfl p m n mf r0) = mfl p m (n + 1) mf r0 := rfl
        rw [ep]
        generalize upd H' p.R (.ins CM p.dx (mfl p m (n + 1) mf r0)) = H3 at rm1 f1 ⊢
        obtain ⟨r1, e2, e3⟩ := rm1.r
        have fl := rm1.fl
        rw [fl_last] at fl
        have fss1 := rm1.fs
        cases fss1 with
        | @cons _ _ _ _ hf1 hfs1 =>
        obtain ⟨qv, q1, q2⟩ := hf1.q
        obtain ⟨v, hv, ri⟩ := q2.get2 hi
        have na : a.muts.Nodup := (List.nodup_append.mp rm1.ne.m).1
        have hX : ∀ b ∈ a.muts, X' b := fun b z => rm1.xm b (List.mem_append_left _ z)
        refine ⟨_, rfl, p.R, CM, p.dx, _, _, rfl, e2, U.c, U.n _ (by simp), rfl, _, rfl, p.FL, _, _, _, rfl, rfl, SqL.of fl, atI_last _ _, ?_⟩
        refine ⟨_, rfl, a.x, CF, a.dx, _, _, rfl, hf1.x, UF.c, UF.n _ (by simp), rfl, _, rfl, a.x, CF, a.dx, _, _, rfl, hf1.x, UF.c, UF.n _ (by simp), rfl, a.q, _, _, _, rfl, rfl, SqT.of q1, atI_nat hv, ?_⟩
        refine ⟨_, rfl, a.x, CF, a.dx, _, _, rfl, hf1.x, UF.c, UF.n _ (by simp), rfl, _, _, rfl, rfl, _, _, hf1.x, by show 5 < 1000; decide, ?_⟩
        obtain ⟨hf2, f2⟩ := hf1.setA na hX (n := f0.at_ + 1)
        obtain ⟨rm2, f2X⟩ := rm1.top f2 hf2
        have ep2 : putF ("at" : Str) (V.int ((f0.at_ : Int) + 1)) (ffl a.q f0.at_ a.P a.S a.e) = ffl a.q (f0.at_ + 1) a.P a.S a.e := rfl
        have ri2 := ri.keep f2.tup
        have f02 : Fr X H _ := (f'.drop2 f1 xb).drop2 f2X xb
        have goal : ∀ w4 : Option V, goM CM CF C En X' (upd H3 a.x (.ins CF a.dx (ffl a.q (f0.at_ + 1) a.P a.S a.e))) p m (fun v' H'' => ∃ m', m' < kk + 1 ∧ ∃ (X' : Addr → Prop) (fa : List FA) (s' : MS) (v2 v3 v4 : Option V), [some (V.ref p.R), some cv, some (V.ref a.x), some v, w4] = [some (.ref p.R), some cv, v2, v3, v4] ∧ RM CM CF C X' H'' p fa m s' ∧ Fr X H H'' ∧ (∀ b, X b → X' b) ∧ (∀ b, X' b → X b ∨ H b = none) ∧ runM m' m s' = r) E (actM m.gl i ⟨n + 1, mf, { f0 with at_ := f0.at_ + 1 } :: fs, res⟩) := by
          intro w4
          cases hact : actM m.gl i ⟨n + 1, mf, { f0 with at_ := f0.at_ + 1 } :: fs, res⟩ with
          | stuck => rw [hact] at er; rw [← er] at q; exact q.elim
          | ok s2 =>
            rw [hact] at er
            intro X3 fa3 H4 f4 x3 x3n rm4
            exact ⟨kk, Nat.lt_succ_self _, X3, fa3, s2, _, _, w4, rfl, rm4, f02.drop2 f4 xb, fun b z => x3 b (xa b z), fun b z => (x3n b z).elim (xb b) (fun n => .inr (f02.dom n)), er⟩
          | err ws n' mf' =>
            rw [hact] at er
            rw [← er] at q
            intro H4 rv f4 e4
            exact q H4 rv (f02.drop2 f4 xb) e4
        have tg2 := f02.sm.tab _ tg
        rw [ep2]
        generalize upd H3 a.x (.ins CF a.dx (ffl a.q (f0.at_ + 1) a.P a.S a.e)) = H5 at hf2 f2 rm2 f2X ri2 f02 goal tg2 ⊢
        obtain ⟨aw, haw⟩ : ∃ aw, awI i = some aw := by
          cases i with
          | src s => cases s with | place n => exact ⟨_, rfl⟩ | kept n => exact ⟨_, rfl⟩
          | _ => exact ⟨_, rfl⟩
        obtain ⟨b, xs, rfl, hb⟩ := ri2.head haw
        obtain ⟨g, hg, _⟩ := TB aw
        refine ⟨_, rfl, b, _, 0, _, rfl, rfl, SqT.of hb, at0 _ _, fc, aw.word, .ref g, rfl, rfl, ⟨es, nn, .ref g, KD.at_, KD.lit, hg, rfl⟩, g, _, rfl, ⟨aw, hg, rfl⟩, _, rfl, _, rfl, _, rfl, ?_⟩
        have goal := goal (some (.ref g))
        clear er
        cases i with
        | glob y z => cases haw; exact ⟨X', p, a, fa, m, _, _, _, rfl, rm2, ri2, ⟨y, z, rfl⟩, tg2, goal⟩
        | int z => cases haw; exact fo_of rm2 ri2 ⟨z, rfl⟩ goal rfl
        | prim z => cases haw; exact fo_of rm2 ri2 ⟨z, rfl⟩ goal rfl
        | src z =>
          cases z with
          | place z => cases haw; exact fo_of rm2 ri2 ⟨_, rfl⟩ goal rfl
          | kept z => cases haw; exact fo_of rm2 ri2 ⟨_, rfl⟩ goal rfl
        | fn c ss => cases haw; exact fo_of rm2 ri2 ⟨c, ss, rfl⟩ goal rfl
        | put z => cases haw; exact fo_of rm2 ri2 ⟨z, rfl⟩ goal rfl
        | jump z => cases haw; exact fo_of rm2 ri2 ⟨z, rfl⟩ goal rfl
        | «unless» z => cases haw; exact fo_of rm2 ri2 ⟨z, rfl⟩ goal rfl
        | call z => cases haw; exact ⟨X', p, a, fa, m, _, _, _, rfl, rm2, ri2, ⟨z, rfl⟩, tg2, goal⟩
        | tail z => cases haw; exact ⟨X', p, a, fa, m, _, _, _, rfl, rm2, ri2, ⟨z, rfl⟩, tg2, goal⟩
        | end_ => cases haw; exact ⟨X', p, a, fa, m, _, _, _, rfl, rm2, ri2, rfl, tg2, goal⟩
      · rw [if_pos le] at er
        rw [← er] at q
        exact q H' r0 f' e0
  · rintro σ H0 Q1 Q2 hm hh
    obtain ⟨x, e, a, C', dx, fs, v, h1, h2, h3, h4, h5, kk, h6, h7⟩ := hh
    exact ⟨x, e, a, C', dx, fs, v, h1, h2, h3, h4, h5, kk, h6, hm _ _ h7⟩
end
end My
namespace My
open PySem PySem.Spec PyProof.Rows L2 TL
/-! ### run_code -/
abbrev sRc : Stmt := top 34
/-- the machine between two parts: steps, most frames, result -/
abbrev MSt := Nat × Nat × Option Vl
def maRun (k m : Nat) (gl : Gl) (s : MSt) (c : Code) : Option (Except (List Str × MSt) (MSt × Vl)) := match addF ⟨s.1, s.2.1, [], s.2.2⟩ c [] [] with
  | .ok s1 => match runM k ⟨m, gl⟩ s1 with
    | some (.ok s') => match s'.res with
      | some v => some (.ok ((s'.n, s'.mf, s'.res), v))
      | none => none
    | some (.error (ws, n, mf)) => some (.error (ws, n, mf, none))
    | none => none
  | _ => none
structure IxM where
  p : MA
  m : Nat
  k : Nat
section
variable {CM CF : Addr} {C : Cs}
theorem RM.put {X : Addr → Prop} {H : Hp} {p : MA} {m : Nat} {gl : Gl} {ms : MS} {kvs : List (List Key × V)} {k : Str × Str} {v : V} {x : Vl} {rs : List FS} (h : RM CM CF C X H p [] ⟨m, gl⟩ ms) (XD : X p.D) (hD : H p.D = some (.dT kvs)) (rv : RV C X H v x) :
    RM CM CF C X (upd H p.D (.dT (putK kvs (glK k) v))) p [] ⟨m, glPut k x gl⟩ ms := by
  obtain ⟨r0, e0, e1⟩ := h.r
  obtain ⟨kvs', d1, d2⟩ := h.d
  rw [hD] at d1
  cases d1
  have f1 : Fr (fun b => b = p.D) H (upd H p.D (.dT (putK kvs (glK k) v))) := Fr.set rfl hD rfl
  have hw : ∀ b, b = p.D → X b := fun b e => by rw [e]; exact XD
  have f := f1.wide hw
  exact ⟨⟨r0, by rw [upd_ne (Ne.symm h.neRD)]; exact e0, e1.fr f⟩, by rw [upd_ne (Ne.symm h.neFD)]; exact h.fl, h.fs.fr f1 hw (fun b z => by cases z), ⟨_, upd_same, (d2.fr f).put (rv.fr f)⟩, h.nd, h.xx, fun b z => f.dom' (h.dom b z)⟩
def cdM (CM CF : Addr) (C : Cs) (i : IxM) : CoD C CM where
  σ := MSt
  β := Code
  self := i.p.R
  D := i.p.D
  RB := RC
  run := maRun i.k i.m
  I := fun X H s gl => RM CM CF C X H i.p [] ⟨i.m, gl⟩ ⟨s.1, s.2.1, [], s.2.2⟩ ∧ X i.p.D
  J := fun H s => ∃ rv, H i.p.R = some (.ins CM i.p.dx (mfl i.p ⟨i.m, []⟩ s.1 s.2.1 rv))
  keepB := fun k h => h.keep k
  noI := fun f h => ⟨h.1.no f, h.2⟩
  noJ := fun f ⟨rv, h⟩ => ⟨rv, f.keep (fun z => z) rfl h⟩
  obj := fun h => by
    obtain ⟨rv, e, _⟩ := h.1.r
    exact ⟨_, _, e, rfl, rfl⟩
  df := fun h => ⟨h.1.d, h.2⟩
  put := fun h hD rv => ⟨h.1.put (rs := []) h.2 hD rv, h.2⟩
  toJ := fun h => by
    obtain ⟨rv, e, _⟩ := h.1.r
    exact ⟨rv, e⟩
  grow := fun h b z => h.1.dom b z
theorem mca_co {En P1 : Addr} : ∀ vs H Q E, spCo En P1 (cdM CM CF C) vs H Q E → spMca CM CF C En P1 vs H Q E := by
  rintro vs H Q E ⟨⟨p, m, k⟩, X, s, gl, cv, c, rfl, ⟨st, xD⟩, rc, tg, q⟩
  have q : coPost En (cdM CM CF C ⟨p, m, k⟩) X H gl Q E (maRun k m gl s c) := q
  unfold maRun at q
  cases ea : addF ⟨s.1, s.2.1, [], s.2.2⟩ c [] [] with
  | stuck => rw [ea] at q; exact q.elim
  | err ws n mf => rw [ea] at q; exact q.elim
  | ok s1 =>
  rw [ea] at q
  dsimp only at q
  refine ⟨X, p, ⟨m, gl⟩, _, s1, cv, c, k, rfl, st, rc, tg, ea, ?_⟩
  generalize runM k ⟨m, gl⟩ s1 = r at q ⊢
  match r, q with
  | none, q => exact q
  | some (.error (ws, n, mf)), q => exact fun H1 rv f e => q H1 f ⟨rv, e⟩
  | some (.ok ⟨n, mf, fs, none⟩), q => exact q.elim
  | some (.ok ⟨n, mf, fs, some v⟩), q =>
    refine ⟨v, rfl, fun X' u H' f xa xb rm rv => ?_⟩
    have ef : fs = [] := by
      have := rm.fs
      cases this
      rfl
    subst ef
    exact q X' u H' f xa xb ⟨rm, xa _ xD⟩ rv
/-- a definition's code as it is handed in -/
def RDm (H : Hp) (v : V) (d : (Str × Str) × Code) : Prop := ∃ (a : Addr) (c : V), v = .ref a ∧ H a = some (.tup [.str d.1.1, .str d.1.2, c]) ∧ RC H c d.2
theorem RDm.keep {H H' : Hp} (k : KpT H H') {v : V} {d : (Str × Str) × Code} (h : RDm H v d) : RDm H' v d := by
  obtain ⟨a, c, e, h1, h2⟩ := h
  exact ⟨a, c, e, k _ _ h1, h2.keep k⟩
def codeF (k m : Nat) : List ((Str × Str) × Code) → Code → Gl → MSt → Option (Except (List Str × MSt) (MSt × Vl))
  | [], c, gl, s => maRun k m gl s c
  | (key, d) :: ds, c, gl, s => match maRun k m gl s d with
    | some (.ok (s', x)) => codeF k m ds c (glPut key x gl) s'
    | some (.error e) => some (.error e)
    | none => none
theorem codeF_cons (k m : Nat) (key : Str × Str) (d : Code) (ds : List ((Str × Str) × Code)) (c : Code) (gl : Gl) (s : MSt) : codeF k m ((key, d) :: ds) c gl s = (match maRun k m gl s d with
    | some (.ok (s', x)) => codeF k m ds c (glPut key x gl) s'
    | some (.error e) => some (.error e)
    | none => none) := rfl
theorem codeF_prog (CM CF : Addr) (C : Cs) (i : IxM) : ∀ (ds : List ((Str × Str) × Code)) (c : Code) (gl : Gl) (s : MSt), progF (cdM CM CF C i) ds c gl s = codeF i.k i.m ds c gl s
  | [], _, _, _ => rfl
  | (key, d) :: ds, c, gl, s => by
    rw [codeF_cons]
    refine (progF_cons (cdM CM CF C i) key d ds c gl s).trans ?_
    have e : (cdM CM CF C i).run gl s d = maRun i.k i.m gl s d := rfl
    rw [e]
    generalize maRun i.k i.m gl s d = r
    match r with
    | none => rfl
    | some (.error e) => rfl
    | some (.ok (s', x)) => exact codeF_prog CM CF C i ds c _ _
def rcPost (H : Hp) (Q : VK) : Option (Except (List Str × MSt) (MSt × Vl)) → Prop
  | some (.ok (s, v)) => ∀ a o u H', Fr No H H' → H' a = some (.tup [.ref o, .int (s.1 : Nat), .int (s.2.1 : Nat)]) → H' o = some (.tup [.str "value", u]) → RSh H' u (showF v 0 0).1 → Q (.ref a) H'
  | some (.error (ws, s)) => ∀ a o H', Fr No H H' → H' a = some (.tup [.ref o, .int (s.1 : Nat), .int (s.2.1 : Nat)]) → H' o = some (.tup (ws.map .str)) → Q (.ref a) H'
  | none => False
def spRc (P1 : Addr) : Sp := fun vs H Q _ => ∃ (l : Addr) (us : List V) (ds : List ((Str × Str) × Code)) (cv : V) (m : Nat) (c : Code) (k : Nat), vs = [.ref l, cv, .int m] ∧ H l = some (.lst us) ∧ Als (RDm H) us ds ∧ ds.length ≤ 1000 ∧ RC H cv c ∧ GxR.TabG H P1 ∧ rcPost H Q (codeF k m ds c [] (0, 0, none))
end
section
variable {P : Program} {w : World} {K : PySem.W.Frag} {mg : Str → Option Value} {base : Heap} {CM CF En P1 : Addr} {C : Cs}
theorem scRc : FnScope ["definitions", "code", "most", "machine", "outcome"] ["definitions", "code", "most"] (defScope sRc) := ⟨rfl, rfl, rfl, by decide +kernel, rfl, by decide +kernel, by decide +kernel⟩
theorem ok_rc {f fI fC : Addr} {fd dI dC : FuncData} (Fn : Fun K "run_code" "run_code" sRc f fd) (U : FldC K CM fM6) (MP : MkC P w K mg base 2 "Machine" ["self", "most"] (spMin CM) CM fI dI)
    (MC : MCal P w K mg base CX0 71 CM "carry_out_program" ["self", "definitions", "last"] (spCop En P1 (cdM CM CF C)) fC dC) : FnOk P w K mg base CX0 72 f fd ["definitions", "code", "most"] (spRc P1) := by
  refine Fn.ok scRc (fun vs H Q E h => ?_) (fun cdv A outer s H vs Q E hr h => ?_)
  · obtain ⟨l, us, ds, cv, m, c, k, rfl, _⟩ := h
    rfl
  obtain ⟨l, us, ds, cv, m, c, k, rfl, hl, al, ld, rc, tg, q⟩ := h
  have nd := scRc.nd
  have r3 := hr.mono (show 3 ≤ 71 by decide)
  refine ⟨_, (pss_cons (ps_set (i := 3) nd rfl (Or.inl rfl) (pe_make (E := fun _ _ _ => False) MP.m MP.ok r3 rfl MP.g MP.b .nil pass0 (pa_cons (pv 2) pa_nil)))
    (pss_cons (ps_set (i := 4) nd rfl (Or.inl rfl) (pe_meth (pv 3) MC.c MC.m MC.ok hr MC.b .nil pass0 (pa_cons (pv 0) (pa_cons (pv 1) pa_nil))))
    (pss_one (ps_ret (pe_tup (pa_cons (pv 4) (pa_cons (pe_fld (pv 3) rfl) (pa_cons (pe_fld (pv 3) rfl) pa_nil)))))))), ?_⟩
  refine ⟨_, rfl, fun R dx hR hd ne => ⟨R, dx, m, rfl, upd_same, fun D FL H1 hD hF f1 d1 F1 r1 => ⟨rfl, ?_⟩⟩⟩
  have fx : Fr No H (upd (upd H dx (.own R)) R (.ins CM dx [])) := mk_fr hR hd ne
  have f01 : Fr No H H1 := fx.drop f1 fun b e => by rw [e]; exact hR
  have hF0 : H FL = none := fx.dom hF
  have hD0 : H D = none := fx.dom hD
  have nRF : R ≠ FL := ne_of r1 F1 fun z => by cases z
  have newX : ∀ b, (b = R ∨ b = FL ∨ b = D) → H b = none := fun b e => by
    rcases e with e | e | e <;> rw [e]
    · exact hR
    · exact hF0
    · exact hD0
  have rm : RM CM CF C (fun b => b = R ∨ b = FL ∨ b = D) H1 ⟨R, dx, FL, D⟩ [] ⟨m, []⟩ ⟨0, 0, [], none⟩ := by
    refine ⟨⟨.non, r1, rfl⟩, F1, .nil, ⟨[], d1, .nil⟩, ?_, fun b z => ?_, fun b e => ?_⟩
    · show [R, FL].Nodup
      simp [nRF]
    · have z : b ∈ [R, FL] := z
      simp only [List.mem_cons, List.not_mem_nil, or_false] at z
      rcases z with e | e
      · exact .inl e
      · exact .inr (.inl e)
    · rcases e with e | e | e <;> rw [e]
      · rw [r1]; simp
      · rw [F1]; simp
      · rw [d1]; simp
  have nl : ¬ (l = R ∨ l = FL ∨ l = D) := fun z => by have := newX l z; rw [hl] at this; cases this
  refine ⟨_, rfl, R, dx, _, rfl, r1, rfl, _, rfl, _, rfl, ?_⟩
  refine ⟨⟨⟨R, dx, FL, D⟩, m, k⟩, fun b => b = R ∨ b = FL ∨ b = D, ((0, 0, none) : MSt), l, us, ds, cv, c, rfl, ⟨rm, .inr (.inr rfl)⟩, f01.keep (fun z => z) rfl hl, nl, al.mono fun _ _ r => r.keep f01.tup, ld, rc.keep f01.tup, f01.sm.tab _ tg, ?_⟩
  rw [codeF_prog]
  dsimp only
  generalize codeF k m ds c [] (0, 0, none) = r at q ⊢
  match r, q with
  | some (.ok (s, v)), q =>
    intro o u H2 f2 ej ho rs
    obtain ⟨rv, e2⟩ := ej
    refine ⟨_, rfl, _, rfl, R, CM, dx, _, _, rfl, e2, U.c, U.n _ (by simp), rfl, _, rfl, R, CM, dx, _, _, rfl, e2, U.c, U.n _ (by simp), rfl, by show 3 ≤ sizeLine; decide, fun a ha => ?_⟩
    have fa : Fr No H2 (upd H2 a (.tup [.ref o, .int (s.1 : Nat), .int (s.2.1 : Nat)])) := Fr.new ha
    exact q a o u _ ((f01.drop (f2.trans fa.no) newX)) upd_same (fa.tup _ _ ho) (rs.keep fa.tup)
  | some (.error (ws, s)), q =>
    intro o H2 f2 ej ho
    obtain ⟨rv, e2⟩ := ej
    refine ⟨_, rfl, _, rfl, R, CM, dx, _, _, rfl, e2, U.c, U.n _ (by simp), rfl, _, rfl, R, CM, dx, _, _, rfl, e2, U.c, U.n _ (by simp), rfl, by show 3 ≤ sizeLine; decide, fun a ha => ?_⟩
    have fa : Fr No H2 (upd H2 a (.tup [.ref o, .int (s.1 : Nat), .int (s.2.1 : Nat)])) := Fr.new ha
    exact q a o _ (f01.drop (f2.trans fa.no) newX) upd_same (fa.tup _ _ ho)
end
end My
namespace My
open PySem PySem.Spec PyProof.Rows L2 TL
/-! ### the plain run, step by step -/
theorem runF_ok {m : Wd} {k n n' : Nat} {tk : Tk} {todo todo' : List Tk} {res res' : List Vl} (h : actF m tk n todo res = .ok n' todo' res') : runF (k + 1) m n (tk :: todo) res = runF k m n' todo' res' := by
  conv => lhs; unfold runF
  rw [h]
theorem runF_err {m : Wd} {k n n' : Nat} {tk : Tk} {todo : List Tk} {res : List Vl} {ws : List Str} (h : actF m tk n todo res = .err ws n') : runF (k + 1) m n (tk :: todo) res = some (.error (ws, n')) := by
  conv => lhs; unfold runF
  rw [h]
theorem runF_nil {m : Wd} {k n : Nat} {res : List Vl} : runF (k + 1) m n [] res = some (.ok (n, res)) := by
  unfold runF
  rfl
theorem beg {t : Tr} {env : List (Int × Vl)} {m : Wd} {n : Nat} {todo : List Tk} {res : List Vl} (hm : n < m.m) : actF m ⟨.begin, t, env⟩ n todo res = partF m.gl t env (n + 1) todo res := by
  show beginF m t env n todo res = _
  unfold beginF
  rw [if_neg (Nat.not_le_of_lt hm)]
section
variable {env : List (Int × Vl)} {m : Wd} {n k : Nat} {todo : List Tk} {res : List Vl}
theorem room {a b : Nat} (ht : a < many) (hr : b < many) : ¬ (many ≤ a ∨ many ≤ b) := by omega
theorem run_int {i : Int} (hm : n < m.m) (ht : todo.length < many) (hr : res.length < many) (hi : i.natAbs ≤ 10 ^ 60) : runF (k + 1) m n (⟨.begin, .int i, env⟩ :: todo) res = runF k m (n + 1) todo (.int i :: res) := by
  refine runF_ok ((beg hm).trans ?_)
  unfold partF
  rw [if_neg (room ht hr)]
  show (if i.natAbs ≤ 10 ^ 60 then _ else _) = _
  rw [if_pos hi]
theorem run_prim {p : Str} (hm : n < m.m) (ht : todo.length < many) (hr : res.length < many) : runF (k + 1) m n (⟨.begin, .prim p, env⟩ :: todo) res = runF k m (n + 1) todo (.prim p :: res) := by
  refine runF_ok ((beg hm).trans ?_)
  unfold partF
  rw [if_neg (room ht hr)]
theorem run_fn {ns : List Int} {b : Tr} (hm : n < m.m) (ht : todo.length < many) (hr : res.length < many) : runF (k + 1) m n (⟨.begin, .fn ns b, env⟩ :: todo) res = runF k m (n + 1) todo (.fnP ns b env :: res) := by
  refine runF_ok ((beg hm).trans ?_)
  unfold partF
  rw [if_neg (room ht hr)]
theorem run_loc {x : Int} {v : Vl} (hm : n < m.m) (ht : todo.length < many) (hr : res.length < many) (hv : evGet x env = some v) : runF (k + 1) m n (⟨.begin, .loc x, env⟩ :: todo) res = runF k m (n + 1) todo (v :: res) := by
  refine runF_ok ((beg hm).trans ?_)
  unfold partF
  rw [if_neg (room ht hr)]
  dsimp only
  rw [hv]
theorem run_call {f : Tr} {ts : List Tr} (hm : n < m.m) (ht : todo.length < many) (hr : res.length < many) : runF (k + 1) m n (⟨.begin, .call f ts, env⟩ :: todo) res = runF k m (n + 1) (⟨.begin, f, env⟩ :: (bgs ts env ++ ⟨.endCall, .call f ts, env⟩ :: todo)) res := by
  refine runF_ok ((beg hm).trans ?_)
  unfold partF
  rw [if_neg (room ht hr)]
theorem run_let {ns : List Int} {ts : List Tr} {b : Tr} (hm : n < m.m) (ht : todo.length < many) (hr : res.length < many) : runF (k + 1) m n (⟨.begin, .let_ ns ts b, env⟩ :: todo) res = runF k m (n + 1) (bgs ts env ++ ⟨.endLet, .let_ ns ts b, env⟩ :: todo) res := by
  refine runF_ok ((beg hm).trans ?_)
  unfold partF
  rw [if_neg (room ht hr)]
theorem run_endLet {ns : List Int} {ts : List Tr} {b : Tr} {vs : List Vl} (hl : vs.length = ts.length) (hn : ns.length = ts.length) (he : env.length + ns.length ≤ 1000000) (ht : todo.length < many) : runF (k + 1) m n (⟨.endLet, .let_ ns ts b, env⟩ :: todo) (vs.reverse ++ res) = runF k m n (⟨.begin, b, evPuts ns vs env⟩ :: todo) res := by
  refine runF_ok ?_
  show endLetF (.let_ ns ts b) env n todo (vs.reverse ++ res) = _
  unfold endLetF
  have l0 : ts.length = vs.reverse.length := by rw [List.length_reverse, hl]
  dsimp only
  rw [if_pos ⟨by rw [List.length_append, ← l0]; omega, hn, he, ht⟩, l0, List.take_left, List.drop_left, List.reverse_reverse]
/-- a call of a primitive -/
def primR (name : Str) (vs : List Vl) (n : Nat) (todo : List Tk) (res : List Vl) : PRes := match chkF (.prim name) vs.length with
  | some ws => .err ws n
  | none => match primF name vs with
    | .ok y => .ok n todo (y :: res)
    | .error ws => .err ws n
theorem run_endCall {f : Tr} {ts : List Tr} {vs : List Vl} {name : Str} (hl : vs.length = ts.length) (h9 : ts.length ≤ 900) (ht : todo.length < many) (hr : vs.length + 1 + res.length < many) : actF m ⟨.endCall, .call f ts, env⟩ n todo (vs.reverse ++ .prim name :: res) = primR name vs n todo res := by
  show endCallF (.call f ts) n todo (vs.reverse ++ .prim name :: res) = _
  unfold endCallF
  have l0 : ts.length = vs.reverse.length := by rw [List.length_reverse, hl]
  dsimp only
  rw [l0, List.drop_left, List.take_left, List.reverse_reverse]
  dsimp only
  rw [List.length_reverse, if_pos ⟨by omega, ht, by rw [List.length_append, List.length_reverse, List.length_cons]; omega⟩]
  rfl
theorem primR_pair (x y : Vl) (n : Nat) (todo : List Tk) (res : List Vl) : primR "pair" [x, y] n todo res = .ok n todo (.pair x y :: res) := by
  unfold primR
  have e1 : chkF (.prim "pair") [x, y].length = none := by
    unfold chkF
    rw [if_pos (show (isF (Vl.prim "pair") || isR (Vl.prim "pair")) = true from rfl), if_pos (by show arP "pair" = 2; unfold arP; rw [if_neg (by decide +kernel)])]
  have e2 : primF "pair" [x, y] = .ok (.pair x y) := by
    unfold primF
    rw [if_pos (show ("pair" : Str) = "pair" from rfl)]
  rw [e1]
  dsimp only
  rw [e2]
end
end My
namespace My
open PySem PySem.Spec PyProof.Rows L2 TL
/-! ### the meaning of a tree: an evaluator with steps and depth, and the plain run by it -/
inductive Rs where
  | val (v : Vl)
  | out (ws : List Str)
abbrev Ev := List (Int × Vl)
/-- parts from left to right -/
def evL (r : Tr → Nat → Nat → Option (Rs × Nat × Nat)) : List Tr → Nat → Nat → Option ((List Vl ⊕ List Str) × Nat × Nat)
  | [], l, s => some (.inl [], l, s)
  | t :: ts, l, s => match r t l s with
    | some (.val v, l', s') => (match evL r ts l' s' with
      | some (.inl vs, z) => some (.inl (v :: vs), z)
      | some (.inr ws, z) => some (.inr ws, z)
      | none => none)
    | some (.out ws, z) => some (.inr ws, z)
    | none => none
/-- fuel, definitions, variables, tree, steps left, greatest depth so far, depth, in last place -/
def evT : Nat → Gl → Ev → Tr → Nat → Nat → Nat → Bool → Option (Rs × Nat × Nat)
  | 0, _, _, _, _, _, _, _ => none
  | f + 1, gl, env, t, left, s, d, last =>
    if left = 0 then some (.out ["steps"], 0, s) else
    match t with
    | .int i => if i.natAbs ≤ 10 ^ 60 then some (.val (.int i), left - 1, s) else none
    | .loc x => match evGet x env with
      | some v => some (.val v, left - 1, s)
      | none => none
    | .glob a b => match glGet (a, b) gl with
      | some v => some (.val v, left - 1, s)
      | none => some (.out ["error", "early"], left - 1, s)
    | .prim q => some (.val (.prim q), left - 1, s)
    | .fn ns b => some (.val (.fnP ns b env), left - 1, s)
    | .let_ ns ts b => if ts.length ≤ 60 ∧ ns.length = ts.length ∧ env.length + ns.length ≤ 1000000 then (match evL (fun t l s => evT f gl env t l s d false) ts (left - 1) s with
      | some (.inl vs, l', s') => evT f gl (evPuts ns vs env) b l' s' d last
      | some (.inr ws, z) => some (.out ws, z)
      | none => none) else none
    | .if_ a b c => match evT f gl env a (left - 1) s d false with
      | some (.val (.int i), l', s') => evT f gl env (if i = 0 then c else b) l' s' d last
      | some (.out ws, z) => some (.out ws, z)
      | _ => none
    | .call g ts => if ts.length ≤ 60 then (match evL (fun t l s => evT f gl env t l s d false) (g :: ts) (left - 1) s with
      | some (.inl (called :: vs), l', s') => (match chkF called vs.length with
        | some ws => some (.out ws, l', s')
        | none => match called with
          | .prim q => (match primF q vs with
            | .ok y => some (.val y, l', s')
            | .error ws => some (.out ws, l', s'))
          | .fnP ns b en => if en.length + ns.length ≤ 1000000 then evT f gl (evPuts ns vs en) b l' (max s' (d + if last then 0 else 1)) (d + if last then 0 else 1) true else none
          | _ => none)
      | some (.inl [], _) => none
      | some (.inr ws, z) => some (.out ws, z)
      | none => none) else none
/-- the plain run comes from here to there -/
def Goes (m : Nat) (gl : Gl) (n : Nat) (todo : List Tk) (res : List Vl) (n' : Nat) (todo' : List Tk) (res' : List Vl) : Prop := ∃ j, ∀ k, runF (k + j) ⟨m, gl⟩ n todo res = runF k ⟨m, gl⟩ n' todo' res'
def Ends (m : Nat) (gl : Gl) (n : Nat) (todo : List Tk) (res : List Vl) (n' : Nat) (ws : List Str) : Prop := ∃ j, ∀ k, runF (k + j) ⟨m, gl⟩ n todo res = some (.error (ws, n'))
section
variable {m : Nat} {gl : Gl} {n n' n1 : Nat} {todo todo' todo1 : List Tk} {res res' res1 : List Vl} {ws : List Str} {tk : Tk}
theorem Goes.refl : Goes m gl n todo res n todo res := ⟨0, fun _ => rfl⟩
theorem Goes.trans (a : Goes m gl n todo res n1 todo1 res1) (b : Goes m gl n1 todo1 res1 n' todo' res') : Goes m gl n todo res n' todo' res' := by
  obtain ⟨i, a⟩ := a
  obtain ⟨j, b⟩ := b
  exact ⟨j + i, fun k => by rw [← Nat.add_assoc, a, b]⟩
theorem Goes.ends (a : Goes m gl n todo res n1 todo1 res1) (b : Ends m gl n1 todo1 res1 n' ws) : Ends m gl n todo res n' ws := by
  obtain ⟨i, a⟩ := a
  obtain ⟨j, b⟩ := b
  exact ⟨j + i, fun k => by rw [← Nat.add_assoc, a, b]⟩
theorem Goes.one (h : actF ⟨m, gl⟩ tk n todo res = .ok n' todo' res') : Goes m gl n (tk :: todo) res n' todo' res' := ⟨1, fun k => runF_ok h⟩
theorem Ends.one (h : actF ⟨m, gl⟩ tk n todo res = .err ws n') : Ends m gl n (tk :: todo) res n' ws := ⟨1, fun k => runF_err h⟩
end
/-- a call by its values -/
def callR (n : Nat) (todo : List Tk) (res : List Vl) (called : Vl) (vs : List Vl) : PRes := match chkF called vs.length with
  | some ws => .err ws n
  | none => match called with
    | .prim q => (match primF q vs with
      | .ok y => .ok n todo (y :: res)
      | .error ws => .err ws n)
    | .fnP ns b en => if en.length + ns.length ≤ 1000000 then .ok n (⟨.begin, b, evPuts ns vs en⟩ :: todo) res else .stuck
    | _ => .stuck
/-- what the plain run does with a part whose meaning is r -/
def PlOk (m : Nat) (gl : Gl) (n : Nat) (start todo : List Tk) (res : List Vl) (l' : Nat) : Rs → Prop
  | .val v => Goes m gl n start res (m - l') todo (v :: res)
  | .out ws => Ends m gl n start res (m - l') ws
def PlsOk (m : Nat) (gl : Gl) (n k : Nat) (start todo : List Tk) (res : List Vl) (l' : Nat) : List Vl ⊕ List Str → Prop
  | .inl vs => vs.length = k ∧ Goes m gl n start res (m - l') todo (vs.reverse ++ res)
  | .inr ws => Ends m gl n start res (m - l') ws
def PlGo (f : Nat) : Prop := ∀ (gl : Gl) (env : Ev) (t : Tr) (l s d : Nat) (last : Bool) (r : Rs) (l' s' m : Nat) (todo : List Tk) (res : List Vl), evT f gl env t l s d last = some (r, l', s') → l ≤ m → todo.length + 64 * f < many → res.length + 64 * f < many →
  l' ≤ l ∧ PlOk m gl (m - l) (⟨.begin, t, env⟩ :: todo) todo res l' r
theorem plain_list {f : Nat} (IH : PlGo f) (gl : Gl) (env : Ev) (d m : Nat) : ∀ (ts : List Tr) (l s : Nat) (r : List Vl ⊕ List Str) (l' s' : Nat) (todo : List Tk) (res : List Vl), evL (fun t l s => evT f gl env t l s d false) ts l s = some (r, l', s') → l ≤ m → todo.length + ts.length + 64 * f < many → res.length + ts.length + 64 * f < many →
    l' ≤ l ∧ PlsOk m gl (m - l) ts.length (bgs ts env ++ todo) todo res l' r
  | [], l, s, r, l', s', todo, res, h, hl, _, _ => by
    cases h
    exact ⟨Nat.le_refl _, rfl, Goes.refl⟩
  | t :: ts, l, s, r, l', s', todo, res, h, hl, ht, hr => by
    unfold evL at h
    simp only [List.length_cons] at ht hr
    have lb : (bgs ts env ++ todo).length = ts.length + todo.length := by simp [bgs]
    cases h1 : evT f gl env t l s d false with
    | none => rw [h1] at h; cases h
    | some q =>
    obtain ⟨r1, l1, s1⟩ := q
    rw [h1] at h
    obtain ⟨a1, a2⟩ := IH gl env t l s d false r1 l1 s1 m (bgs ts env ++ todo) res h1 hl (by omega) (by omega)
    cases r1 with
    | out ws =>
      cases h
      exact ⟨a1, a2⟩
    | val v =>
    dsimp only at h
    have a2 : Goes m gl (m - l) (⟨.begin, t, env⟩ :: (bgs ts env ++ todo)) res (m - l1) (bgs ts env ++ todo) (v :: res) := a2
    cases h2 : evL (fun t l s => evT f gl env t l s d false) ts l1 s1 with
    | none => rw [h2] at h; cases h
    | some q =>
    obtain ⟨r2, l2, s2⟩ := q
    rw [h2] at h
    obtain ⟨b1, b2⟩ := plain_list IH gl env d m ts l1 s1 r2 l2 s2 todo (v :: res) h2 (by omega) (by omega) (by simp only [List.length_cons]; omega)
    cases r2 with
    | inr ws =>
      cases h
      exact ⟨by omega, a2.ends b2⟩
    | inl vs =>
      cases h
      obtain ⟨c1, c2⟩ := b2
      refine ⟨by omega, by rw [List.length_cons, c1]; rfl, ?_⟩
      rw [List.reverse_cons, List.append_assoc]
      exact a2.trans c2
theorem plain_sim : ∀ f, PlGo f
  | 0 => fun gl env t l s d last r l' s' m todo res h => by cases h
  | f + 1 => fun gl env t l s d last r l' s' m todo res h hl ht hr => by
    have IH := plain_sim f
    unfold evT at h
    by_cases l0 : l = 0
    · rw [if_pos l0] at h
      cases h
      refine ⟨Nat.zero_le _, Ends.one ?_⟩
      show beginF ⟨m, gl⟩ t env (m - l) todo res = _
      unfold beginF
      subst l0
      exact if_pos (show m ≤ m - 0 by omega)
    rw [if_neg l0] at h
    have hm : m - l < m := by omega
    have e1 : m - l + 1 = m - (l - 1) := by omega
    have rm : ¬ (many ≤ todo.length ∨ many ≤ res.length) := by omega
    have bg : ∀ {x : PRes}, partF gl t env (m - l + 1) todo res = x → actF ⟨m, gl⟩ ⟨.begin, t, env⟩ (m - l) todo res = x := fun e => (beg hm).trans e
    rw [e1] at bg
    cases t with
    | int i =>
      dsimp only at h
      by_cases hi : i.natAbs ≤ 10 ^ 60
      case neg => rw [if_neg hi] at h; cases h
      rw [if_pos hi] at h
      cases h
      refine ⟨by omega, Goes.one (bg ?_)⟩
      unfold partF
      rw [if_neg rm]
      dsimp only
      rw [if_pos hi]
    | loc x =>
      dsimp only at h
      cases hv : evGet x env with
      | none => rw [hv] at h; cases h
      | some v =>
      rw [hv] at h
      cases h
      refine ⟨by omega, Goes.one (bg ?_)⟩
      unfold partF
      rw [if_neg rm]
      dsimp only
      rw [hv]
    | glob a b =>
      dsimp only at h
      cases hv : glGet (a, b) gl with
      | none =>
        rw [hv] at h
        cases h
        refine ⟨by omega, Ends.one (bg ?_)⟩
        unfold partF
        rw [if_neg rm]
        dsimp only
        rw [hv]
      | some v =>
      rw [hv] at h
      cases h
      refine ⟨by omega, Goes.one (bg ?_)⟩
      unfold partF
      rw [if_neg rm]
      dsimp only
      rw [hv]
    | prim q =>
      cases h
      refine ⟨by omega, Goes.one (bg ?_)⟩
      unfold partF
      rw [if_neg rm]
    | fn ns b =>
      cases h
      refine ⟨by omega, Goes.one (bg ?_)⟩
      unfold partF
      rw [if_neg rm]
    | let_ ns ts b =>
      dsimp only at h
      by_cases lim : ts.length ≤ 60 ∧ ns.length = ts.length ∧ env.length + ns.length ≤ 1000000
      case neg => rw [if_neg lim] at h; cases h
      rw [if_pos lim] at h
      have g1 : Goes m gl (m - l) (⟨.begin, .let_ ns ts b, env⟩ :: todo) res (m - (l - 1)) (bgs ts env ++ ⟨.endLet, .let_ ns ts b, env⟩ :: todo) res := Goes.one (bg (by
        unfold partF
        rw [if_neg rm]))
      cases h2 : evL (fun t l s => evT f gl env t l s d false) ts (l - 1) s with
      | none => rw [h2] at h; cases h
      | some q =>
      obtain ⟨r2, l2, s2⟩ := q
      rw [h2] at h
      obtain ⟨b1, b2⟩ := plain_list IH gl env d m ts (l - 1) s r2 l2 s2 (⟨.endLet, .let_ ns ts b, env⟩ :: todo) res h2 (by omega) (by simp only [List.length_cons]; omega) (by omega)
      cases r2 with
      | inr ws =>
        cases h
        exact ⟨by omega, g1.ends b2⟩
      | inl vs =>
      dsimp only at h
      obtain ⟨c1, c2⟩ := b2
      have g2 : Goes m gl (m - l2) (⟨.endLet, .let_ ns ts b, env⟩ :: todo) (vs.reverse ++ res) (m - l2) (⟨.begin, b, evPuts ns vs env⟩ :: todo) res := ⟨1, fun k => run_endLet c1 lim.2.1 lim.2.2 (by omega)⟩
      obtain ⟨d1, d2⟩ := IH gl _ b l2 s2 d last r l' s' m todo res h (by omega) (by omega) (by omega)
      refine ⟨by omega, ?_⟩
      cases r with
      | val v => exact (g1.trans (c2.trans g2)).trans d2
      | out ws => exact (g1.trans (c2.trans g2)).ends d2
    | if_ a b c =>
      dsimp only at h
      have g1 : Goes m gl (m - l) (⟨.begin, .if_ a b c, env⟩ :: todo) res (m - (l - 1)) (⟨.begin, a, env⟩ :: ⟨.endIf, .if_ a b c, env⟩ :: todo) res := Goes.one (bg (by
        unfold partF
        rw [if_neg rm]))
      cases h2 : evT f gl env a (l - 1) s d false with
      | none => rw [h2] at h; cases h
      | some q =>
      obtain ⟨r2, l2, s2⟩ := q
      rw [h2] at h
      obtain ⟨b1, b2⟩ := IH gl env a (l - 1) s d false r2 l2 s2 m (⟨.endIf, .if_ a b c, env⟩ :: todo) res h2 (by omega) (by simp only [List.length_cons]; omega) (by omega)
      cases r2 with
      | out ws =>
        cases h
        exact ⟨by omega, g1.ends b2⟩
      | val v =>
      cases v with
      | int i =>
        dsimp only at h
        have b2 : Goes m gl (m - (l - 1)) (⟨.begin, a, env⟩ :: ⟨.endIf, .if_ a b c, env⟩ :: todo) res (m - l2) (⟨.endIf, .if_ a b c, env⟩ :: todo) (.int i :: res) := b2
        have g2 : Goes m gl (m - l2) (⟨.endIf, .if_ a b c, env⟩ :: todo) (.int i :: res) (m - l2) (⟨.begin, if i = 0 then c else b, env⟩ :: todo) res := Goes.one (by
          show endIfF (.if_ a b c) env (m - l2) todo (.int i :: res) = _
          unfold endIfF
          dsimp only
          rw [if_pos (show todo.length < many by omega)])
        obtain ⟨d1, d2⟩ := IH gl env _ l2 s2 d last r l' s' m todo res h (by omega) (by omega) (by omega)
        refine ⟨by omega, ?_⟩
        cases r with
        | val v => exact (g1.trans (b2.trans g2)).trans d2
        | out ws => exact (g1.trans (b2.trans g2)).ends d2
      | _ => cases h
    | call g ts =>
      dsimp only at h
      by_cases lim : ts.length ≤ 60
      case neg => rw [if_neg lim] at h; cases h
      rw [if_pos lim] at h
      have g1 : Goes m gl (m - l) (⟨.begin, .call g ts, env⟩ :: todo) res (m - (l - 1)) (bgs (g :: ts) env ++ ⟨.endCall, .call g ts, env⟩ :: todo) res := Goes.one (bg (by
        unfold partF
        rw [if_neg rm]
        rfl))
      cases h2 : evL (fun t l s => evT f gl env t l s d false) (g :: ts) (l - 1) s with
      | none => rw [h2] at h; cases h
      | some q =>
      obtain ⟨r2, l2, s2⟩ := q
      rw [h2] at h
      obtain ⟨b1, b2⟩ := plain_list IH gl env d m (g :: ts) (l - 1) s r2 l2 s2 (⟨.endCall, .call g ts, env⟩ :: todo) res h2 (by omega) (by simp only [List.length_cons]; omega) (by simp only [List.length_cons]; omega)
      cases r2 with
      | inr ws =>
        cases h
        exact ⟨by omega, g1.ends b2⟩
      | inl vs =>
      obtain ⟨c1, c2⟩ := b2
      cases vs with
      | nil => cases h
      | cons called vs =>
      dsimp only at h
      have lv : vs.length = ts.length := by simpa using c1
      have c2 : Goes m gl (m - (l - 1)) (bgs (g :: ts) env ++ ⟨.endCall, .call g ts, env⟩ :: todo) res (m - l2) (⟨.endCall, .call g ts, env⟩ :: todo) (vs.reverse ++ called :: res) := by
        rw [List.reverse_cons, List.append_assoc] at c2
        exact c2
      have g12 := g1.trans c2
      have ec : ∀ {x : PRes}, callR (m - l2) todo res called vs = x → actF ⟨m, gl⟩ ⟨.endCall, .call g ts, env⟩ (m - l2) todo (vs.reverse ++ called :: res) = x := fun {x} e => by
        show endCallF (.call g ts) (m - l2) todo (vs.reverse ++ called :: res) = x
        unfold endCallF
        have l0 : ts.length = vs.reverse.length := by rw [List.length_reverse, lv]
        dsimp only
        rw [l0, List.drop_left, List.take_left, List.reverse_reverse]
        dsimp only
        rw [List.length_reverse, if_pos ⟨by omega, by omega, by rw [List.length_append, List.length_reverse, List.length_cons]; omega⟩]
        exact e
      cases hc : chkF called vs.length with
      | some ws =>
        rw [hc] at h
        cases h
        exact ⟨by omega, g12.ends (Ends.one (ec (by unfold callR; rw [hc])))⟩
      | none =>
      rw [hc] at h
      dsimp only at h
      cases called with
      | prim q =>
        dsimp only at h
        cases hp : primF q vs with
        | ok y =>
          rw [hp] at h
          cases h
          exact ⟨by omega, g12.trans (Goes.one (ec (by unfold callR; rw [hc]; dsimp only; rw [hp])))⟩
        | error ws =>
          rw [hp] at h
          cases h
          exact ⟨by omega, g12.ends (Ends.one (ec (by unfold callR; rw [hc]; dsimp only; rw [hp])))⟩
      | fnP ns b en =>
        dsimp only at h
        by_cases le : en.length + ns.length ≤ 1000000
        case neg => rw [if_neg le] at h; cases h
        rw [if_pos le] at h
        have g3 := g12.trans (Goes.one (ec (by unfold callR; rw [hc]; dsimp only; rw [if_pos le])))
        obtain ⟨d1, d2⟩ := IH gl _ b l2 _ _ true r l' s' m todo res h (by omega) (by omega) (by omega)
        refine ⟨by omega, ?_⟩
        cases r with
        | val v => exact g3.trans d2
        | out ws => exact g3.ends d2
      | _ => cases h
end My
namespace My
open PySem PySem.Spec PyProof.Rows L2 TL
/-! ### how a tree lies in a code, and when a value of the machine is one of the plain run -/
theorem evGet_put (n x : Int) (y : Vl) : ∀ (env : Ev), evGet x (evPut n y env) = if n = x then some y else evGet x env := by
  have hmap : ∀ (env : Ev), evHas n env = true → evGet x (env.map fun p => if p.1 = n then (p.1, y) else p) = if n = x then some y else evGet x env := by
    intro env
    induction env with
    | nil => intro h; cases h
    | cons p r ih =>
      obtain ⟨m, z⟩ := p
      intro h
      by_cases hr : evHas n r = true
      · have ih := ih hr
        by_cases c : m = n
        · subst c
          by_cases d : m = x
          · subst d
            simp [evGet]
          · rw [if_neg d] at ih ⊢
            simp only [List.map_cons, if_true, evGet, if_neg d]
            exact ih
        · simp only [List.map_cons, if_neg c, evGet]
          by_cases d : m = x
          · subst d
            rw [if_pos rfl, if_neg (Ne.symm c), if_pos rfl]
          · rw [if_neg d, ih]
            by_cases e : n = x
            · rw [if_pos e, if_pos e]
            · rw [if_neg e, if_neg e, if_neg d]
      · have hm : m = n := by
          have h' : (decide (m = n) || evHas n r) = true := h
          rw [Bool.eq_false_iff.mpr hr, Bool.or_false] at h'
          exact of_decide_eq_true h'
        subst hm
        have same : r.map (fun p => if p.1 = m then (p.1, y) else p) = r := by
          refine (List.map_congr_left fun p hp => ?_).trans (List.map_id r)
          rw [if_neg]
          · rfl
          · intro e
            exact hr (List.any_eq_true.mpr ⟨p, hp, decide_eq_true e⟩)
        simp only [List.map_cons, if_true, evGet, same]
        by_cases d : m = x
        · rw [if_pos d, if_pos d]
        · rw [if_neg d, if_neg d, if_neg d]
  have happ : ∀ (env : Ev), evHas n env = false → evGet x (env ++ [(n, y)]) = if n = x then some y else evGet x env := by
    intro env
    induction env with
    | nil =>
      intro _
      simp [evGet]
    | cons p r ih =>
      obtain ⟨m, z⟩ := p
      intro h
      have h' : (decide (m = n) || evHas n r) = false := h
      obtain ⟨h1, h2⟩ := Bool.or_eq_false_iff.mp h'
      have h1 := of_decide_eq_false h1
      simp only [List.cons_append, evGet]
      by_cases d : m = x
      · subst d
        rw [if_pos rfl, if_neg (Ne.symm h1), if_pos rfl]
      · rw [if_neg d, ih h2]
        by_cases e : n = x
        · rw [if_pos e, if_pos e]
        · rw [if_neg e, if_neg e, if_neg d]
  intro env
  unfold evPut
  by_cases c : evHas n env = true
  · rw [if_pos c]; exact hmap env c
  · rw [if_neg c]; exact happ env (Bool.eq_false_iff.mpr c)
theorem scGet_put (n x : Int) (y : Src) : ∀ (sc : Sc), scGet x (scPut n y sc) = if n = x then some y else scGet x sc := by
  have hmap : ∀ (sc : Sc), scHas n sc = true → scGet x (sc.map fun p => if p.1 = n then (p.1, y) else p) = if n = x then some y else scGet x sc := by
    intro sc
    induction sc with
    | nil => intro h; cases h
    | cons p r ih =>
      obtain ⟨m, z⟩ := p
      intro h
      by_cases hr : scHas n r = true
      · have ih := ih hr
        by_cases c : m = n
        · subst c
          by_cases d : m = x
          · subst d
            simp [scGet]
          · rw [if_neg d] at ih ⊢
            simp only [List.map_cons, if_true, scGet, if_neg d]
            exact ih
        · simp only [List.map_cons, if_neg c, scGet]
          by_cases d : m = x
          · subst d
            rw [if_pos rfl, if_neg (Ne.symm c), if_pos rfl]
          · rw [if_neg d, ih]
            by_cases e : n = x
            · rw [if_pos e, if_pos e]
            · rw [if_neg e, if_neg e, if_neg d]
      · have hm : m = n := by
          have h' : (decide (m = n) || scHas n r) = true := h
          rw [Bool.eq_false_iff.mpr hr, Bool.or_false] at h'
          exact of_decide_eq_true h'
        subst hm
        have same : r.map (fun p => if p.1 = m then (p.1, y) else p) = r := by
          refine (List.map_congr_left fun p hp => ?_).trans (List.map_id r)
          rw [if_neg]
          · rfl
          · intro e
            exact hr (List.any_eq_true.mpr ⟨p, hp, decide_eq_true e⟩)
        simp only [List.map_cons, if_true, scGet, same]
        by_cases d : m = x
        · rw [if_pos d, if_pos d]
        · rw [if_neg d, if_neg d, if_neg d]
  have happ : ∀ (sc : Sc), scHas n sc = false → scGet x (sc ++ [(n, y)]) = if n = x then some y else scGet x sc := by
    intro sc
    induction sc with
    | nil =>
      intro _
      simp [scGet]
    | cons p r ih =>
      obtain ⟨m, z⟩ := p
      intro h
      have h' : (decide (m = n) || scHas n r) = false := h
      obtain ⟨h1, h2⟩ := Bool.or_eq_false_iff.mp h'
      have h1 := of_decide_eq_false h1
      simp only [List.cons_append, scGet]
      by_cases d : m = x
      · subst d
        rw [if_pos rfl, if_neg (Ne.symm h1), if_pos rfl]
      · rw [if_neg d, ih h2]
        by_cases e : n = x
        · rw [if_pos e, if_pos e]
        · rw [if_neg e, if_neg e, if_neg d]
  intro sc
  unfold scPut
  by_cases c : scHas n sc = true
  · rw [if_pos c]; exact hmap sc c
  · rw [if_neg c]; exact happ sc (Bool.eq_false_iff.mpr c)
/-- one instruction, and the end behind it in last place -/
def Leaf (is : List Ins) (i : Ins) (last : Bool) (a b : Nat) : Prop := is[a]? = some i ∧ if last = true then is[a + 1]? = some .end_ ∧ b = a + 2 else b = a + 1
mutual
/-- the tree lies in the code from a to b; its variables by the scope; its lets take the places from lo to hi, np are there -/
def Lay : Nat → List Ins → Tr → Sc → Bool → Nat → Nat → Nat → Nat → Prop
  | np, is, .int i, sc, last, a, lo, b, hi => Leaf is (.int i) last a b ∧ hi = lo
  | np, is, .loc x, sc, last, a, lo, b, hi => ∃ s, scGet x sc = some s ∧ Leaf is (.src s) last a b ∧ hi = lo
  | np, is, .glob m x, sc, last, a, lo, b, hi => Leaf is (.glob m x) last a b ∧ hi = lo
  | np, is, .prim p, sc, last, a, lo, b, hi => Leaf is (.prim p) last a b ∧ hi = lo
  | np, is, .fn ns bd, sc, last, a, lo, b, hi => ∃ l js ss b' hi', Leaf is (.fn (.mk ns.length l js) ss) last a b ∧ hi = lo ∧ ssOf sc (outT (.fn ns bd)) = some ss ∧ ss.length ≤ many ∧ l ≤ many ∧ Lay l js bd (fnSc (.fn ns bd)) true 0 ns.length b' hi'
  | np, is, .let_ ns ts bd, sc, last, a, lo, b, hi => ∃ a1 lo1, lo + ns.length ≤ np ∧ LayLet np is ts sc lo a (lo + ns.length) a1 lo1 ∧ Lay np is bd (letSc lo ns sc) last a1 lo1 b hi
  | np, is, .if_ c t e, sc, last, a, lo, b, hi => ∃ a1 lo1 a2 lo2, Lay np is c sc false a lo a1 lo1 ∧
      if last = true then is[a1]? = some (.unless a2) ∧ Lay np is t sc true (a1 + 1) lo1 a2 lo2 ∧ Lay np is e sc true a2 lo2 b hi
      else is[a1]? = some (.unless (a2 + 1)) ∧ Lay np is t sc false (a1 + 1) lo1 a2 lo2 ∧ is[a2]? = some (.jump b) ∧ Lay np is e sc false (a2 + 1) lo2 b hi
  | np, is, .call g ts, sc, last, a, lo, b, hi => ∃ a0 lo0 a1, Lay np is g sc false a lo a0 lo0 ∧ LayL np is ts sc a0 lo0 a1 hi ∧ is[a1]? = some (if last = true then .tail ts.length else .call ts.length) ∧ b = a1 + 1
def LayL : Nat → List Ins → List Tr → Sc → Nat → Nat → Nat → Nat → Prop
  | np, is, [], sc, a, lo, b, hi => b = a ∧ hi = lo
  | np, is, t :: ts, sc, a, lo, b, hi => ∃ a1 lo1, Lay np is t sc false a lo a1 lo1 ∧ LayL np is ts sc a1 lo1 b hi
def LayLet : Nat → List Ins → List Tr → Sc → Nat → Nat → Nat → Nat → Nat → Prop
  | np, is, [], sc, f, a, lo, b, hi => b = a ∧ hi = lo
  | np, is, t :: ts, sc, f, a, lo, b, hi => ∃ a1 lo1, Lay np is t sc false a lo a1 lo1 ∧ is[a1]? = some (.put f) ∧ LayLet np is ts sc (f + 1) (a1 + 1) lo1 b hi
end
/-- values of the plain run and of the machine -/
inductive VR : Vl → Vl → Prop
  | int (i : Int) : VR (.int i) (.int i)
  | prim (p : Str) : VR (.prim p) (.prim p)
  | pair {a b a' b' : Vl} (h : VR a a') (h' : VR b b') : VR (.pair a b) (.pair a' b')
  | fn {ns : List Int} {bd : Tr} {env : Ev} {l : Nat} {js : List Ins} {b' hi' : Nat} {ks : List Vl} (ll : l ≤ many) (lay : Lay l js bd (fnSc (.fn ns bd)) true 0 ns.length b' hi')
      (hl : ks.length = (outT (.fn ns bd)).length) (ex : ∀ x : Int, x ∈ outT (.fn ns bd) → ∃ v, evGet x env = some v)
      (hk : ∀ (i : Nat) (x : Int) (v v' : Vl), (outT (.fn ns bd))[i]? = some x → evGet x env = some v → ks[i]? = some v' → VR v v') : VR (.fnP ns bd env) (.fnM (.mk ns.length l js) ks)
inductive VRs : List Vl → List Vl → Prop
  | nil : VRs [] []
  | cons {v v' : Vl} {vs vs' : List Vl} (h : VR v v') (hs : VRs vs vs') : VRs (v :: vs) (v' :: vs')
theorem VRs.len : ∀ {vs vs' : List Vl}, VRs vs vs' → vs.length = vs'.length
  | _, _, .nil => rfl
  | _, _, .cons _ h => congrArg (· + 1) (VRs.len h)
def rdv (pl ks : List Vl) : Src → Option Vl
  | .place n => pl[n]?
  | .kept n => ks[n]?
/-- the scope's sources give the variables; their places are below lo -/
def ScR (sc : Sc) (env : Ev) (pl ks : List Vl) (lo : Nat) : Prop := ∀ x s, scGet x sc = some s → (∃ v v', evGet x env = some v ∧ rdv pl ks s = some v' ∧ VR v v') ∧ ∀ p, s = .place p → p < lo
theorem ScR.mono {sc : Sc} {env : Ev} {pl pl' ks : List Vl} {lo lo' : Nat} (h : ScR sc env pl ks lo) (hl : lo ≤ lo') (hp : ∀ p, p < lo → pl'[p]? = pl[p]?) : ScR sc env pl' ks lo' := fun x s e => by
  obtain ⟨⟨v, v', h1, h2, h3⟩, h4⟩ := h x s e
  refine ⟨⟨v, v', h1, ?_, h3⟩, fun p q => Nat.lt_of_lt_of_le (h4 p q) hl⟩
  cases s with
  | place p => exact (hp p (h4 p rfl)).trans h2
  | kept p => exact h2
theorem ScR.put {sc : Sc} {env : Ev} {pl ks : List Vl} {lo p : Nat} {n : Int} {v v' : Vl} (h : ScR sc env pl ks lo) (hp : pl[p]? = some v') (hv : VR v v') (hl : p < lo) : ScR (scPut n (.place p) sc) (evPut n v env) pl ks lo := fun x s e => by
  rw [scGet_put] at e
  rw [evGet_put]
  by_cases c : n = x
  · rw [if_pos c] at e ⊢
    cases e
    exact ⟨⟨v, v', rfl, hp, hv⟩, fun q z => by cases z; exact hl⟩
  · rw [if_neg c] at e ⊢
    exact h x s e
theorem ScR.puts {pl ks : List Vl} {lo : Nat} : ∀ {ns : List Int} {vs vs' : List Vl} {sc : Sc} {env : Ev} {f : Nat}, ScR sc env pl ks lo → VRs vs vs' → ns.length = vs.length → (∀ i v', vs'[i]? = some v' → pl[f + i]? = some v') → f + ns.length ≤ lo → ScR (letSc f ns sc) (evPuts ns vs env) pl ks lo
  | [], vs, vs', sc, env, f, h, hv, hn, hp, hl => by
    cases vs with
    | nil => exact h
    | cons v vs => cases hn
  | n :: ns, vs, vs', sc, env, f, h, hv, hn, hp, hl => by
    cases hv with
    | nil => cases hn
    | cons h1 hs =>
      have hl' : f + (ns.length + 1) ≤ lo := hl
      exact ScR.puts (ns := ns) (f := f + 1) (sc := scPut n (.place f) sc) (env := evPut n _ env) (h.put (n := n) (p := f) (hp 0 _ rfl) h1 (by omega)) hs (by simpa using hn) (fun i v' e => by rw [show f + 1 + i = f + (i + 1) by omega]; exact hp (i + 1) v' e) (by omega)
/-- the scope that a function begins with, before its parameters -/
theorem kpSc_get {x : Int} {s : Src} : ∀ {ns : List Int} {i : Nat} {sc : Sc}, scGet x (kpSc i ns sc) = some s → scGet x sc = some s ∨ ∃ j, s = .kept (i + j) ∧ ns[j]? = some x
  | [], i, sc, h => .inl h
  | n :: ns, i, sc, h => by
    rcases kpSc_get (ns := ns) (i := i + 1) (sc := scPut n (.kept i) sc) h with h | ⟨j, h1, h2⟩
    · rw [scGet_put] at h
      by_cases c : n = x
      · rw [if_pos c] at h
        cases h
        exact .inr ⟨0, rfl, by rw [c]; rfl⟩
      · rw [if_neg c] at h
        exact .inl h
    · exact .inr ⟨j + 1, by rw [h1, show i + 1 + j = i + (j + 1) by omega], h2⟩
/-- steps never come back, and the greatest depth never falls -/
theorem evL_le {r : Tr → Nat → Nat → Option (Rs × Nat × Nat)} (h : ∀ t l s x l' s', r t l s = some (x, l', s') → l' ≤ l ∧ s ≤ s') : ∀ (ts : List Tr) (l s : Nat) (x : List Vl ⊕ List Str) (l' s' : Nat), evL r ts l s = some (x, l', s') → l' ≤ l ∧ s ≤ s'
  | [], l, s, x, l', s', e => by cases e; exact ⟨Nat.le_refl _, Nat.le_refl _⟩
  | t :: ts, l, s, x, l', s', e => by
    unfold evL at e
    cases h1 : r t l s with
    | none => rw [h1] at e; cases e
    | some q =>
    obtain ⟨r1, l1, s1⟩ := q
    obtain ⟨a1, a2⟩ := h _ _ _ _ _ _ h1
    rw [h1] at e
    cases r1 with
    | out ws => cases e; exact ⟨a1, a2⟩
    | val v =>
    dsimp only at e
    cases h2 : evL r ts l1 s1 with
    | none => rw [h2] at e; cases e
    | some q =>
    obtain ⟨r2, l2, s2⟩ := q
    obtain ⟨b1, b2⟩ := evL_le h ts l1 s1 _ _ _ h2
    rw [h2] at e
    cases r2 with
    | inl vs => cases e; omega
    | inr ws => cases e; omega
theorem evT_le : ∀ (f : Nat) (gl : Gl) (env : Ev) (t : Tr) (l s d : Nat) (last : Bool) (r : Rs) (l' s' : Nat), evT f gl env t l s d last = some (r, l', s') → l' ≤ l ∧ s ≤ s'
  | 0, gl, env, t, l, s, d, last, r, l', s', h => by cases h
  | f + 1, gl, env, t, l, s, d, last, r, l', s', h => by
    have IH := evT_le f
    have IL := fun (env : Ev) => evL_le (r := fun t l s => evT f gl env t l s d false) (fun t l s x l' s' e => IH gl env t l s d false x l' s' e)
    unfold evT at h
    by_cases l0 : l = 0
    · rw [if_pos l0] at h; cases h; omega
    rw [if_neg l0] at h
    cases t with
    | int i =>
      dsimp only at h
      by_cases hi : i.natAbs ≤ 10 ^ 60
      case neg => rw [if_neg hi] at h; cases h
      rw [if_pos hi] at h; cases h; omega
    | loc x =>
      dsimp only at h
      cases hv : evGet x env with
      | none => rw [hv] at h; cases h
      | some v => rw [hv] at h; cases h; omega
    | glob a b =>
      dsimp only at h
      cases hv : glGet (a, b) gl with
      | none => rw [hv] at h; cases h; omega
      | some v => rw [hv] at h; cases h; omega
    | prim q => cases h; omega
    | fn ns b => cases h; omega
    | let_ ns ts b =>
      dsimp only at h
      by_cases lim : ts.length ≤ 60 ∧ ns.length = ts.length ∧ env.length + ns.length ≤ 1000000
      case neg => rw [if_neg lim] at h; cases h
      rw [if_pos lim] at h
      cases h2 : evL (fun t l s => evT f gl env t l s d false) ts (l - 1) s with
      | none => rw [h2] at h; cases h
      | some q =>
      obtain ⟨r2, l2, s2⟩ := q
      have b := IL env ts _ _ _ _ _ h2
      rw [h2] at h
      cases r2 with
      | inr ws => cases h; omega
      | inl vs =>
        have c := IH _ _ _ _ _ _ _ _ _ _ h
        omega
    | if_ a b c =>
      dsimp only at h
      cases h2 : evT f gl env a (l - 1) s d false with
      | none => rw [h2] at h; cases h
      | some q =>
      obtain ⟨r2, l2, s2⟩ := q
      have e1 := IH _ _ _ _ _ _ _ _ _ _ h2
      rw [h2] at h
      cases r2 with
      | out ws => cases h; omega
      | val v =>
        cases v with
        | int i =>
          have e2 := IH _ _ _ _ _ _ _ _ _ _ h
          omega
        | _ => cases h
    | call g ts =>
      dsimp only at h
      by_cases lim : ts.length ≤ 60
      case neg => rw [if_neg lim] at h; cases h
      rw [if_pos lim] at h
      cases h2 : evL (fun t l s => evT f gl env t l s d false) (g :: ts) (l - 1) s with
      | none => rw [h2] at h; cases h
      | some q =>
      obtain ⟨r2, l2, s2⟩ := q
      have b := IL env (g :: ts) _ _ _ _ _ h2
      rw [h2] at h
      cases r2 with
      | inr ws => cases h; omega
      | inl vs =>
      cases vs with
      | nil => cases h
      | cons called vs =>
      dsimp only at h
      cases hc : chkF called vs.length with
      | some ws => rw [hc] at h; cases h; omega
      | none =>
      rw [hc] at h
      dsimp only at h
      cases called with
      | prim q =>
        dsimp only at h
        cases hp : primF q vs with
        | ok y => rw [hp] at h; cases h; omega
        | error ws => rw [hp] at h; cases h; omega
      | fnP ns b en =>
        dsimp only at h
        by_cases le : en.length + ns.length ≤ 1000000
        case neg => rw [if_neg le] at h; cases h
        rw [if_pos le] at h
        have c := IH _ _ _ _ _ _ _ _ _ _ h
        omega
      | _ => cases h
end My
namespace My
open PySem PySem.Spec PyProof.Rows L2 TL
/-! ### the machine, step by step -/
theorem runM_step {m : Wd} {k n mf : Nat} {is : List Ins} {a : Nat} {pl st ks : List Vl} {fs : List FS} {res : Option Vl} {i : Ins} {s' : MS} (hm : n < m.m) (hi : is[a]? = some i) (h : actM m.gl i ⟨n + 1, mf, ⟨is, a + 1, pl, st, ks⟩ :: fs, res⟩ = .ok s') : runM (k + 1) m ⟨n, mf, ⟨is, a, pl, st, ks⟩ :: fs, res⟩ = runM k m s' := by
  conv => lhs; unfold runM
  dsimp only
  unfold stepM
  dsimp only
  rw [if_neg (Nat.not_le_of_lt hm), hi]
  dsimp only
  rw [h]
theorem runM_err {m : Wd} {k n mf n' mf' : Nat} {is : List Ins} {a : Nat} {pl st ks : List Vl} {fs : List FS} {res : Option Vl} {i : Ins} {ws : List Str} (hm : n < m.m) (hi : is[a]? = some i) (h : actM m.gl i ⟨n + 1, mf, ⟨is, a + 1, pl, st, ks⟩ :: fs, res⟩ = .err ws n' mf') : runM (k + 1) m ⟨n, mf, ⟨is, a, pl, st, ks⟩ :: fs, res⟩ = some (.error (ws, n', mf')) := by
  conv => lhs; unfold runM
  dsimp only
  unfold stepM
  dsimp only
  rw [if_neg (Nat.not_le_of_lt hm), hi]
  dsimp only
  rw [h]
theorem gate_pos {α : Type} {c : Prop} [Decidable c] {x : α} (h : c) : gate c x = some x := by
  unfold gate
  rw [if_pos h]
/-- from a on there stand these instructions -/
def Has (is : List Ins) (a : Nat) (bl : List Ins) : Prop := ∀ j i, bl[j]? = some i → is[a + j]? = some i
theorem Has.self (is : List Ins) : Has is 0 is := fun j i h => by rw [Nat.zero_add]; exact h
theorem Has.app {is b1 b2 : List Ins} {a : Nat} (h : Has is a (b1 ++ b2)) : Has is a b1 ∧ Has is (a + b1.length) b2 := by
  refine ⟨fun j i e => h j i ?_, fun j i e => ?_⟩
  · rw [List.getElem?_append_left (List.getElem?_eq_some_iff.mp e).1]
    exact e
  · have := h (b1.length + j) i (by rw [List.getElem?_append_right (Nat.le_add_right _ _), Nat.add_sub_cancel_left]; exact e)
    rw [← Nat.add_assoc] at this
    exact this
theorem Has.hd {is b : List Ins} {i : Ins} {a : Nat} (h : Has is a (i :: b)) : is[a]? = some i ∧ Has is (a + 1) b :=
  ⟨h 0 i rfl, (Has.app (b1 := [i]) h).2⟩
section
variable {m : Wd} {k n mf : Nat} {is : List Ins} {a : Nat} {pl st ks : List Vl} {fs : List FS} {res : Option Vl}
theorem m_int {i : Int} (hm : n < m.m) (hi : is[a]? = some (.int i)) (hs : st.length < many) (h : i.natAbs ≤ 10 ^ 60) : runM (k + 1) m ⟨n, mf, ⟨is, a, pl, st, ks⟩ :: fs, res⟩ = runM k m ⟨n + 1, mf, ⟨is, a + 1, pl, .int i :: st, ks⟩ :: fs, res⟩ := by
  refine runM_step hm hi ?_
  unfold actM frF
  dsimp only
  rw [gate_pos ⟨h, hs⟩]
theorem m_prim {p : Str} (hm : n < m.m) (hi : is[a]? = some (.prim p)) (hs : st.length < many) : runM (k + 1) m ⟨n, mf, ⟨is, a, pl, st, ks⟩ :: fs, res⟩ = runM k m ⟨n + 1, mf, ⟨is, a + 1, pl, .prim p :: st, ks⟩ :: fs, res⟩ := by
  refine runM_step hm hi ?_
  unfold actM frF
  dsimp only
  rw [gate_pos hs]
theorem m_src {s : Src} {v : Vl} (hm : n < m.m) (hi : is[a]? = some (.src s)) (hs : st.length < many) (hv : ∀ st a, rdS ⟨is, a, pl, st, ks⟩ s = some v) : runM (k + 1) m ⟨n, mf, ⟨is, a, pl, st, ks⟩ :: fs, res⟩ = runM k m ⟨n + 1, mf, ⟨is, a + 1, pl, v :: st, ks⟩ :: fs, res⟩ := by
  refine runM_step hm hi ?_
  unfold actM frF
  dsimp only
  rw [hv]
  dsimp only [Option.bind]
  rw [gate_pos hs]
theorem m_fn {c : Code} {ss : List Src} {vs : List Vl} (hm : n < m.m) (hi : is[a]? = some (.fn c ss)) (hs : st.length < many) (hl : ss.length ≤ many) (hv : ∀ st a, rdSs ⟨is, a, pl, st, ks⟩ ss = some vs) : runM (k + 1) m ⟨n, mf, ⟨is, a, pl, st, ks⟩ :: fs, res⟩ = runM k m ⟨n + 1, mf, ⟨is, a + 1, pl, .fnM c vs :: st, ks⟩ :: fs, res⟩ := by
  refine runM_step hm hi ?_
  unfold actM frF
  dsimp only
  rw [hv]
  dsimp only [Option.bind]
  rw [gate_pos ⟨hl, hs⟩]
theorem m_put {j : Nat} {v : Vl} (hm : n < m.m) (hi : is[a]? = some (.put j)) (hj : j < pl.length) : runM (k + 1) m ⟨n, mf, ⟨is, a, pl, v :: st, ks⟩ :: fs, res⟩ = runM k m ⟨n + 1, mf, ⟨is, a + 1, pl.set j v, st, ks⟩ :: fs, res⟩ := by
  refine runM_step hm hi ?_
  unfold actM frF
  dsimp only
  rw [gate_pos hj]
theorem act_call {called : Vl} {vs : List Vl} (h9 : vs.length ≤ 1000) (hs : vs.length + 1 + st.length < many) : actM m.gl (.call vs.length) ⟨n, mf, ⟨is, a, pl, vs.reverse ++ called :: st, ks⟩ :: fs, res⟩ = entF ⟨n, mf, ⟨is, a, pl, st, ks⟩ :: fs, res⟩ called vs := by
  unfold actM
  dsimp only
  have l0 : vs.length = vs.reverse.length := by rw [List.length_reverse]
  rw [show List.drop vs.length (vs.reverse ++ called :: st) = called :: st by rw [l0, List.drop_left], show List.take vs.length (vs.reverse ++ called :: st) = vs.reverse by rw [l0, List.take_left], List.reverse_reverse]
  dsimp only
  rw [if_pos ⟨h9, by rw [List.length_append, List.length_reverse, List.length_cons]; omega⟩]
theorem act_tail {called : Vl} {vs : List Vl} (h9 : vs.length ≤ 1000) (hs : vs.length + 1 + st.length < many) : actM m.gl (.tail vs.length) ⟨n, mf, ⟨is, a, pl, vs.reverse ++ called :: st, ks⟩ :: fs, res⟩ = entF ⟨n, mf, fs, res⟩ called vs := by
  unfold actM
  dsimp only
  have l0 : vs.length = vs.reverse.length := by rw [List.length_reverse]
  rw [show List.drop vs.length (vs.reverse ++ called :: st) = called :: st by rw [l0, List.drop_left], show List.take vs.length (vs.reverse ++ called :: st) = vs.reverse by rw [l0, List.take_left], List.reverse_reverse]
  dsimp only
  rw [if_pos ⟨h9, by rw [List.length_append, List.length_reverse, List.length_cons]; omega⟩]
end
theorem ent_prim {s : MS} {q : Str} {vs : List Vl} : entF s (.prim q) vs = (match chkF (.prim q) vs.length with
  | some ws => .err ws s.n s.mf
  | none => match primF q vs with
    | .ok y => giveF s y
    | .error ws => .err ws s.n s.mf) := rfl
theorem chk_pair (x y : Vl) : chkF (.prim "pair") [x, y].length = none := by
  unfold chkF
  rw [if_pos (show (isF (Vl.prim "pair") || isR (Vl.prim "pair")) = true from rfl), if_pos (by show arP "pair" = 2; unfold arP; rw [if_neg (by decide +kernel)])]
theorem prim_pair (x y : Vl) : primF "pair" [x, y] = .ok (.pair x y) := by
  unfold primF
  rw [if_pos (show ("pair" : Str) = "pair" from rfl)]
end My
namespace My
open PySem PySem.Spec PyProof.Rows L2 TL
/-! ### the machine's ways -/
def MGo (W : Wd) (s s' : MS) : Prop := ∃ j, ∀ k, runM (k + j) W s = runM k W s'
def MEnd (W : Wd) (s : MS) (ws : List Str) (n mf : Nat) : Prop := ∃ j, ∀ k, runM (k + j) W s = some (.error (ws, n, mf))
section
variable {W : Wd} {s s1 s' : MS} {ws : List Str} {n mf : Nat}
theorem MGo.refl : MGo W s s := ⟨0, fun _ => rfl⟩
theorem MGo.trans (a : MGo W s s1) (b : MGo W s1 s') : MGo W s s' := by
  obtain ⟨i, a⟩ := a
  obtain ⟨j, b⟩ := b
  exact ⟨j + i, fun k => by rw [← Nat.add_assoc, a, b]⟩
theorem MGo.ends (a : MGo W s s1) (b : MEnd W s1 ws n mf) : MEnd W s ws n mf := by
  obtain ⟨i, a⟩ := a
  obtain ⟨j, b⟩ := b
  exact ⟨j + i, fun k => by rw [← Nat.add_assoc, a, b]⟩
end
/-- a value is given to the frame below -/
def giveS (n mf : Nat) (fs : List FS) (res : Option Vl) (v : Vl) : MS := match fs with
  | [] => ⟨n, mf, [], some v⟩
  | f :: r => ⟨n, mf, { f with st := v :: f.st } :: r, res⟩
def okF (fs : List FS) : Prop := ∀ f r, fs = f :: r → f.st.length < many
theorem giveF_ok {n mf : Nat} {fs : List FS} {res : Option Vl} {v : Vl} (h : okF fs) : giveF ⟨n, mf, fs, res⟩ v = .ok (giveS n mf fs res v) := by
  cases fs with
  | nil => rfl
  | cons f r =>
    unfold giveF
    dsimp only
    rw [if_pos (h f r rfl)]
    rfl
/-- what the machine does with a part whose meaning is a value -/
def MaVal (W : Wd) (start : MS) (last : Bool) (is : List Ins) (b : Nat) (pl st ks : List Vl) (fs : List FS) (res : Option Vl) (lo n mx mf : Nat) (v : Vl) : Prop := ∃ v' n', VR v v' ∧ n < n' ∧ n' + 1 ≤ mx ∧
  if last = true then MGo W start (giveS n' mf fs res v') else ∃ pl', pl'.length = pl.length ∧ (∀ p, p < lo → pl'[p]? = pl[p]?) ∧ MGo W start ⟨n', mf, ⟨is, b, pl', v' :: st, ks⟩ :: fs, res⟩
section
variable {W : Wd} {is : List Ins} {pl st ks : List Vl} {fs : List FS} {res : Option Vl} {lo a b n mf : Nat} {last : Bool} {i : Ins} {v v' : Vl}
theorem leaf_go (h : Leaf is i last a b) (act : actM W.gl i ⟨n + 1, mf, ⟨is, a + 1, pl, st, ks⟩ :: fs, res⟩ = .ok ⟨n + 1, mf, ⟨is, a + 1, pl, v' :: st, ks⟩ :: fs, res⟩) (hm : n + 3 ≤ W.m) (hv : VR v v') (ok : okF fs) :
    MaVal W ⟨n, mf, ⟨is, a, pl, st, ks⟩ :: fs, res⟩ last is b pl st ks fs res lo n (n + 3) mf v := by
  obtain ⟨h1, h2⟩ := h
  have g1 : MGo W ⟨n, mf, ⟨is, a, pl, st, ks⟩ :: fs, res⟩ ⟨n + 1, mf, ⟨is, a + 1, pl, v' :: st, ks⟩ :: fs, res⟩ := ⟨1, fun k => runM_step (by omega) h1 act⟩
  by_cases c : last = true
  · rw [if_pos c] at h2
    refine ⟨v', n + 2, hv, by omega, by omega, ?_⟩
    rw [if_pos c]
    exact g1.trans ⟨1, fun k => runM_step (by omega) h2.1 (giveF_ok ok)⟩
  · rw [if_neg c] at h2
    refine ⟨v', n + 1, hv, by omega, by omega, ?_⟩
    rw [if_neg c, h2]
    exact ⟨pl, rfl, fun _ _ => rfl, g1⟩
end
theorem chk_VR {f f' : Vl} {n : Nat} (h : VR f f') : chkF f n = chkF f' n := by
  cases h <;> rfl
theorem isI_VR {v v' : Vl} (h : VR v v') : isI v = isI v' := by
  cases h <;> rfl
theorem allI_VR : ∀ {vs vs' : List Vl}, VRs vs vs' → vs.all isI = vs'.all isI
  | _, _, .nil => rfl
  | _, _, .cons h hs => by rw [List.all_cons, List.all_cons, isI_VR h, allI_VR hs]
theorem prim_VR {q : Str} {vs vs' : List Vl} (h : VRs vs vs') : (∀ y, primF q vs = .ok y → ∃ y', primF q vs' = .ok y' ∧ VR y y') ∧ (∀ ws, primF q vs = .error ws → primF q vs' = .error ws) := by
  unfold primF
  by_cases c1 : q = "pair"
  · rw [if_pos c1, if_pos c1]
    match vs, vs', h with
    | [], [], .nil => exact ⟨fun y e => (by cases e), fun ws e => e⟩
    | [x], [x'], .cons _ .nil => exact ⟨fun y e => (by cases e), fun ws e => e⟩
    | [x, y], [x', y'], .cons h1 (.cons h2 .nil) => exact ⟨fun z e => (by cases e; exact ⟨_, rfl, .pair h1 h2⟩), fun ws e => (by cases e)⟩
    | x :: y :: z :: r, x' :: y' :: z' :: r', .cons _ (.cons _ (.cons _ _)) => exact ⟨fun y e => (by cases e), fun ws e => e⟩
  rw [if_neg c1, if_neg c1]
  by_cases c2 : q = "first" ∨ q = "second"
  · rw [if_pos c2, if_pos c2]
    match vs, vs', h with
    | [], [], .nil => exact ⟨fun y e => (by cases e), fun ws e => e⟩
    | [x], [x'], .cons h1 .nil =>
      cases h1 with
      | @pair a b a' b' ha hb =>
        refine ⟨fun z e => ?_, fun ws e => (by cases e)⟩
        cases e
        refine ⟨_, rfl, ?_⟩
        by_cases c : q = "first"
        · rw [if_pos c, if_pos c]; exact ha
        · rw [if_neg c, if_neg c]; exact hb
      | int i => exact ⟨fun y e => (by cases e), fun ws e => e⟩
      | prim p => exact ⟨fun y e => (by cases e), fun ws e => e⟩
      | fn _ _ _ _ _ => exact ⟨fun y e => (by cases e), fun ws e => e⟩
    | x :: y :: r, x' :: y' :: r', .cons _ (.cons _ _) => exact ⟨fun y e => (by cases e), fun ws e => e⟩
  rw [if_neg c2, if_neg c2, allI_VR h]
  by_cases c3 : vs'.all isI = true
  · rw [if_pos c3, if_pos c3]
    rw [← allI_VR h] at c3
    match vs, vs', h, c3 with
    | [], [], .nil, _ => exact ⟨fun y e => (by cases e), fun ws e => e⟩
    | [x], [x'], .cons h1 .nil, _ =>
      refine ⟨fun y e => ?_, fun ws e => ?_⟩
      · cases x <;> cases e
      · cases h1 <;> exact e
    | [x, y], [x', y'], .cons h1 (.cons h2 .nil), c3 =>
      cases h1 with
      | int l =>
        cases h2 with
        | int r =>
          dsimp only
          cases reckF q l r with
          | ok z => exact ⟨fun y e => (by cases e; exact ⟨_, rfl, .int z⟩), fun ws e => (by cases e)⟩
          | error es => exact ⟨fun y e => (by cases e), fun ws e => e⟩
        | prim p => cases c3
        | pair _ _ => cases c3
        | fn _ _ _ _ _ => cases c3
      | prim p => cases c3
      | pair _ _ => cases c3
      | fn _ _ _ _ _ => cases c3
    | x :: y :: z :: r, x' :: y' :: z' :: r', .cons h1 (.cons h2 (.cons h3 hs)), _ =>
      refine ⟨fun y e => ?_, fun ws e => ?_⟩
      · cases h1 <;> cases h2 <;> cases e
      · cases h1 <;> cases h2 <;> exact e
  · rw [if_neg c3, if_neg c3]
    exact ⟨fun y e => (by cases e), fun ws e => e⟩
mutual
theorem Lay_le : ∀ {t : Tr} {np : Nat} {is : List Ins} {sc : Sc} {last : Bool} {a lo b hi : Nat}, Lay np is t sc last a lo b hi → lo ≤ hi
  | .int i, np, is, sc, last, a, lo, b, hi, h => by unfold Lay at h; omega
  | .loc x, np, is, sc, last, a, lo, b, hi, h => by unfold Lay at h; obtain ⟨_, _, _, h⟩ := h; omega
  | .glob m x, np, is, sc, last, a, lo, b, hi, h => by unfold Lay at h; omega
  | .prim p, np, is, sc, last, a, lo, b, hi, h => by unfold Lay at h; omega
  | .fn ns bd, np, is, sc, last, a, lo, b, hi, h => by unfold Lay at h; obtain ⟨_, _, _, _, _, _, h, _⟩ := h; omega
  | .let_ ns ts bd, np, is, sc, last, a, lo, b, hi, h => by
    unfold Lay at h
    obtain ⟨a1, lo1, _, h1, h2⟩ := h
    have e1 := LayLet_le h1
    have e2 := Lay_le h2
    omega
  | .if_ c t e, np, is, sc, last, a, lo, b, hi, h => by
    unfold Lay at h
    obtain ⟨a1, lo1, a2, lo2, h1, h2⟩ := h
    have e1 := Lay_le h1
    by_cases c : last = true
    · rw [if_pos c] at h2
      have e2 := Lay_le h2.2.1
      have e3 := Lay_le h2.2.2
      omega
    · rw [if_neg c] at h2
      have e2 := Lay_le h2.2.1
      have e3 := Lay_le h2.2.2.2
      omega
  | .call g ts, np, is, sc, last, a, lo, b, hi, h => by
    unfold Lay at h
    obtain ⟨a0, lo0, a1, h1, h2, _⟩ := h
    have e1 := Lay_le h1
    have e2 := LayL_le h2
    omega
theorem LayL_le : ∀ {ts : List Tr} {np : Nat} {is : List Ins} {sc : Sc} {a lo b hi : Nat}, LayL np is ts sc a lo b hi → lo ≤ hi
  | [], np, is, sc, a, lo, b, hi, h => by unfold LayL at h; omega
  | t :: ts, np, is, sc, a, lo, b, hi, h => by
    unfold LayL at h
    obtain ⟨a1, lo1, h1, h2⟩ := h
    have e1 := Lay_le h1
    have e2 := LayL_le h2
    omega
theorem LayLet_le : ∀ {ts : List Tr} {np : Nat} {is : List Ins} {sc : Sc} {f a lo b hi : Nat}, LayLet np is ts sc f a lo b hi → lo ≤ hi
  | [], np, is, sc, f, a, lo, b, hi, h => by unfold LayLet at h; omega
  | t :: ts, np, is, sc, f, a, lo, b, hi, h => by
    unfold LayLet at h
    obtain ⟨a1, lo1, h1, _, h2⟩ := h
    have e1 := Lay_le h1
    have e2 := LayLet_le h2
    omega
end
/-- the definitions of the two runs -/
def GlR (gl gm : Gl) : Prop := ∀ k, (∀ v, glGet k gl = some v → ∃ v', glGet k gm = some v' ∧ VR v v') ∧ (glGet k gl = none → glGet k gm = none)
theorem evL_len {r : Tr → Nat → Nat → Option (Rs × Nat × Nat)} : ∀ {ts : List Tr} {l s : Nat} {vs : List Vl} {z : Nat × Nat}, evL r ts l s = some (.inl vs, z) → vs.length = ts.length
  | [], l, s, vs, z, e => by cases e; rfl
  | t :: ts, l, s, vs, z, e => by
    unfold evL at e
    cases h1 : r t l s with
    | none => rw [h1] at e; cases e
    | some q =>
    obtain ⟨r1, l1, s1⟩ := q
    rw [h1] at e
    cases r1 with
    | out ws => cases e
    | val v =>
    dsimp only at e
    cases h2 : evL r ts l1 s1 with
    | none => rw [h2] at e; cases e
    | some q =>
    obtain ⟨r2, l2, s2⟩ := q
    rw [h2] at e
    cases r2 with
    | inl us => cases e; rw [List.length_cons, List.length_cons, evL_len h2]
    | inr ws => cases e
end My
namespace My
open PySem PySem.Spec PyProof.Rows L2 TL
/-! ### the machine does what the evaluator tells -/
abbrev stepsW : List Str := ["steps"]
def MaGo (f : Nat) : Prop := ∀ (gl gm : Gl) (M : Nat) (env : Ev) (t : Tr) (l s d : Nat) (last : Bool) (r : Rs) (l' s' : Nat) (np : Nat) (is : List Ins) (sc : Sc) (a lo b hi : Nat) (pl st ks : List Vl) (fs : List FS) (res : Option Vl) (n : Nat),
  evT f gl env t l s d last = some (r, l', s') → Lay np is t sc last a lo b hi → ScR sc env pl ks lo → np ≤ pl.length → GlR gl gm → d = fs.length + 1 → d ≤ s → n + 3 * (l - l') ≤ M → st.length + 64 * f < many → fs.length + f < many → okF fs →
  (∀ v, r = .val v → MaVal ⟨M, gm⟩ ⟨n, s, ⟨is, a, pl, st, ks⟩ :: fs, res⟩ last is b pl st ks fs res lo n (n + 3 * (l - l')) s' v) ∧
  (∀ ws, r = .out ws → ws ≠ stepsW → ∃ n', n' ≤ n + 3 * (l - l') ∧ MEnd ⟨M, gm⟩ ⟨n, s, ⟨is, a, pl, st, ks⟩ :: fs, res⟩ ws n' s')
section
variable {f : Nat} {gl gm : Gl} {M : Nat} {env : Ev} {d np : Nat} {is : List Ins} {sc : Sc} {ks : List Vl} {fs : List FS} {res : Option Vl}
theorem args_go (IH : MaGo f) (GR : GlR gl gm) (hd : d = fs.length + 1) (hf : fs.length + f < many) (hok : okF fs) : ∀ (ts : List Tr) (l s : Nat) (r : List Vl ⊕ List Str) (l' s' a lo b hi : Nat) (pl st : List Vl) (n : Nat),
    evL (fun t l s => evT f gl env t l s d false) ts l s = some (r, l', s') → LayL np is ts sc a lo b hi → ScR sc env pl ks lo → np ≤ pl.length → d ≤ s → n + 3 * (l - l') ≤ M → st.length + ts.length + 64 * f < many →
    (∀ vs, r = .inl vs → ∃ vs' n' pl', VRs vs vs' ∧ n ≤ n' ∧ n' ≤ n + 3 * (l - l') ∧ pl'.length = pl.length ∧ (∀ p, p < lo → pl'[p]? = pl[p]?) ∧ MGo ⟨M, gm⟩ ⟨n, s, ⟨is, a, pl, st, ks⟩ :: fs, res⟩ ⟨n', s', ⟨is, b, pl', vs'.reverse ++ st, ks⟩ :: fs, res⟩) ∧
    (∀ ws, r = .inr ws → ws ≠ stepsW → ∃ n', n' ≤ n + 3 * (l - l') ∧ MEnd ⟨M, gm⟩ ⟨n, s, ⟨is, a, pl, st, ks⟩ :: fs, res⟩ ws n' s')
  | [], l, s, r, l', s', a, lo, b, hi, pl, st, n, h, lay, scr, hnp, hds, hM, hst => by
    cases h
    unfold LayL at lay
    obtain ⟨rfl, rfl⟩ := lay
    exact ⟨fun vs e => (by cases e; exact ⟨[], n, pl, .nil, Nat.le_refl _, by omega, rfl, fun _ _ => rfl, MGo.refl⟩), fun ws e => (by cases e)⟩
  | t :: ts, l, s, r, l', s', a, lo, b, hi, pl, st, n, h, lay, scr, hnp, hds, hM, hst => by
    unfold LayL at lay
    obtain ⟨a1, lo1, y1, y2⟩ := lay
    simp only [List.length_cons] at hst
    unfold evL at h
    cases h1 : evT f gl env t l s d false with
    | none => rw [h1] at h; cases h
    | some q =>
    obtain ⟨r1, l1, s1⟩ := q
    obtain ⟨w1, w2⟩ := evT_le _ _ _ _ _ _ _ _ _ _ _ h1
    rw [h1] at h
    cases r1 with
    | out ws =>
      cases h
      obtain ⟨_, z2⟩ := IH gl gm M env t l s d false _ _ _ np is sc a lo a1 lo1 pl st ks fs res n h1 y1 scr hnp GR hd hds hM (by omega) hf hok
      exact ⟨fun vs e => (by cases e), fun ws' e ne => (by cases e; exact z2 _ rfl ne)⟩
    | val v =>
    dsimp only at h
    cases h2 : evL (fun t l s => evT f gl env t l s d false) ts l1 s1 with
    | none => rw [h2] at h; cases h
    | some q =>
    obtain ⟨r2, l2, s2⟩ := q
    obtain ⟨w3, w4⟩ := evL_le (fun t l s x l' s' e => evT_le f gl env t l s d false x l' s' e) ts l1 s1 _ _ _ h2
    rw [h2] at h
    have hl : l2 = l' := by cases r2 <;> (cases h; rfl)
    subst hl
    obtain ⟨z1, _⟩ := IH gl gm M env t l s d false _ _ _ np is sc a lo a1 lo1 pl st ks fs res n h1 y1 scr hnp GR hd hds (by omega) (by omega) hf hok
    obtain ⟨v', n1, hv, q1, q2, q3⟩ := z1 v rfl
    rw [if_neg Bool.false_ne_true] at q3
    obtain ⟨pl1, p1, p2, g1⟩ := q3
    obtain ⟨k1, k2⟩ := args_go IH GR hd hf hok ts l1 s1 r2 l2 s2 a1 lo1 b hi pl1 (v' :: st) n1 h2 y2 (scr.mono (Lay_le y1) p2) (by rw [p1]; exact hnp) (by omega) (by omega) (by simp only [List.length_cons]; omega)
    have lle := Lay_le y1
    cases r2 with
    | inr ws =>
      cases h
      refine ⟨fun vs e => (by cases e), fun ws' e ne => ?_⟩
      cases e
      obtain ⟨n', m1, m2⟩ := k2 _ rfl ne
      exact ⟨n', by omega, g1.ends m2⟩
    | inl us =>
      cases h
      refine ⟨fun vs e => ?_, fun ws' e => (by cases e)⟩
      cases e
      obtain ⟨us', n', pl', m1, m2, m3, m4, m5, m6⟩ := k1 _ rfl
      refine ⟨v' :: us', n', pl', .cons hv m1, by omega, by omega, by rw [m4, p1], fun p hp => (m5 p (by omega)).trans (p2 p hp), ?_⟩
      rw [List.reverse_cons, List.append_assoc]
      exact g1.trans m6
theorem lets_go (IH : MaGo f) (GR : GlR gl gm) (hd : d = fs.length + 1) (hf : fs.length + f < many) (hok : okF fs) {st : List Vl} (hst : st.length + 64 * f < many) {lo0 : Nat} : ∀ (ts : List Tr) (l s : Nat) (r : List Vl ⊕ List Str) (l' s' f0 a lo b hi : Nat) (pl : List Vl) (n : Nat),
    evL (fun t l s => evT f gl env t l s d false) ts l s = some (r, l', s') → LayLet np is ts sc f0 a lo b hi → ScR sc env pl ks lo0 → lo0 ≤ f0 → f0 + ts.length ≤ lo → f0 + ts.length ≤ np → np ≤ pl.length → d ≤ s → n + 3 * (l - l') ≤ M →
    (∀ vs, r = .inl vs → ∃ vs' n' pl', VRs vs vs' ∧ n ≤ n' ∧ n' ≤ n + 3 * (l - l') ∧ pl'.length = pl.length ∧ (∀ p, p < f0 → pl'[p]? = pl[p]?) ∧ (∀ i v', vs'[i]? = some v' → pl'[f0 + i]? = some v') ∧ MGo ⟨M, gm⟩ ⟨n, s, ⟨is, a, pl, st, ks⟩ :: fs, res⟩ ⟨n', s', ⟨is, b, pl', st, ks⟩ :: fs, res⟩) ∧
    (∀ ws, r = .inr ws → ws ≠ stepsW → ∃ n', n' ≤ n + 3 * (l - l') ∧ MEnd ⟨M, gm⟩ ⟨n, s, ⟨is, a, pl, st, ks⟩ :: fs, res⟩ ws n' s')
  | [], l, s, r, l', s', f0, a, lo, b, hi, pl, n, h, lay, scr, h0, hlo, hp, hnp, hds, hM => by
    cases h
    unfold LayLet at lay
    obtain ⟨rfl, rfl⟩ := lay
    exact ⟨fun vs e => (by cases e; exact ⟨[], n, pl, .nil, Nat.le_refl _, by omega, rfl, fun _ _ => rfl, fun i v' e => (by simp at e), MGo.refl⟩), fun ws e => (by cases e)⟩
  | t :: ts, l, s, r, l', s', f0, a, lo, b, hi, pl, n, h, lay, scr, h0, hlo, hp, hnp, hds, hM => by
    unfold LayLet at lay
    obtain ⟨a1, lo1, y1, yp, y2⟩ := lay
    simp only [List.length_cons] at hlo hp
    have scl : ScR sc env pl ks lo := scr.mono (by omega) fun _ _ => rfl
    unfold evL at h
    cases h1 : evT f gl env t l s d false with
    | none => rw [h1] at h; cases h
    | some q =>
    obtain ⟨r1, l1, s1⟩ := q
    obtain ⟨w1, w2⟩ := evT_le _ _ _ _ _ _ _ _ _ _ _ h1
    rw [h1] at h
    cases r1 with
    | out ws =>
      cases h
      obtain ⟨_, z2⟩ := IH gl gm M env t l s d false _ _ _ np is sc a lo a1 lo1 pl st ks fs res n h1 y1 scl hnp GR hd hds hM hst hf hok
      exact ⟨fun vs e => (by cases e), fun ws' e ne => (by cases e; exact z2 _ rfl ne)⟩
    | val v =>
    dsimp only at h
    cases h2 : evL (fun t l s => evT f gl env t l s d false) ts l1 s1 with
    | none => rw [h2] at h; cases h
    | some q =>
    obtain ⟨r2, l2, s2⟩ := q
    obtain ⟨w3, w4⟩ := evL_le (fun t l s x l' s' e => evT_le f gl env t l s d false x l' s' e) ts l1 s1 _ _ _ h2
    rw [h2] at h
    have hl : l2 = l' := by cases r2 <;> (cases h; rfl)
    subst hl
    obtain ⟨z1, _⟩ := IH gl gm M env t l s d false _ _ _ np is sc a lo a1 lo1 pl st ks fs res n h1 y1 scl hnp GR hd hds (by omega) hst hf hok
    obtain ⟨v', n1, hv, q1, q2, q3⟩ := z1 v rfl
    rw [if_neg Bool.false_ne_true] at q3
    obtain ⟨pl1, p1, p2, g1⟩ := q3
    have hj : f0 < pl1.length := by omega
    have g2 : MGo ⟨M, gm⟩ ⟨n1, s1, ⟨is, a1, pl1, v' :: st, ks⟩ :: fs, res⟩ ⟨n1 + 1, s1, ⟨is, a1 + 1, pl1.set f0 v', st, ks⟩ :: fs, res⟩ := ⟨1, fun k => m_put (by show n1 < M; omega) yp hj⟩
    have lle := Lay_le y1
    have e2 : ∀ p, p < f0 → (pl1.set f0 v')[p]? = pl[p]? := fun p hp => by
      rw [List.getElem?_set_ne (by omega)]
      exact p2 p (by omega)
    obtain ⟨k1, k2⟩ := lets_go IH GR hd hf hok hst (lo0 := lo0) ts l1 s1 r2 l2 s2 (f0 + 1) (a1 + 1) lo1 b hi (pl1.set f0 v') (n1 + 1) h2 y2 (scr.mono (Nat.le_refl _) fun p hp => e2 p (by omega)) (by omega) (by omega) (by omega) (by rw [List.length_set, p1]; exact hnp) (by omega) (by omega)
    cases r2 with
    | inr ws =>
      cases h
      refine ⟨fun vs e => (by cases e), fun ws' e ne => ?_⟩
      cases e
      obtain ⟨n', m1, m2⟩ := k2 _ rfl ne
      exact ⟨n', by omega, (g1.trans g2).ends m2⟩
    | inl us =>
      cases h
      refine ⟨fun vs e => ?_, fun ws' e => (by cases e)⟩
      cases e
      obtain ⟨us', n', pl', m1, m2, m3, m4, m5, m6, m7⟩ := k1 _ rfl
      refine ⟨v' :: us', n', pl', .cons hv m1, by omega, by omega, by rw [m4, List.length_set, p1], fun p hp => (m5 p (by omega)).trans (e2 p hp), fun i u e => ?_, (g1.trans g2).trans m7⟩
      cases i with
      | zero =>
        cases e
        exact (m5 f0 (by omega)).trans (List.getElem?_set_self hj)
      | succ i =>
        rw [show f0 + (i + 1) = f0 + 1 + i by omega]
        exact m6 i u (by simpa using e)
end
theorem rdS_eq (f : FS) (s : Src) : rdS f s = rdv f.pl f.ks s := by cases s <;> rfl
theorem rdSs_of {sc : Sc} {env : Ev} {f : FS} {lo : Nat} (h : ScR sc env f.pl f.ks lo) : ∀ {xs : List Int} {ss : List Src}, ssOf sc xs = some ss → ∃ vs', rdSs f ss = some vs' ∧ vs'.length = xs.length ∧ (∀ x : Int, x ∈ xs → ∃ v, evGet x env = some v) ∧ ∀ (i : Nat) (x : Int) (v v' : Vl), xs[i]? = some x → evGet x env = some v → vs'[i]? = some v' → VR v v'
  | [], ss, e => by
    cases e
    exact ⟨[], rfl, rfl, fun x m => (by cases m), fun i x v v' e => (by simp at e)⟩
  | x :: xs, ss, e => by
    unfold ssOf at e
    cases h1 : scGet x sc with
    | none => rw [h1] at e; cases e
    | some s =>
    cases h2 : ssOf sc xs with
    | none => rw [h1, h2] at e; cases e
    | some rs =>
    rw [h1, h2] at e
    cases e
    obtain ⟨⟨v, v', g1, g2, g3⟩, _⟩ := h x s h1
    obtain ⟨vs', i1, i2, i3, i4⟩ := rdSs_of h h2
    refine ⟨v' :: vs', ?_, by rw [List.length_cons, List.length_cons, i2], fun y m => ?_, fun i y u u' e1 e2 e3 => ?_⟩
    · unfold rdSs
      rw [rdS_eq, g2, i1]
    · rcases List.mem_cons.mp m with e | m
      · rw [e]; exact ⟨v, g1⟩
      · exact i3 y m
    · cases i with
      | zero =>
        cases e1
        cases e3
        rw [g1] at e2
        cases e2
        exact g3
      | succ i => exact i4 i y u u' (by simpa using e1) e2 (by simpa using e3)
end My
namespace My
open PySem PySem.Spec PyProof.Rows L2 TL
/-! ### the whole machine by the evaluator -/
theorem MaVal.later {W : Wd} {s0 s1 : MS} {last : Bool} {is : List Ins} {b : Nat} {pl pl1 st ks : List Vl} {fs : List FS} {res : Option Vl} {lo lo1 n n1 mx mx1 mf : Nat} {v : Vl} (g : MGo W s0 s1) (h : MaVal W s1 last is b pl1 st ks fs res lo1 n1 mx1 mf v) (hn : n ≤ n1) (hx : mx1 ≤ mx) (hl : lo ≤ lo1) (e1 : pl1.length = pl.length) (e2 : ∀ p, p < lo → pl1[p]? = pl[p]?) :
    MaVal W s0 last is b pl st ks fs res lo n mx mf v := by
  obtain ⟨v', n', hv, q1, q2, q3⟩ := h
  refine ⟨v', n', hv, by omega, by omega, ?_⟩
  by_cases c : last = true
  · rw [if_pos c] at q3 ⊢
    exact g.trans q3
  · rw [if_neg c] at q3 ⊢
    obtain ⟨pl', p1, p2, p3⟩ := q3
    exact ⟨pl', by rw [p1, e1], fun p hp => (p2 p (by omega)).trans (e2 p hp), g.trans p3⟩
/-- the scope of a function's body, its parameters and what it keeps -/
theorem ScR_fn {ns : List Int} {bd : Tr} {env : Ev} {ks vs vs' : List Vl} {l : Nat} (hl : ks.length = (outT (.fn ns bd)).length) (ex : ∀ x : Int, x ∈ outT (.fn ns bd) → ∃ v, evGet x env = some v)
    (hk : ∀ (i : Nat) (x : Int) (v v' : Vl), (outT (.fn ns bd))[i]? = some x → evGet x env = some v → ks[i]? = some v' → VR v v') (hv : VRs vs vs') (hn : ns.length = vs.length) (z : List Vl) :
    ScR (fnSc (.fn ns bd)) (evPuts ns vs env) (vs' ++ z) ks ns.length := by
  have h0 : ScR (kpSc 0 (outT (.fn ns bd)) []) env (vs' ++ z) ks ns.length := fun x s e => by
    rcases kpSc_get e with e | ⟨j, e1, e2⟩
    · cases e
    · rw [Nat.zero_add] at e1
      subst e1
      obtain ⟨v, g1⟩ := ex x (List.mem_of_getElem? e2)
      have lj : j < ks.length := by rw [hl]; exact (List.getElem?_eq_some_iff.mp e2).1
      have g2 : ks[j]? = some ks[j] := List.getElem?_eq_getElem lj
      exact ⟨⟨v, ks[j], g1, g2, hk j x v _ e2 g1 g2⟩, fun p q => (by cases q)⟩
  unfold fnSc
  exact ScR.puts (ns := ns) (f := 0) h0 hv hn (fun i v' e => by
    rw [Nat.zero_add, List.getElem?_append_left (List.getElem?_eq_some_iff.mp e).1]
    exact e) (by omega)
theorem chk_fn {ns : List Int} {bd : Tr} {env : Ev} {k : Nat} (h : chkF (.fnP ns bd env) k = none) : ns.length = k := by
  have := chk_par h
  exact Int.ofNat.inj this
theorem ma_sim : ∀ f, MaGo f
  | 0 => fun gl gm M env t l s d last r l' s' np is sc a lo b hi pl st ks fs res n h => by cases h
  | f + 1 => fun gl gm M env t l s d last r l' s' np is sc a lo b hi pl st ks fs res n h lay scr hnp GR hd hds hM hst hf hok => by
    have IH := ma_sim f
    unfold evT at h
    by_cases l0 : l = 0
    · rw [if_pos l0] at h
      cases h
      exact ⟨fun v e => (by cases e), fun ws e ne => (by cases e; exact absurd rfl ne)⟩
    rw [if_neg l0] at h
    have one : l - (l - 1) = 1 := by omega
    have hs0 : st.length < many := by omega
    have leaf : ∀ {i : Ins} {v v' : Vl}, l' = l - 1 → s' = s → Leaf is i last a b → (actM gm i ⟨n + 1, s, ⟨is, a + 1, pl, st, ks⟩ :: fs, res⟩ = .ok ⟨n + 1, s, ⟨is, a + 1, pl, v' :: st, ks⟩ :: fs, res⟩) → VR v v' → r = .val v →
        (∀ v, r = .val v → MaVal ⟨M, gm⟩ ⟨n, s, ⟨is, a, pl, st, ks⟩ :: fs, res⟩ last is b pl st ks fs res lo n (n + 3 * (l - l')) s' v) ∧ (∀ ws, r = .out ws → ws ≠ stepsW → ∃ n', n' ≤ n + 3 * (l - l') ∧ MEnd ⟨M, gm⟩ ⟨n, s, ⟨is, a, pl, st, ks⟩ :: fs, res⟩ ws n' s') := fun {i v v'} el es hl act hv er => by
      subst el
      subst es
      subst er
      rw [one] at hM ⊢
      exact ⟨fun w e => (by cases e; exact leaf_go (W := ⟨M, gm⟩) hl act hM hv hok), fun ws e => (by cases e)⟩
    cases t with
    | int i =>
      dsimp only at h
      unfold Lay at lay
      by_cases hi : i.natAbs ≤ 10 ^ 60
      case neg => rw [if_neg hi] at h; cases h
      rw [if_pos hi] at h
      cases h
      exact leaf rfl rfl lay.1 (by
        unfold actM frF
        dsimp only
        rw [gate_pos ⟨hi, hs0⟩]) (.int i) rfl
    | loc x =>
      dsimp only at h
      unfold Lay at lay
      obtain ⟨so, g0, lf, _⟩ := lay
      obtain ⟨⟨v, v', g1, g2, g3⟩, _⟩ := scr x so g0
      rw [g1] at h
      cases h
      exact leaf rfl rfl lf (by
        unfold actM frF
        dsimp only
        rw [rdS_eq, g2]
        dsimp only [Option.bind]
        rw [gate_pos hs0]) g3 rfl
    | glob m x =>
      dsimp only at h
      unfold Lay at lay
      obtain ⟨lf, _⟩ := lay
      cases hv : glGet (m, x) gl with
      | none =>
        rw [hv] at h
        cases h
        rw [one] at hM ⊢
        refine ⟨fun v e => (by cases e), fun ws e ne => ?_⟩
        cases e
        refine ⟨n + 1, by omega, 1, fun k => runM_err (by show n < M; omega) lf.1 ?_⟩
        unfold actM
        dsimp only
        rw [(GR (m, x)).2 hv]
      | some v =>
        rw [hv] at h
        cases h
        obtain ⟨v', g1, g2⟩ := (GR (m, x)).1 v hv
        exact leaf rfl rfl lf (by
          unfold actM
          dsimp only
          rw [g1]
          dsimp only
          rw [if_pos hs0]) g2 rfl
    | prim q =>
      cases h
      unfold Lay at lay
      exact leaf rfl rfl lay.1 (by
        unfold actM frF
        dsimp only
        rw [gate_pos hs0]) (.prim q) rfl
    | fn ns bd =>
      cases h
      unfold Lay at lay
      obtain ⟨pc, js, ss, b', hi', lf, _, hss, lss, lpc, lb⟩ := lay
      obtain ⟨vs', i1, i2, i3, i4⟩ := rdSs_of (f := ⟨is, a + 1, pl, st, ks⟩) scr hss
      exact leaf rfl rfl lf (by
        unfold actM frF
        dsimp only
        rw [i1]
        dsimp only [Option.bind]
        rw [gate_pos ⟨lss, hs0⟩]) (.fn lpc lb i2 i3 i4) rfl
    | let_ ns ts bd =>
      dsimp only at h
      by_cases lim : ts.length ≤ 60 ∧ ns.length = ts.length ∧ env.length + ns.length ≤ 1000000
      case neg => rw [if_neg lim] at h; cases h
      rw [if_pos lim] at h
      unfold Lay at lay
      obtain ⟨a1, lo1, hp, y1, y2⟩ := lay
      have lle := LayLet_le y1
      cases h2 : evL (fun t l s => evT f gl env t l s d false) ts (l - 1) s with
      | none => rw [h2] at h; cases h
      | some q =>
      obtain ⟨r2, l2, s2⟩ := q
      obtain ⟨w3, w4⟩ := evL_le (fun t l s x l' s' e => evT_le f gl env t l s d false x l' s' e) ts _ s _ _ _ h2
      rw [h2] at h
      have hl2 : l' ≤ l2 := by
        cases r2 with
        | inr ws => cases h; exact Nat.le_refl _
        | inl vs => exact (evT_le _ _ _ _ _ _ _ _ _ _ _ h).1
      obtain ⟨k1, k2⟩ := lets_go (res := res) (M := M) (gm := gm) IH GR hd (by omega) hok (show st.length + 64 * f < many by omega) (lo0 := lo) ts (l - 1) s r2 l2 s2 lo a (lo + ns.length) a1 lo1 pl n h2 y1 scr (Nat.le_refl _) (by omega) (by omega) hnp hds (by omega)
      cases r2 with
      | inr ws =>
        cases h
        refine ⟨fun vs e => (by cases e), fun ws' e ne => ?_⟩
        cases e
        obtain ⟨n', m1, m2⟩ := k2 _ rfl ne
        exact ⟨n', by omega, m2⟩
      | inl vs =>
      dsimp only at h
      obtain ⟨vs', n', pl', m1, m2, m3, m4, m5, m6, m7⟩ := k1 vs rfl
      have hvs := evL_len h2
      have scb : ScR (letSc lo ns sc) (evPuts ns vs env) pl' ks lo1 := ScR.puts (ns := ns) (f := lo) (scr.mono (by omega) m5) m1 (by omega) m6 (by omega)
      obtain ⟨c1, c2⟩ := IH gl gm M _ bd l2 s2 d last r l' s' np is _ a1 lo1 b hi pl' st ks fs res n' h y2 scb (by rw [m4]; exact hnp) GR hd (by omega) (by omega) (by omega) (by omega) hok
      refine ⟨fun v e => MaVal.later m7 (c1 v e) m2 (by omega) (by omega) m4 m5, fun ws e ne => ?_⟩
      obtain ⟨n2, e1, e2⟩ := c2 ws e ne
      exact ⟨n2, by omega, m7.ends e2⟩
    | if_ ta tb tc =>
      dsimp only at h
      unfold Lay at lay
      obtain ⟨a1, lo1, a2, lo2, y1, y2⟩ := lay
      have lle := Lay_le y1
      cases h2 : evT f gl env ta (l - 1) s d false with
      | none => rw [h2] at h; cases h
      | some q =>
      obtain ⟨r2, l2, s2⟩ := q
      obtain ⟨w3, w4⟩ := evT_le _ _ _ _ _ _ _ _ _ _ _ h2
      rw [h2] at h
      cases r2 with
      | out ws =>
        cases h
        obtain ⟨_, z2⟩ := IH gl gm M env ta (l - 1) s d false _ _ _ np is sc a lo a1 lo1 pl st ks fs res n h2 y1 scr hnp GR hd hds (by omega) (by omega) (by omega) hok
        refine ⟨fun v e => (by cases e), fun ws' e ne => ?_⟩
        cases e
        obtain ⟨n', e1, e2⟩ := z2 _ rfl ne
        exact ⟨n', by omega, e2⟩
      | val v =>
      cases v with
      | int i =>
        dsimp only at h
        have hl2 := (evT_le _ _ _ _ _ _ _ _ _ _ _ h).1
        obtain ⟨z1, _⟩ := IH gl gm M env ta (l - 1) s d false _ _ _ np is sc a lo a1 lo1 pl st ks fs res n h2 y1 scr hnp GR hd hds (by omega) (by omega) (by omega) hok
        obtain ⟨v', n1, hv, q1, q2, q3⟩ := z1 _ rfl
        rw [if_neg Bool.false_ne_true] at q3
        obtain ⟨pl1, p1, p2, g1⟩ := q3
        cases hv
        have scr1 : ScR sc env pl1 ks lo1 := scr.mono lle p2
        have un : ∀ x, is[a1]? = some (.unless x) → MGo ⟨M, gm⟩ ⟨n1, s2, ⟨is, a1, pl1, .int i :: st, ks⟩ :: fs, res⟩ ⟨n1 + 1, s2, ⟨is, if i = 0 then x else a1 + 1, pl1, st, ks⟩ :: fs, res⟩ := fun x hx => ⟨1, fun k => runM_step (by show n1 < M; omega) hx (by unfold actM frF; rfl)⟩
        by_cases cl : last = true
        · rw [if_pos cl] at y2
          obtain ⟨u1, u2, u3⟩ := y2
          have l12 := Lay_le u2
          have g2 := g1.trans (un _ u1)
          by_cases ci : i = 0
          · rw [if_pos ci] at h g2
            obtain ⟨c1, c2⟩ := IH gl gm M env tc l2 s2 d last r l' s' np is sc a2 lo2 b hi pl1 st ks fs res (n1 + 1) h (by rw [cl]; exact u3) (scr1.mono l12 fun _ _ => rfl) (by rw [p1]; exact hnp) GR hd (by omega) (by omega) (by omega) (by omega) hok
            refine ⟨fun v e => MaVal.later g2 (c1 v e) (by omega) (by omega) (by omega) p1 p2, fun ws e ne => ?_⟩
            obtain ⟨n2, e1, e2⟩ := c2 ws e ne
            exact ⟨n2, by omega, g2.ends e2⟩
          · rw [if_neg ci] at h g2
            obtain ⟨c1, c2⟩ := IH gl gm M env tb l2 s2 d last r l' s' np is sc (a1 + 1) lo1 a2 lo2 pl1 st ks fs res (n1 + 1) h (by rw [cl]; exact u2) scr1 (by rw [p1]; exact hnp) GR hd (by omega) (by omega) (by omega) (by omega) hok
            refine ⟨fun v e => ?_, fun ws e ne => ?_⟩
            · have q := MaVal.later (lo := lo) (pl := pl) g2 (c1 v e) (show n ≤ n1 + 1 by omega) (show _ ≤ n + 3 * (l - l') by omega) (by omega) p1 p2
              obtain ⟨v', n', hv, q1, q2, q3⟩ := q
              rw [if_pos cl] at q3
              refine ⟨v', n', hv, q1, q2, ?_⟩
              rw [if_pos cl]
              exact q3
            obtain ⟨n2, e1, e2⟩ := c2 ws e ne
            exact ⟨n2, by omega, g2.ends e2⟩
        · rw [if_neg cl] at y2
          have cl' : last = false := Bool.eq_false_iff.mpr cl
          obtain ⟨u1, u2, u3, u4⟩ := y2
          have l12 := Lay_le u2
          have g2 := g1.trans (un _ u1)
          by_cases ci : i = 0
          · rw [if_pos ci] at h g2
            obtain ⟨c1, c2⟩ := IH gl gm M env tc l2 s2 d last r l' s' np is sc (a2 + 1) lo2 b hi pl1 st ks fs res (n1 + 1) h (by rw [cl']; exact u4) (scr1.mono l12 fun _ _ => rfl) (by rw [p1]; exact hnp) GR hd (by omega) (by omega) (by omega) (by omega) hok
            refine ⟨fun v e => MaVal.later g2 (c1 v e) (by omega) (by omega) (by omega) p1 p2, fun ws e ne => ?_⟩
            obtain ⟨n2, e1, e2⟩ := c2 ws e ne
            exact ⟨n2, by omega, g2.ends e2⟩
          · rw [if_neg ci] at h g2
            obtain ⟨c1, c2⟩ := IH gl gm M env tb l2 s2 d last r l' s' np is sc (a1 + 1) lo1 a2 lo2 pl1 st ks fs res (n1 + 1) h (by rw [cl']; exact u2) scr1 (by rw [p1]; exact hnp) GR hd (by omega) (by omega) (by omega) (by omega) hok
            refine ⟨fun v e => ?_, fun ws e ne => ?_⟩
            · obtain ⟨v', n', hv, q1, q2, q3⟩ := c1 v e
              rw [if_neg cl] at q3
              obtain ⟨pl', p3, p4, g3⟩ := q3
              refine ⟨v', n' + 1, hv, by omega, by omega, ?_⟩
              rw [if_neg cl]
              refine ⟨pl', by rw [p3, p1], fun p hp => (p4 p (by omega)).trans (p2 p hp), (g2.trans g3).trans ⟨1, fun k => runM_step (by show n' < M; omega) u3 (by unfold actM frF; rfl)⟩⟩
            obtain ⟨n2, e1, e2⟩ := c2 ws e ne
            exact ⟨n2, by omega, g2.ends e2⟩
      | _ => cases h
    | call g ts =>
      dsimp only at h
      by_cases lim : ts.length ≤ 60
      case neg => rw [if_neg lim] at h; cases h
      rw [if_pos lim] at h
      unfold Lay at lay
      obtain ⟨a0, lo0, a1, y1, y2, hi1, rfl⟩ := lay
      have ll : LayL np is (g :: ts) sc a lo a1 hi := by
        unfold LayL
        exact ⟨a0, lo0, y1, y2⟩
      cases h2 : evL (fun t l s => evT f gl env t l s d false) (g :: ts) (l - 1) s with
      | none => rw [h2] at h; cases h
      | some q =>
      obtain ⟨r2, l2, s2⟩ := q
      obtain ⟨w3, w4⟩ := evL_le (fun t l s x l' s' e => evT_le f gl env t l s d false x l' s' e) (g :: ts) _ s _ _ _ h2
      rw [h2] at h
      obtain ⟨k1, k2⟩ : (n + 3 * (l - 1 - l2) ≤ M) ∧ True := ⟨by
        have hl2 : l' ≤ l2 := by
          cases r2 with
          | inr ws => cases h; exact Nat.le_refl _
          | inl vs =>
          cases vs with
          | nil => cases h
          | cons called vs =>
          dsimp only at h
          cases hc : chkF called vs.length with
          | some ws => rw [hc] at h; cases h; exact Nat.le_refl _
          | none =>
          rw [hc] at h
          dsimp only at h
          cases called with
          | prim q =>
            dsimp only at h
            cases hp : primF q vs with
            | ok y => rw [hp] at h; cases h; exact Nat.le_refl _
            | error ws => rw [hp] at h; cases h; exact Nat.le_refl _
          | fnP ns b en =>
            dsimp only at h
            by_cases le : en.length + ns.length ≤ 1000000
            case neg => rw [if_neg le] at h; cases h
            rw [if_pos le] at h
            exact (evT_le _ _ _ _ _ _ _ _ _ _ _ h).1
          | _ => cases h
        omega, trivial⟩
      obtain ⟨k1, k2⟩ := args_go (res := res) (M := M) (gm := gm) IH GR hd (by omega) hok (g :: ts) (l - 1) s r2 l2 s2 a lo a1 hi pl st n h2 ll scr hnp hds k1 (by simp only [List.length_cons]; omega)
      cases r2 with
      | inr ws =>
        cases h
        refine ⟨fun vs e => (by cases e), fun ws' e ne => ?_⟩
        cases e
        obtain ⟨n', m1, m2⟩ := k2 _ rfl ne
        exact ⟨n', by omega, m2⟩
      | inl vs =>
      have hvs := evL_len h2
      cases vs with
      | nil => cases h
      | cons called vs =>
      obtain ⟨vs1, n1, pl1, m1, m2, m3, p1, p2, g1⟩ := k1 _ rfl
      cases m1 with
      | @cons _ called' _ vs' hcv hvv =>
      dsimp only at h
      have lv : vs'.length = ts.length := by rw [← hvv.len]; simpa using hvs
      have g1 : MGo ⟨M, gm⟩ ⟨n, s, ⟨is, a, pl, st, ks⟩ :: fs, res⟩ ⟨n1, s2, ⟨is, a1, pl1, vs'.reverse ++ called' :: st, ks⟩ :: fs, res⟩ := by
        rw [List.reverse_cons, List.append_assoc] at g1
        exact g1
      have lsv : vs'.length + 1 + st.length < many := by omega
      -- the frames after the call's instruction, and what enter does there
      have act : ∀ {x : MRes}, entF ⟨n1 + 1, s2, if last = true then fs else ⟨is, a1 + 1, pl1, st, ks⟩ :: fs, res⟩ called' vs' = x → actM gm (if last = true then .tail ts.length else .call ts.length) ⟨n1 + 1, s2, ⟨is, a1 + 1, pl1, vs'.reverse ++ called' :: st, ks⟩ :: fs, res⟩ = x := fun {x} e => by
        by_cases cl : last = true
        · rw [if_pos cl] at e ⊢
          rw [← lv]
          exact (act_tail (m := ⟨M, gm⟩) (by omega) lsv).trans e
        · rw [if_neg cl] at e ⊢
          rw [← lv]
          exact (act_call (m := ⟨M, gm⟩) (by omega) lsv).trans e
      have okG : okF (if last = true then fs else ⟨is, a1 + 1, pl1, st, ks⟩ :: fs) := by
        by_cases cl : last = true
        · rw [if_pos cl]; exact hok
        · rw [if_neg cl]
          intro f r e
          cases e
          exact hs0
      have lenG : (if last = true then fs else (⟨is, a1 + 1, pl1, st, ks⟩ : FS) :: fs).length + 1 = d + if last = true then 0 else 1 := by
        by_cases cl : last = true
        · rw [if_pos cl, if_pos cl]; omega
        · rw [if_neg cl, if_neg cl]; simp only [List.length_cons]; omega
      have lenF : (if last = true then fs else (⟨is, a1 + 1, pl1, st, ks⟩ : FS) :: fs).length + f < many := by
        by_cases cl : last = true
        · rw [if_pos cl]; omega
        · rw [if_neg cl]; simp only [List.length_cons]; omega
      -- a value given to those frames is what MaVal asks
      have fin : ∀ {v v' : Vl} {n' mx : Nat}, VR v v' → n < n' → n' + 1 ≤ mx → MGo ⟨M, gm⟩ ⟨n, s, ⟨is, a, pl, st, ks⟩ :: fs, res⟩ (giveS n' s' (if last = true then fs else ⟨is, a1 + 1, pl1, st, ks⟩ :: fs) res v') → MaVal ⟨M, gm⟩ ⟨n, s, ⟨is, a, pl, st, ks⟩ :: fs, res⟩ last is (a1 + 1) pl st ks fs res lo n mx s' v := fun {v v' n' mx} hv q1 q2 g => by
        refine ⟨v', n', hv, q1, q2, ?_⟩
        by_cases cl : last = true
        · rw [if_pos cl] at g ⊢
          exact g
        · rw [if_neg cl] at g ⊢
          exact ⟨pl1, p1, p2, g⟩
      have hck : chkF called' vs'.length = chkF called vs.length := by rw [hvv.len]; exact (chk_VR hcv).symm
      cases hc : chkF called vs.length with
      | some ws =>
        rw [hc] at h hck
        cases h
        refine ⟨fun v e => (by cases e), fun ws' e ne => ?_⟩
        cases e
        refine ⟨n1 + 1, by omega, g1.ends ⟨1, fun k => runM_err (by show n1 < M; omega) hi1 (act ?_)⟩⟩
        unfold entF
        rw [hck]
      | none =>
      rw [hc] at h hck
      dsimp only at h
      cases hcv with
      | int i => cases h
      | pair _ _ => cases h
      | prim q =>
        dsimp only at h
        obtain ⟨b1, b2⟩ := prim_VR (q := q) hvv
        cases hp : primF q vs with
        | error ws =>
          rw [hp] at h
          cases h
          refine ⟨fun v e => (by cases e), fun ws' e ne => ?_⟩
          cases e
          refine ⟨n1 + 1, by omega, g1.ends ⟨1, fun k => runM_err (by show n1 < M; omega) hi1 (act ?_)⟩⟩
          rw [ent_prim, hck]
          dsimp only
          rw [b2 _ hp]
        | ok y =>
          rw [hp] at h
          cases h
          obtain ⟨y', e1, e2⟩ := b1 y hp
          refine ⟨fun v e => ?_, fun ws' e => (by cases e)⟩
          cases e
          refine fin e2 (n' := n1 + 1) (by omega) (by omega) (g1.trans ⟨1, fun k => runM_step (by show n1 < M; omega) hi1 (act ?_)⟩)
          rw [ent_prim, hck]
          dsimp only
          rw [e1]
          exact giveF_ok okG
      | @fn ns bd en pc js b' hi' kk lpc lb hkl hex hkk =>
        dsimp only at h
        by_cases le : en.length + ns.length ≤ 1000000
        case neg => rw [if_neg le] at h; cases h
        rw [if_pos le] at h
        have nsl := chk_fn hc
        have hl2 := (evT_le _ _ _ _ _ _ _ _ _ _ _ h).1
        have g2 : MGo ⟨M, gm⟩ ⟨n1, s2, ⟨is, a1, pl1, vs'.reverse ++ .fnM (.mk ns.length pc js) kk :: st, ks⟩ :: fs, res⟩ ⟨n1 + 1, max s2 (d + if last = true then 0 else 1), ⟨js, 0, vs' ++ List.replicate (pc - vs'.length) (.int 0), [], kk⟩ :: (if last = true then fs else ⟨is, a1 + 1, pl1, st, ks⟩ :: fs), res⟩ := ⟨1, fun k => runM_step (by show n1 < M; omega) hi1 (act (by
          unfold entF
          rw [hck]
          dsimp only
          unfold addF
          dsimp only
          rw [lenG, if_pos ⟨lpc, by omega, by omega⟩]
          rfl))⟩
        have scb := ScR_fn (l := pc) hkl hex hkk hvv nsl (List.replicate (pc - vs'.length) (.int 0))
        obtain ⟨c1, c2⟩ := IH gl gm M _ bd l2 _ _ true r l' s' pc js _ 0 ns.length b' hi' (vs' ++ List.replicate (pc - vs'.length) (.int 0)) [] kk (if last = true then fs else ⟨is, a1 + 1, pl1, st, ks⟩ :: fs) res (n1 + 1) h lb scb (by rw [List.length_append, List.length_replicate]; omega) GR lenG.symm (Nat.le_max_right _ _) (by omega) (by show 0 + 64 * f < many; omega) lenF okG
        have g12 := g1.trans g2
        refine ⟨fun v e => ?_, fun ws e ne => ?_⟩
        · obtain ⟨v', n', hv, q1, q2, q3⟩ := c1 v e
          rw [if_pos rfl] at q3
          exact fin hv (by omega) (by omega) (g12.trans q3)
        · obtain ⟨n2, e1, e2⟩ := c2 ws e ne
          exact ⟨n2, by omega, g12.ends e2⟩
end My
namespace My
open PySem PySem.Spec PyProof.Rows L2 TL
/-! ### what the writing of a draft lays down -/
def labs : List Pc → List Nat
  | [] => []
  | .label n :: r => n :: labs r
  | .tree _ _ _ :: r => labs r
  | .write _ :: r => labs r
theorem labs_app : ∀ (x y : List Pc), labs (x ++ y) = labs x ++ labs y
  | [], y => rfl
  | .label n :: r, y => congrArg (n :: ·) (labs_app r y)
  | .tree _ _ _ :: r, y => labs_app r y
  | .write _ :: r, y => labs_app r y
theorem labs_leafP (d : DIn) (last : Bool) : labs (leafP d last) = [] := by
  unfold leafP
  split <;> rfl
theorem labs_letPs (sc : Sc) : ∀ (ts : List Tr) (f : Nat), labs (letPs sc f ts) = []
  | [], _ => rfl
  | t :: ts, f => labs_letPs sc ts (f + 1)
theorem labs_letP (ns : List Int) (ts : List Tr) (b : Tr) (f : Nat) (sc : Sc) (last : Bool) : labs (letP ns ts b f sc last) = [] := by
  unfold letP
  rw [labs_app, labs_letPs]
  rfl
theorem labs_trees (sc : Sc) : ∀ ts : List Tr, labs (ts.map fun t => Pc.tree t sc false) = []
  | [] => rfl
  | t :: ts => labs_trees sc ts
theorem labs_callP (f : Tr) (ts : List Tr) (sc : Sc) (last : Bool) : labs (callP f ts sc last) = [] := by
  unfold callP
  rw [labs_app, labs_trees]
  rfl
/-- what a step of the writing keeps -/
structure StF (w w' : WSt) (p : Pc) : Prop where
  l : w.l ≤ w'.l
  ins : ∃ m, w'.ins = w.ins ++ m
  news : ∃ m, w'.news = w.news ++ m
  tl : w.tgs.length ≤ w'.tgs.length
  rest : ∃ e, w'.rest = e ++ w.rest ∧ (labs e).Nodup ∧ ∀ n ∈ labs e, w.tgs.length ≤ n ∧ n < w'.tgs.length
  tg : ∀ n, n < w.tgs.length → p ≠ .label n → w'.tgs[n]? = w.tgs[n]?
theorem stF {at_ : Nat} {w w' : WSt} {p : Pc} (h : wrStep at_ w p = some w') : StF w w' p := by
  have leaf : ∀ {d : DIn} {last : Bool} {ne : List DSt}, w' = { w with rest := leafP d last ++ w.rest, news := w.news ++ ne } → StF w w' p := fun {d last ne} e => by
    subst e
    exact ⟨Nat.le_refl _, ⟨[], by simp⟩, ⟨ne, rfl⟩, Nat.le_refl _, ⟨_, rfl, by rw [labs_leafP]; exact List.nodup_nil, by rw [labs_leafP]; intro n m; cases m⟩, fun _ _ _ => rfl⟩
  have leaf0 : ∀ {d : DIn} {last : Bool}, w' = { w with rest := leafP d last ++ w.rest } → StF w w' p := fun {d last} e => leaf (d := d) (last := last) (ne := []) (by rw [e]; simp)
  cases p with
  | write d =>
    obtain ⟨_, rfl⟩ := gate_ok h
    exact ⟨Nat.le_refl _, ⟨_, rfl⟩, ⟨[], by simp⟩, Nat.le_refl _, ⟨[], rfl, List.nodup_nil, fun n m => by cases m⟩, fun _ _ _ => rfl⟩
  | label n =>
    obtain ⟨ln, rfl⟩ := gate_ok h
    exact ⟨Nat.le_refl _, ⟨[], by simp⟩, ⟨[], by simp⟩, by simp, ⟨[], rfl, List.nodup_nil, fun n m => by cases m⟩, fun j _ ne => by
      dsimp only
      rw [List.getElem?_set_ne]
      exact fun e => ne (by rw [e])⟩
  | tree t sc last =>
    cases t with
    | int i => cases h; exact leaf0 rfl
    | prim q => cases h; exact leaf0 rfl
    | glob m x => cases h; exact leaf0 rfl
    | loc n =>
      unfold wrStep at h
      dsimp only at h
      cases hs : scGet n sc with
      | none => rw [hs] at h; cases h
      | some s => rw [hs] at h; cases h; exact leaf0 rfl
    | fn ns b =>
      unfold wrStep at h
      dsimp only at h
      cases hs : ssOf sc (outT (.fn ns b)) with
      | none => rw [hs] at h; cases h
      | some ss =>
        rw [hs] at h
        obtain ⟨_, rfl⟩ := gate_ok h
        exact leaf rfl
    | let_ ns ts b =>
      obtain ⟨_, rfl⟩ := gate_ok h
      exact ⟨Nat.le_add_right _ _, ⟨[], by simp⟩, ⟨[], by simp⟩, Nat.le_refl _, ⟨_, rfl, by rw [labs_letP]; exact List.nodup_nil, by rw [labs_letP]; intro n m; cases m⟩, fun _ _ _ => rfl⟩
    | call f ts =>
      cases h
      exact ⟨Nat.le_refl _, ⟨[], by simp⟩, ⟨[], by simp⟩, Nat.le_refl _, ⟨_, rfl, by rw [labs_callP]; exact List.nodup_nil, by rw [labs_callP]; intro n m; cases m⟩, fun _ _ _ => rfl⟩
    | if_ a b c =>
      obtain ⟨_, rfl⟩ := gate_ok h
      cases last with
      | true =>
        refine ⟨Nat.le_refl _, ⟨[], by simp⟩, ⟨[], by simp⟩, by simp [ifG], ⟨_, rfl, by simp [ifP, labs], fun n m => ?_⟩, fun n hn _ => ?_⟩
        · simp [ifP, labs] at m
          simp [ifG]
          omega
        · show (w.tgs ++ [none])[n]? = _
          exact List.getElem?_append_left hn
      | false =>
        refine ⟨Nat.le_refl _, ⟨[], by simp⟩, ⟨[], by simp⟩, by simp [ifG], ⟨_, rfl, by simp [ifP, labs], fun n m => ?_⟩, fun n hn _ => ?_⟩
        · simp [ifP, labs] at m
          simp [ifG]
          omega
        · show (w.tgs ++ [none] ++ [none])[n]? = _
          rw [List.append_assoc]
          exact List.getElem?_append_left hn
def LabOk (w : WSt) : Prop := (labs w.rest).Nodup ∧ ∀ n ∈ labs w.rest, n < w.tgs.length
theorem LabOk.step {w w' : WSt} {p : Pc} (f : StF w w' p) (h : (labs (p :: w.rest)).Nodup ∧ ∀ n ∈ labs (p :: w.rest), n < w.tgs.length) : LabOk w' := by
  have h' : (labs w.rest).Nodup ∧ ∀ n ∈ labs w.rest, n < w.tgs.length := by
    cases p with
    | label n => exact ⟨(List.nodup_cons.mp h.1).2, fun m z => h.2 m (List.mem_cons_of_mem _ z)⟩
    | tree _ _ _ => exact h
    | write _ => exact h
  obtain ⟨e, e1, e2, e3⟩ := f.rest
  unfold LabOk
  rw [e1, labs_app]
  refine ⟨List.nodup_append.mpr ⟨e2, h'.1, fun a ha b hb z => ?_⟩, fun n m => ?_⟩
  · have := (e3 a ha).1
    have := h'.2 b hb
    omega
  · rcases List.mem_append.mp m with m | m
    · exact (e3 n m).2
    · exact Nat.lt_of_lt_of_le (h'.2 n m) f.tl
/-- what the whole writing keeps -/
structure WrF (w w' : WSt) : Prop where
  l : w.l ≤ w'.l
  ins : ∃ m, w'.ins = w.ins ++ m
  news : ∃ m, w'.news = w.news ++ m
  tl : w.tgs.length ≤ w'.tgs.length
  tg : ∀ n, n < w.tgs.length → n ∉ labs w.rest → w'.tgs[n]? = w.tgs[n]?
theorem wrF_cons {at_ k : Nat} {w w' : WSt} {p : Pc} {r : List Pc} (e : w.rest = p :: r) (h : wrF at_ (k + 1) w = some w') : ∃ w1, wrStep at_ { w with rest := r } p = some w1 ∧ wrF at_ k w1 = some w' := by
  unfold wrF at h
  rw [e] at h
  dsimp only at h
  split at h
  · cases h1 : wrStep at_ { w with rest := r } p with
    | none => rw [h1] at h; cases h
    | some w1 => rw [h1] at h; exact ⟨w1, rfl, h⟩
  · cases h
theorem wrF_facts {at_ : Nat} : ∀ (k : Nat) (w w' : WSt), wrF at_ k w = some w' → WrF w w'
  | 0, w, w', h => by cases h
  | k + 1, w, w', h => by
    cases e : w.rest with
    | nil =>
      unfold wrF at h
      rw [e] at h
      cases h
      exact ⟨Nat.le_refl _, ⟨[], by simp⟩, ⟨[], by simp⟩, Nat.le_refl _, fun _ _ _ => rfl⟩
    | cons p r =>
      obtain ⟨w1, h1, h2⟩ := wrF_cons e h
      have f1 := stF h1
      have f2 := wrF_facts k w1 w' h2
      obtain ⟨m1, i1⟩ := f1.ins
      obtain ⟨m2, i2⟩ := f2.ins
      obtain ⟨n1, j1⟩ := f1.news
      obtain ⟨n2, j2⟩ := f2.news
      obtain ⟨ex, x1, x2, x3⟩ := f1.rest
      refine ⟨Nat.le_trans f1.l f2.l, ⟨m1 ++ m2, by rw [i2, i1, List.append_assoc]⟩, ⟨n1 ++ n2, by rw [j2, j1, List.append_assoc]⟩, Nat.le_trans f1.tl f2.tl, fun n hn nm => ?_⟩
      rw [e] at nm
      have hn' : n < w1.tgs.length := Nat.lt_of_lt_of_le hn f1.tl
      have nr : n ∉ labs r := fun z => nm (by cases p with | label j => exact List.mem_cons_of_mem _ z | tree _ _ _ => exact z | write _ => exact z)
      have np : p ≠ .label n := fun z => nm (by rw [z]; exact List.mem_cons_self)
      refine (f2.tg n hn' ?_).trans (f1.tg n hn np)
      rw [x1, labs_app]
      intro z
      rcases List.mem_append.mp z with z | z
      · have := (x3 n z).1
        have hn : n < w.tgs.length := hn
        have this : w.tgs.length ≤ n := this
        omega
      · exact nr z
/-- pieces one after another in the final code -/
def PLay (np : Nat) (is : List Ins) (tgs : List (Option Nat)) (cs : Nat → Option Code) : List Pc → Nat → Nat → Nat → Nat → Prop
  | [], a, lo, b, hi => b = a ∧ hi = lo
  | .write d :: r, a, lo, b, hi => (∃ i, finI tgs cs d = some i ∧ is[a]? = some i) ∧ PLay np is tgs cs r (a + 1) lo b hi
  | .label n :: r, a, lo, b, hi => tgs[n]? = some (some a) ∧ PLay np is tgs cs r a lo b hi
  | .tree t sc last :: r, a, lo, b, hi => ∃ a1 lo1, Lay np is t sc last a lo a1 lo1 ∧ PLay np is tgs cs r a1 lo1 b hi
section
variable {np : Nat} {is : List Ins} {tgs : List (Option Nat)} {cs : Nat → Option Code}
theorem PLay.split : ∀ {x y : List Pc} {a lo b hi : Nat}, PLay np is tgs cs (x ++ y) a lo b hi → ∃ a1 lo1, PLay np is tgs cs x a lo a1 lo1 ∧ PLay np is tgs cs y a1 lo1 b hi
  | [], y, a, lo, b, hi, h => ⟨a, lo, ⟨rfl, rfl⟩, h⟩
  | .write d :: x, y, a, lo, b, hi, h => by
    obtain ⟨h1, h2⟩ := h
    obtain ⟨a1, lo1, g1, g2⟩ := PLay.split h2
    exact ⟨a1, lo1, ⟨h1, g1⟩, g2⟩
  | .label n :: x, y, a, lo, b, hi, h => by
    obtain ⟨h1, h2⟩ := h
    obtain ⟨a1, lo1, g1, g2⟩ := PLay.split h2
    exact ⟨a1, lo1, ⟨h1, g1⟩, g2⟩
  | .tree t sc last :: x, y, a, lo, b, hi, h => by
    obtain ⟨a2, lo2, h1, h2⟩ := h
    obtain ⟨a1, lo1, g1, g2⟩ := PLay.split h2
    exact ⟨a1, lo1, ⟨a2, lo2, h1, g1⟩, g2⟩
theorem PLay.leaf {d : DIn} {i : Ins} {last : Bool} {a lo b hi : Nat} (h : PLay np is tgs cs (leafP d last) a lo b hi) (hi' : finI tgs cs d = some i) : Leaf is i last a b ∧ hi = lo := by
  unfold leafP at h
  by_cases c : last = true
  · rw [if_pos c] at h
    obtain ⟨⟨i1, e1, e2⟩, ⟨i2, e3, e4⟩, rfl, rfl⟩ := h
    rw [hi'] at e1
    cases e1
    cases e3
    exact ⟨⟨e2, by rw [if_pos c]; exact ⟨e4, rfl⟩⟩, rfl⟩
  · rw [if_neg c] at h
    obtain ⟨⟨i1, e1, e2⟩, rfl, rfl⟩ := h
    rw [hi'] at e1
    cases e1
    exact ⟨⟨e2, by rw [if_neg c]⟩, rfl⟩
theorem PLay.lets {sc : Sc} : ∀ {ts : List Tr} {f a lo b hi : Nat}, PLay np is tgs cs (letPs sc f ts) a lo b hi → LayLet np is ts sc f a lo b hi
  | [], f, a, lo, b, hi, h => by unfold LayLet; exact h
  | t :: ts, f, a, lo, b, hi, h => by
    obtain ⟨a1, lo1, h1, ⟨i, e1, e2⟩, h2⟩ := h
    cases e1
    unfold LayLet
    exact ⟨a1, lo1, h1, e2, PLay.lets h2⟩
theorem PLay.trees {sc : Sc} : ∀ {ts : List Tr} {a lo b hi : Nat}, PLay np is tgs cs (ts.map fun t => Pc.tree t sc false) a lo b hi → LayL np is ts sc a lo b hi
  | [], a, lo, b, hi, h => by unfold LayL; exact h
  | t :: ts, a, lo, b, hi, h => by
    obtain ⟨a1, lo1, h1, h2⟩ := h
    unfold LayL
    exact ⟨a1, lo1, h1, PLay.trees h2⟩
end
end My
namespace My
open PySem PySem.Spec PyProof.Rows L2 TL
/-! ### the draft's pieces lie in the final code -/
section
variable {np at_ : Nat} {is : List Ins} {cs : Nat → Option Code} {w' : WSt}
theorem wr_lay (hnp : w'.l ≤ np) (hfin : finC w'.tgs cs w'.ins = some is) (hcs : ∀ (j : Nat) (d : DSt), w'.news[j]? = some d → ∃ l js b' hi', cs (at_ + j) = some (.mk d.p l js) ∧ l ≤ many ∧ Lay l js d.t d.sc true 0 d.p b' hi') :
    ∀ (k : Nat) (w : WSt), wrF at_ k w = some w' → LabOk w → PLay np is w'.tgs cs w.rest w.ins.length w.l w'.ins.length w'.l
  | 0, w, h, _ => by cases h
  | k + 1, w, h, lab => by
    cases e : w.rest with
    | nil =>
      unfold wrF at h
      rw [e] at h
      cases h
      exact ⟨rfl, rfl⟩
    | cons p r =>
      obtain ⟨w1, h1, h2⟩ := wrF_cons e h
      have f1 := stF h1
      have f2 := wrF_facts k w1 w' h2
      have lab0 := lab
      unfold LabOk at lab
      rw [e] at lab
      have lab1 : LabOk w1 := LabOk.step f1 lab
      have IH := wr_lay hnp hfin hcs k w1 h2 lab1
      have leaf : ∀ {d : DIn} {last : Bool} {i : Ins}, w1.rest = leafP d last ++ r → w1.ins = w.ins → w1.l = w.l → finI w'.tgs cs d = some i → ∃ a1 lo1, (Leaf is i last w.ins.length a1 ∧ lo1 = w.l) ∧ PLay np is w'.tgs cs r a1 lo1 w'.ins.length w'.l := fun {d last i} e1 e2 e3 e4 => by
        rw [e1, e2, e3] at IH
        obtain ⟨a1, lo1, g1, g2⟩ := PLay.split IH
        exact ⟨a1, lo1, g1.leaf e4, g2⟩
      cases p with
      | write d =>
        obtain ⟨_, rfl⟩ := gate_ok h1
        obtain ⟨m, i2⟩ := f2.ins
        have hd : w'.ins[w.ins.length]? = some d := by
          rw [i2, List.append_assoc, List.getElem?_append_right (Nat.le_refl _), Nat.sub_self]
          rfl
        refine ⟨finC_at hfin hd, ?_⟩
        have e3 : (w.ins ++ [d]).length = w.ins.length + 1 := by simp
        rw [← e3]
        exact IH
      | label n =>
        obtain ⟨ln, rfl⟩ := gate_ok h1
        refine ⟨?_, IH⟩
        have nr : n ∉ labs r := (List.nodup_cons.mp lab.1).1
        rw [f2.tg n (by simpa using ln) nr]
        exact List.getElem?_set_self ln
      | tree t sc last =>
        cases t with
        | int i =>
          cases h1
          obtain ⟨a1, lo1, g1, g2⟩ := leaf (i := .int i) rfl rfl rfl rfl
          exact ⟨a1, lo1, by unfold Lay; exact g1, g2⟩
        | prim q =>
          cases h1
          obtain ⟨a1, lo1, g1, g2⟩ := leaf (i := .prim q) rfl rfl rfl rfl
          exact ⟨a1, lo1, by unfold Lay; exact g1, g2⟩
        | glob m x =>
          cases h1
          obtain ⟨a1, lo1, g1, g2⟩ := leaf (i := .glob m x) rfl rfl rfl rfl
          exact ⟨a1, lo1, by unfold Lay; exact g1, g2⟩
        | loc n =>
          unfold wrStep at h1
          dsimp only at h1
          cases hs : scGet n sc with
          | none => rw [hs] at h1; cases h1
          | some s =>
            rw [hs] at h1
            cases h1
            obtain ⟨a1, lo1, g1, g2⟩ := leaf (i := .src s) rfl rfl rfl rfl
            exact ⟨a1, lo1, by unfold Lay; exact ⟨s, hs, g1⟩, g2⟩
        | fn ns b =>
          unfold wrStep at h1
          dsimp only at h1
          cases hs : ssOf sc (outT (.fn ns b)) with
          | none => rw [hs] at h1; cases h1
          | some ss =>
            rw [hs] at h1
            obtain ⟨lim, rfl⟩ := gate_ok h1
            obtain ⟨m, i2⟩ := f2.news
            have hd : w'.news[w.news.length]? = some ⟨ns.length, ns.length, [], [], b, fnSc (.fn ns b)⟩ := by
              rw [i2, List.append_assoc, List.getElem?_append_right (Nat.le_refl _), Nat.sub_self]
              rfl
            obtain ⟨pl, js, b', hi', c1, c2, c3⟩ := hcs _ _ hd
            obtain ⟨a1, lo1, ⟨g1, g0⟩, g2⟩ := leaf (d := .fn (at_ + w.news.length) ss) (i := .fn (.mk ns.length pl js) ss) rfl rfl rfl (by rw [finI_fn, c1]; rfl)
            have lss := ssOf_len hs
            have m6 : many = 1000000 := rfl
            exact ⟨a1, lo1, by unfold Lay; exact ⟨pl, js, ss, b', hi', g1, g0, hs, by omega, c2, c3⟩, g2⟩
        | let_ ns ts b =>
          obtain ⟨_, rfl⟩ := gate_ok h1
          obtain ⟨a1, lo1, g1, g2⟩ := PLay.split (x := letP ns ts b w.l sc last) IH
          unfold letP at g1
          obtain ⟨a2, lo2, g3, g4⟩ := PLay.split g1
          obtain ⟨a3, lo3, g5, g6, g7⟩ := g4
          rw [g6, g7] at g2
          have := f2.l
          refine ⟨a3, lo3, ?_, g2⟩
          unfold Lay
          exact ⟨a2, lo2, Nat.le_trans this hnp, g3.lets, g5⟩
        | call f ts =>
          cases h1
          obtain ⟨a1, lo1, g1, g2⟩ := PLay.split (x := callP f ts sc last) IH
          unfold callP at g1
          obtain ⟨a2, lo2, g3, g4⟩ := PLay.split g1
          obtain ⟨⟨i, e1, e2⟩, g6, g7⟩ := g4
          have g5 := g3.trees
          unfold LayL at g5
          obtain ⟨a0, lo0, g8, g9⟩ := g5
          refine ⟨a1, lo1, ?_, g2⟩
          unfold Lay
          refine ⟨a0, lo0, a2, g8, by rw [g7]; exact g9, ?_, g6⟩
          rw [e2]
          cases last <;> (cases e1; rfl)
        | if_ a b c =>
          obtain ⟨_, rfl⟩ := gate_ok h1
          obtain ⟨a1, lo1, g1, g2⟩ := PLay.split (x := ifP a b c sc last w.tgs.length) IH
          refine ⟨a1, lo1, ?_, g2⟩
          unfold Lay
          cases last with
          | true =>
            unfold ifP at g1
            rw [if_pos rfl] at g1
            obtain ⟨b1, m1, La, ⟨i, e1, e2⟩, b2, m2, Lb, lb, b3, m3, Lc, e3, e4⟩ := g1
            subst e3
            subst e4
            refine ⟨b1, m1, b2, m2, La, ?_⟩
            rw [if_pos rfl]
            have fu : finI w'.tgs cs (.unless w.tgs.length) = some (.unless b2) := by rw [finI_unless, lb]
            rw [fu] at e1
            cases e1
            exact ⟨e2, Lb, Lc⟩
          | false =>
            unfold ifP at g1
            rw [if_neg Bool.false_ne_true] at g1
            obtain ⟨b1, m1, La, ⟨i, e1, e2⟩, b2, m2, Lb, ⟨i2, e5, e6⟩, lb, b3, m3, Lc, lb2, e3, e4⟩ := g1
            subst e3
            subst e4
            refine ⟨b1, m1, b2, m2, La, ?_⟩
            rw [if_neg Bool.false_ne_true]
            have fu : finI w'.tgs cs (.unless w.tgs.length) = some (.unless (b2 + 1)) := by rw [finI_unless, lb]
            rw [fu] at e1
            cases e1
            have fj : finI w'.tgs cs (.jump (w.tgs.length + 1)) = some (.jump a1) := by rw [finI_jump, lb2]
            rw [fj] at e5
            cases e5
            exact ⟨e2, Lb, e6, Lc⟩
end
end My
namespace My
open PySem PySem.Spec PyProof.Rows L2 TL
/-! ### every compiled tree lies in its code -/
def Fresh (d : DSt) : Prop := d.l = d.p ∧ d.ins = [] ∧ d.tgs = []
theorem wrF_fresh {at_ : Nat} : ∀ (k : Nat) (w w' : WSt), wrF at_ k w = some w' → (∀ e ∈ w.news, Fresh e) → ∀ e ∈ w'.news, Fresh e
  | 0, w, w', h => by cases h
  | k + 1, w, w', h => fun hn => by
    cases e : w.rest with
    | nil =>
      unfold wrF at h
      rw [e] at h
      cases h
      exact hn
    | cons p r =>
      obtain ⟨w1, h1, h2⟩ := wrF_cons e h
      refine wrF_fresh k w1 w' h2 ?_
      have same : w1.news = w.news → ∀ e ∈ w1.news, Fresh e := fun q => by rw [q]; exact hn
      cases p with
      | write d => obtain ⟨_, rfl⟩ := gate_ok h1; exact same rfl
      | label n => obtain ⟨_, rfl⟩ := gate_ok h1; exact same rfl
      | tree t sc last =>
        cases t with
        | int i => cases h1; exact same rfl
        | prim q => cases h1; exact same rfl
        | glob m x => cases h1; exact same rfl
        | loc n =>
          unfold wrStep at h1
          dsimp only at h1
          cases hs : scGet n sc with
          | none => rw [hs] at h1; cases h1
          | some s => rw [hs] at h1; cases h1; exact same rfl
        | fn ns b =>
          unfold wrStep at h1
          dsimp only at h1
          cases hs : ssOf sc (outT (.fn ns b)) with
          | none => rw [hs] at h1; cases h1
          | some ss =>
            rw [hs] at h1
            obtain ⟨_, rfl⟩ := gate_ok h1
            intro e m
            rcases List.mem_append.mp m with m | m
            · exact hn e m
            · rw [List.mem_singleton.mp m]
              exact ⟨rfl, rfl, rfl⟩
        | let_ ns ts b => obtain ⟨_, rfl⟩ := gate_ok h1; exact same rfl
        | call f ts => cases h1; exact same rfl
        | if_ a b c => obtain ⟨_, rfl⟩ := gate_ok h1; exact same rfl
/-- the draft at idx is written, and those that it makes stand behind it -/
def WrAt (ds : List DSt) (k idx : Nat) : Prop := ∃ (d : DSt) (w : WSt) (at_ : Nat), Fresh d ∧ wrD at_ k d = some w ∧ ds[idx]? = some { d with l := w.l, ins := w.ins, tgs := w.tgs } ∧ idx < at_ ∧
  ∀ (j : Nat) (e : DSt), w.news[j]? = some e → ∃ e', ds[at_ + j]? = some e' ∧ e'.p = e.p ∧ e'.t = e.t ∧ e'.sc = e.sc
theorem wrAll_facts {k : Nat} : ∀ (n : Nat) (done rest ds : List DSt), wrAll k n done rest = some ds → (∀ e ∈ rest, Fresh e) →
    (∀ (j : Nat) (d : DSt), done[j]? = some d → ds[j]? = some d) ∧ (∀ (i : Nat) (d : DSt), rest[i]? = some d → ∃ d', ds[done.length + i]? = some d' ∧ d'.p = d.p ∧ d'.t = d.t ∧ d'.sc = d.sc) ∧ (∀ idx, done.length ≤ idx → idx < ds.length → WrAt ds k idx)
  | 0, done, rest, ds, h, _ => by cases h
  | n + 1, done, [], ds, h, _ => by
    cases h
    exact ⟨fun j d e => e, fun i d e => (by simp at e), fun idx a b => (by omega)⟩
  | n + 1, done, d :: rest, ds, h, hf => by
    unfold wrAll at h
    cases hw : wrD (done.length + 1 + rest.length) k d with
    | none => rw [hw] at h; cases h
    | some w =>
    rw [hw] at h
    dsimp only at h
    have fd := hf d List.mem_cons_self
    have fn : ∀ e ∈ w.news, Fresh e := by
      unfold wrD at hw
      exact wrF_fresh k _ _ hw (fun e m => by cases m)
    obtain ⟨a1, a2, a3⟩ := wrAll_facts n _ _ ds h (fun e m => (List.mem_append.mp m).elim (fun z => hf e (List.mem_cons_of_mem _ z)) (fn e))
    have ld : (done ++ [{ d with l := w.l, ins := w.ins, tgs := w.tgs }]).length = done.length + 1 := by simp
    rw [ld] at a2 a3
    have hd : ds[done.length]? = some { d with l := w.l, ins := w.ins, tgs := w.tgs } := a1 _ _ (by
      rw [List.getElem?_append_right (Nat.le_refl _), Nat.sub_self]
      rfl)
    refine ⟨fun j e he => a1 j e (by
      rw [List.getElem?_append_left (List.getElem?_eq_some_iff.mp he).1]
      exact he), fun i e he => ?_, fun idx i1 i2 => ?_⟩
    · cases i with
      | zero =>
        cases he
        exact ⟨_, hd, rfl, rfl, rfl⟩
      | succ i =>
        have he : rest[i]? = some e := by simpa using he
        rw [show done.length + (i + 1) = done.length + 1 + i by omega]
        exact a2 i e (by
          rw [List.getElem?_append_left (List.getElem?_eq_some_iff.mp he).1]
          exact he)
    · by_cases c : idx = done.length
      · subst c
        refine ⟨d, w, _, fd, hw, hd, by omega, fun j e he => ?_⟩
        obtain ⟨e', b1, b2⟩ := a2 (rest.length + j) e (by
          rw [List.getElem?_append_right (Nat.le_add_right _ _), Nat.add_sub_cancel_left]
          exact he)
        refine ⟨e', ?_, b2⟩
        rw [show done.length + 1 + rest.length + j = done.length + 1 + (rest.length + j) by omega]
        exact b1
      · exact a3 idx (by omega) i2
/-- the codes from i on are right -/
def Good (ds : List DSt) (cs : Nat → Option Code) (i : Nat) : Prop := ∀ (j : Nat) (d : DSt), i ≤ j → ds[j]? = some d → ∃ l js b' hi', cs j = some (.mk d.p l js) ∧ l ≤ many ∧ Lay l js d.t d.sc true 0 d.p b' hi'
theorem codesF_good {ds : List DSt} {k : Nat} (hw : ∀ idx, idx < ds.length → WrAt ds k idx) (hl : ∀ d ∈ ds, d.l ≤ many) : ∀ (i : Nat) (cs cs' : Nat → Option Code), i ≤ ds.length → codesF ds i cs = some cs' → Good ds cs i → Good ds cs' 0
  | 0, cs, cs', _, h, g => by cases h; exact g
  | i + 1, cs, cs', hi, h, g => by
    unfold codesF at h
    cases hd : ds[i]? with
    | none => rw [hd] at h; cases h
    | some d =>
    rw [hd] at h
    dsimp only at h
    split at h
    case isFalse => cases h
    cases hc : finC d.tgs cs d.ins with
    | none => rw [hc] at h; cases h
    | some is =>
    rw [hc] at h
    refine codesF_good hw hl i _ cs' (by omega) h fun j e hj he => ?_
    by_cases c : j = i
    · subst c
      rw [hd] at he
      cases he
      obtain ⟨d0, w, at_, ⟨f1, f2, f3⟩, hwd, hds, hlt, hn⟩ := hw j (by omega)
      rw [hd] at hds
      have ed : d = { d0 with l := w.l, ins := w.ins, tgs := w.tgs } := Option.some.inj hds
      have hm := hl d (List.mem_of_getElem? hd)
      unfold wrD at hwd
      rw [f2, f3, f1] at hwd
      have et : d.tgs = w.tgs := by rw [ed]
      have ei : d.ins = w.ins := by rw [ed]
      have el : d.l = w.l := by rw [ed]
      have ep : d.p = d0.p := by rw [ed]
      have ett : d.t = d0.t := by rw [ed]
      have es : d.sc = d0.sc := by rw [ed]
      rw [et, ei] at hc
      have q := wr_lay (np := w.l) (Nat.le_refl _) hc (fun j' e he => by
        obtain ⟨e', b1, b2, b3, b4⟩ := hn j' e he
        obtain ⟨l, js, b', hi', c1, c2, c3⟩ := g (at_ + j') e' (by omega) b1
        rw [b2] at c1 c3
        rw [b3, b4] at c3
        exact ⟨l, js, b', hi', c1, c2, c3⟩) k _ hwd ⟨List.nodup_nil, fun n m => by cases m⟩
      obtain ⟨a1, lo1, q1, _⟩ := q
      refine ⟨w.l, is, a1, lo1, ?_, by rw [← el]; exact hm, ?_⟩
      · show (if j = j then some (Code.mk d.p d.l is) else cs j) = _
        rw [if_pos rfl, el]
      · rw [ett, es, ep]
        exact q1
    · obtain ⟨l, js, b', hi', c1, c2⟩ := g j e (by omega) he
      exact ⟨l, js, b', hi', by
        show (if j = i then some (Code.mk d.p d.l is) else cs j) = _
        rw [if_neg c]
        exact c1, c2⟩
/-- a compiled tree lies in its code -/
theorem comp_lay {k n : Nat} {t : Tr} {c : Code} (h : compF k n t = some c) (hl : ∀ ds, wrAll k n [] [⟨0, 0, [], [], t, []⟩] = some ds → ∀ d ∈ ds, d.l ≤ many) : ∃ l is b hi, c = .mk 0 l is ∧ l ≤ many ∧ Lay l is t [] true 0 0 b hi := by
  unfold compF at h
  cases hw : wrAll k n [] [⟨0, 0, [], [], t, []⟩] with
  | none => rw [hw] at h; cases h
  | some ds =>
  rw [hw] at h
  dsimp only at h
  split at h
  case isFalse => cases h
  cases hc : codesF ds ds.length (fun _ => none) with
  | none => rw [hc] at h; cases h
  | some cs =>
  rw [hc] at h
  dsimp only at h
  obtain ⟨_, a2, a3⟩ := wrAll_facts n [] _ ds hw (fun e m => by rw [List.mem_singleton.mp m]; exact ⟨rfl, rfl, rfl⟩)
  have g := codesF_good (fun idx hi => a3 idx (Nat.zero_le _) hi) (hl ds hw) ds.length _ cs (Nat.le_refl _) hc (fun j d hj hd => by
    have := (List.getElem?_eq_some_iff.mp hd).1
    omega)
  obtain ⟨d', b1, b2, b3, b4⟩ := a2 0 _ rfl
  obtain ⟨l, js, b', hi', c1, c2, c3⟩ := g 0 d' (Nat.le_refl _) b1
  rw [c1] at h
  cases h
  rw [b2, b3, b4] at c3
  rw [b2]
  exact ⟨l, js, b', hi', rfl, c2, c3⟩
end My
namespace My
open PySem PySem.Spec PyProof.Rows L2 TL
/-! ### the numbers that a function keeps are its free ones -/
mutual
def fv (x : Int) : Tr → Prop
  | .loc n => n = x
  | .fn ns b => fv x b ∧ x ∉ ns
  | .let_ ns ts b => fvs x ts ∨ (fv x b ∧ x ∉ ns)
  | .if_ a b c => fv x a ∨ fv x b ∨ fv x c
  | .call f ts => fv x f ∨ fvs x ts
  | _ => False
def fvs (x : Int) : List Tr → Prop
  | [] => False
  | t :: ts => fv x t ∨ fvs x ts
end
theorem fvs_mem {x : Int} : ∀ {ts : List Tr}, fvs x ts ↔ ∃ t ∈ ts, fv x t
  | [] => ⟨fun h => (by unfold fvs at h; exact h.elim), fun ⟨t, m, _⟩ => (by cases m)⟩
  | t :: ts => by
    unfold fvs
    rw [fvs_mem]
    constructor
    · rintro (h | ⟨u, m, h⟩)
      · exact ⟨t, List.mem_cons_self, h⟩
      · exact ⟨u, List.mem_cons_of_mem _ m, h⟩
    · rintro ⟨u, m, h⟩
      rcases List.mem_cons.mp m with e | m
      · rw [e] at h; exact .inl h
      · exact .inr ⟨u, m, h⟩
theorem fvs_pairs {x : Int} {kn : List Int} {ts : List Tr} : (∃ p ∈ ts.map (fun t => (t, kn)), fv x p.1 ∧ x ∉ p.2) ↔ fvs x ts ∧ x ∉ kn := by
  rw [fvs_mem]
  constructor
  · rintro ⟨p, m, h1, h2⟩
    obtain ⟨t, mt, rfl⟩ := List.mem_map.mp m
    exact ⟨⟨t, mt, h1⟩, h2⟩
  · rintro ⟨⟨t, mt, h1⟩, h2⟩
    exact ⟨(t, kn), List.mem_map.mpr ⟨t, mt, rfl⟩, h1, h2⟩
theorem ex_app {α : Type} {P : α → Prop} {x y : List α} : (∃ p ∈ x ++ y, P p) ↔ (∃ p ∈ x, P p) ∨ ∃ p ∈ y, P p := by
  constructor
  · rintro ⟨p, m, h⟩
    rcases List.mem_append.mp m with m | m
    · exact .inl ⟨p, m, h⟩
    · exact .inr ⟨p, m, h⟩
  · rintro (⟨p, m, h⟩ | ⟨p, m, h⟩)
    · exact ⟨p, List.mem_append_left _ m, h⟩
    · exact ⟨p, List.mem_append_right _ m, h⟩
theorem ex_cons {α : Type} {P : α → Prop} {a : α} {y : List α} : (∃ p ∈ a :: y, P p) ↔ P a ∨ ∃ p ∈ y, P p := by
  constructor
  · rintro ⟨p, m, h⟩
    rcases List.mem_cons.mp m with e | m
    · rw [e] at h; exact .inl h
    · exact .inr ⟨p, m, h⟩
  · rintro (h | ⟨p, m, h⟩)
    · exact ⟨a, List.mem_cons_self, h⟩
    · exact ⟨p, List.mem_cons_of_mem _ m, h⟩
/-- a part's free numbers are its own and those of its parts -/
theorem fv_kids {x : Int} {t : Tr} {kn : List Int} {found : List Int} : (x ∈ outStep t kn found ∨ ∃ p ∈ kids t kn, fv x p.1 ∧ x ∉ p.2) ↔ (x ∈ found ∨ (fv x t ∧ x ∉ kn)) := by
  have nil : ∀ {P : Tr × List Int → Prop}, (∃ p ∈ ([] : List (Tr × List Int)), P p) ↔ False := ⟨fun ⟨p, m, _⟩ => (by cases m), fun h => h.elim⟩
  cases t with
  | loc n =>
    show (x ∈ (if n ∈ kn then found else insNew n found) ∨ ∃ p ∈ ([] : List (Tr × List Int)), _) ↔ (x ∈ found ∨ (n = x ∧ x ∉ kn))
    rw [nil, or_false]
    by_cases c : n ∈ kn
    · rw [if_pos c]
      exact ⟨.inl, fun h => h.elim id fun h => absurd (h.1 ▸ c) h.2⟩
    · rw [if_neg c]
      unfold insNew
      by_cases d : n ∈ found
      · rw [if_pos d]
        exact ⟨.inl, fun h => h.elim id fun h => h.1 ▸ d⟩
      · rw [if_neg d, List.mem_append, List.mem_singleton]
        constructor
        · rintro (h | h)
          · exact .inl h
          · exact .inr ⟨h.symm, by rw [h]; exact c⟩
        · rintro (h | ⟨h, _⟩)
          · exact .inl h
          · exact .inr h.symm
  | int i =>
    show (x ∈ found ∨ ∃ p ∈ ([] : List (Tr × List Int)), _) ↔ _
    rw [nil]
    simp [fv]
  | glob m y =>
    show (x ∈ found ∨ ∃ p ∈ ([] : List (Tr × List Int)), _) ↔ _
    rw [nil]
    simp [fv]
  | prim q =>
    show (x ∈ found ∨ ∃ p ∈ ([] : List (Tr × List Int)), _) ↔ _
    rw [nil]
    simp [fv]
  | fn ns b =>
    show (x ∈ found ∨ ∃ p ∈ [(b, ns ++ kn)], fv x p.1 ∧ x ∉ p.2) ↔ _
    rw [ex_cons, nil, or_false]
    show (x ∈ found ∨ (fv x b ∧ x ∉ ns ++ kn)) ↔ (x ∈ found ∨ (fv x (.fn ns b) ∧ x ∉ kn))
    rw [show fv x (.fn ns b) = (fv x b ∧ x ∉ ns) by conv => lhs; unfold fv]
    rw [List.mem_append, not_or, and_assoc]
  | let_ ns ts b =>
    show (x ∈ found ∨ ∃ p ∈ (ts.map fun t => (t, kn)) ++ [(b, ns ++ kn)], fv x p.1 ∧ x ∉ p.2) ↔ _
    rw [ex_app, fvs_pairs, ex_cons, nil, or_false]
    show (x ∈ found ∨ ((fvs x ts ∧ x ∉ kn) ∨ (fv x b ∧ x ∉ ns ++ kn))) ↔ (x ∈ found ∨ (fv x (.let_ ns ts b) ∧ x ∉ kn))
    conv => rhs; unfold fv
    rw [List.mem_append, not_or, or_and_right, and_assoc]
  | if_ a b c =>
    show (x ∈ found ∨ ∃ p ∈ [(a, kn), (b, kn), (c, kn)], fv x p.1 ∧ x ∉ p.2) ↔ _
    rw [ex_cons, ex_cons, ex_cons, nil, or_false]
    show (x ∈ found ∨ ((fv x a ∧ x ∉ kn) ∨ ((fv x b ∧ x ∉ kn) ∨ (fv x c ∧ x ∉ kn)))) ↔ (x ∈ found ∨ (fv x (.if_ a b c) ∧ x ∉ kn))
    conv => rhs; unfold fv
    rw [or_and_right, or_and_right]
  | call f ts =>
    show (x ∈ found ∨ ∃ p ∈ (f, kn) :: ts.map (fun t => (t, kn)), fv x p.1 ∧ x ∉ p.2) ↔ _
    rw [ex_cons, fvs_pairs]
    show (x ∈ found ∨ ((fv x f ∧ x ∉ kn) ∨ (fvs x ts ∧ x ∉ kn))) ↔ (x ∈ found ∨ (fv x (.call f ts) ∧ x ∉ kn))
    conv => rhs; unfold fv
    rw [or_and_right]
def szP : List (Tr × List Int) → Nat
  | [] => 0
  | p :: r => szT p.1 + szP r
theorem szP_app : ∀ (x y : List (Tr × List Int)), szP (x ++ y) = szP x + szP y
  | [], y => by show szP y = 0 + szP y; omega
  | p :: r, y => by show szT p.1 + szP (r ++ y) = szT p.1 + szP r + szP y; rw [szP_app r y]; omega
theorem szP_map (kn : List Int) : ∀ ts : List Tr, szP (ts.map fun t => (t, kn)) = szTs ts
  | [] => by unfold szTs; rfl
  | t :: ts => by unfold szTs; show szT t + szP (ts.map fun t => (t, kn)) = _; rw [szP_map kn ts]
theorem szP_kids (t : Tr) (kn : List Int) : szP (kids t kn) + 1 = szT t := by
  cases t with
  | int i => unfold szT; rfl
  | loc i => unfold szT; rfl
  | glob i j => unfold szT; rfl
  | prim i => unfold szT; rfl
  | fn ns b => unfold szT; rfl
  | let_ ns ts b =>
    show szP ((ts.map fun t => (t, kn)) ++ [(b, ns ++ kn)]) + 1 = _
    rw [szP_app, szP_map]
    conv => rhs; unfold szT
    show szTs ts + (szT b + 0) + 1 = _
    omega
  | if_ a b c =>
    conv => rhs; unfold szT
    show szT a + (szT b + (szT c + 0)) + 1 = _
    omega
  | call f ts =>
    show szT f + szP (ts.map fun t => (t, kn)) + 1 = _
    rw [szP_map]
    conv => rhs; unfold szT
theorem outF_mem {x : Int} : ∀ (k : Nat) (rest : List (Tr × List Int)) (found : List Int), szP rest ≤ k → (x ∈ outF k rest found ↔ (x ∈ found ∨ ∃ p ∈ rest, fv x p.1 ∧ x ∉ p.2))
  | 0, [], found, _ => ⟨.inl, fun h => h.elim id fun ⟨p, m, _⟩ => (by cases m)⟩
  | 0, p :: r, found, h => by
    have := szT_pos p.1
    have h : szT p.1 + szP r ≤ 0 := h
    omega
  | k + 1, [], found, _ => ⟨.inl, fun h => h.elim id fun ⟨p, m, _⟩ => (by cases m)⟩
  | k + 1, (t, kn) :: rest, found, h => by
    have h : szT t + szP rest ≤ k + 1 := h
    have hk := szP_kids t kn
    show x ∈ outF k (kids t kn ++ rest) (outStep t kn found) ↔ _
    rw [outF_mem k _ _ (by rw [szP_app]; omega), ex_app, ex_cons, ← or_assoc, fv_kids, or_assoc]
theorem outT_mem {x : Int} {t : Tr} : x ∈ outT t ↔ fv x t := by
  unfold outT
  rw [outF_mem _ _ _ (by show szT t + 0 ≤ szT t; omega), ex_cons]
  constructor
  · rintro (h | h | ⟨p, m, _⟩)
    · cases h
    · exact h.1
    · cases m
  · exact fun h => .inr (.inl ⟨h, fun z => by cases z⟩)
theorem outF_len : ∀ (k : Nat) (rest : List (Tr × List Int)) (found : List Int), (outF k rest found).length ≤ found.length + k
  | 0, _, found => Nat.le_refl _
  | k + 1, [], found => Nat.le_add_right _ _
  | k + 1, (t, kn) :: rest, found => by
    have h := outF_len k (kids t kn ++ rest) (outStep t kn found)
    have h2 : (outStep t kn found).length ≤ found.length + 1 := by
      cases t with
      | loc n =>
        show (if n ∈ kn then found else insNew n found).length ≤ _
        unfold insNew
        split
        · omega
        · split
          · omega
          · simp
      | _ => exact Nat.le_add_right _ _
    show (outF k (kids t kn ++ rest) (outStep t kn found)).length ≤ _
    omega
theorem outT_len (t : Tr) : (outT t).length ≤ szT t := by
  have := outF_len (szT t) [(t, [])] []
  unfold outT
  simpa using this
end My
namespace My
open PySem PySem.Spec PyProof.Rows L2 TL
/-! ### whole programs by the evaluator -/
theorem glGet_put (k x : Str × Str) (y : Vl) : ∀ (gl : Gl), glGet x (glPut k y gl) = if k = x then some y else glGet x gl := by
  have hmap : ∀ (gl : Gl), glHas k gl = true → glGet x (gl.map fun p => if p.1 = k then (p.1, y) else p) = if k = x then some y else glGet x gl := by
    intro gl
    induction gl with
    | nil => intro h; cases h
    | cons p r ih =>
      obtain ⟨m, z⟩ := p
      intro h
      by_cases hr : glHas k r = true
      · have ih := ih hr
        by_cases c : m = k
        · subst c
          by_cases d : m = x
          · subst d
            simp [glGet]
          · rw [if_neg d] at ih ⊢
            simp only [List.map_cons, if_true, glGet, if_neg d]
            exact ih
        · simp only [List.map_cons, if_neg c, glGet]
          by_cases d : m = x
          · subst d
            rw [if_pos rfl, if_neg (Ne.symm c), if_pos rfl]
          · rw [if_neg d, ih]
            by_cases e : k = x
            · rw [if_pos e, if_pos e]
            · rw [if_neg e, if_neg e, if_neg d]
      · have hm : m = k := by
          have h' : (decide (m = k) || glHas k r) = true := h
          rw [Bool.eq_false_iff.mpr hr, Bool.or_false] at h'
          exact of_decide_eq_true h'
        subst hm
        have same : r.map (fun p => if p.1 = m then (p.1, y) else p) = r := by
          refine (List.map_congr_left fun p hp => ?_).trans (List.map_id r)
          rw [if_neg]
          · rfl
          · intro e
            exact hr (List.any_eq_true.mpr ⟨p, hp, decide_eq_true e⟩)
        simp only [List.map_cons, if_true, glGet, same]
        by_cases d : m = x
        · rw [if_pos d, if_pos d]
        · rw [if_neg d, if_neg d, if_neg d]
  have happ : ∀ (gl : Gl), glHas k gl = false → glGet x (gl ++ [(k, y)]) = if k = x then some y else glGet x gl := by
    intro gl
    induction gl with
    | nil =>
      intro _
      simp [glGet]
    | cons p r ih =>
      obtain ⟨m, z⟩ := p
      intro h
      have h' : (decide (m = k) || glHas k r) = false := h
      obtain ⟨h1, h2⟩ := Bool.or_eq_false_iff.mp h'
      have h1 := of_decide_eq_false h1
      simp only [List.cons_append, glGet]
      by_cases d : m = x
      · subst d
        rw [if_pos rfl, if_neg (Ne.symm h1), if_pos rfl]
      · rw [if_neg d, ih h2]
        by_cases e : k = x
        · rw [if_pos e, if_pos e]
        · rw [if_neg e, if_neg e, if_neg d]
  intro gl
  unfold glPut
  by_cases c : glHas k gl = true
  · rw [if_pos c]; exact hmap gl c
  · rw [if_neg c]; exact happ gl (Bool.eq_false_iff.mpr c)
theorem GlR.put {gl gm : Gl} {k : Str × Str} {v v' : Vl} (h : GlR gl gm) (hv : VR v v') : GlR (glPut k v gl) (glPut k v' gm) := fun x => by
  rw [glGet_put, glGet_put]
  by_cases c : k = x
  · rw [if_pos c, if_pos c]
    exact ⟨fun u e => (by cases e; exact ⟨_, rfl, hv⟩), fun e => (by cases e)⟩
  · rw [if_neg c, if_neg c]
    exact h x
theorem GlR.nil : GlR [] [] := fun k => ⟨fun v e => (by cases e), fun _ => rfl⟩
/-- definitions one by one, then the core -/
def evP (f : Nat) : List ((Str × Str) × Tr) → Tr → Gl → Nat → Nat → Option (Rs × Nat × Nat)
  | [], t, gl, l, s => evT f gl [] t l s 1 true
  | (key, d) :: ds, t, gl, l, s => match evT f gl [] d l s 1 true with
    | some (.val v, l', s') => evP f ds t (glPut key v gl) l' s'
    | some (.out ws, z) => some (.out ws, z)
    | none => none
def plOut (m l' : Nat) : Rs → Option (Except (List Str × Nat) (Nat × Vl))
  | .val v => some (.ok (m - l', v))
  | .out ws => some (.error (ws, m - l'))
theorem plRun_ev {f : Nat} {gl : Gl} {t : Tr} {l s d : Nat} {last : Bool} {r : Rs} {l' s' m : Nat} (h : evT f gl [] t l s d last = some (r, l', s')) (hl : l ≤ m) (hf : 64 * f < many) : ∃ k0, ∀ k, k0 ≤ k → plRun k m gl (m - l) t = plOut m l' r := by
  obtain ⟨_, g⟩ := plain_sim f gl [] t l s d last r l' s' m [] [] h hl (by show 0 + 64 * f < many; omega) (by show 0 + 64 * f < many; omega)
  cases r with
  | val v =>
    obtain ⟨j, g⟩ := g
    refine ⟨j + 1, fun k hk => ?_⟩
    obtain ⟨i, rfl⟩ : ∃ i, k = i + 1 + j := ⟨k - 1 - j, by omega⟩
    unfold plRun
    rw [g (i + 1), runF_nil]
    rfl
  | out ws =>
    obtain ⟨j, g⟩ := g
    refine ⟨j, fun k hk => ?_⟩
    obtain ⟨i, rfl⟩ : ∃ i, k = i + j := ⟨k - j, by omega⟩
    unfold plRun
    rw [g i]
    rfl
theorem plainF_ev {f m : Nat} (hf : 64 * f < many) : ∀ (ds : List ((Str × Str) × Tr)) (t : Tr) (gl : Gl) (l s : Nat) (r : Rs) (l' s' : Nat), evP f ds t gl l s = some (r, l', s') → l ≤ m → ∃ k0, ∀ k, k0 ≤ k → plainF k m ds t gl (m - l) = plOut m l' r
  | [], t, gl, l, s, r, l', s', h, hl => plRun_ev h hl hf
  | (key, d) :: ds, t, gl, l, s, r, l', s', h, hl => by
    unfold evP at h
    cases h1 : evT f gl [] d l s 1 true with
    | none => rw [h1] at h; cases h
    | some q =>
    obtain ⟨r1, l1, s1⟩ := q
    rw [h1] at h
    obtain ⟨k1, g1⟩ := plRun_ev h1 hl hf
    cases r1 with
    | out ws =>
      cases h
      exact ⟨k1, fun k hk => by rw [plainF_cons, g1 k hk]; rfl⟩
    | val v =>
      dsimp only at h
      have e1 := (evT_le _ _ _ _ _ _ _ _ _ _ _ h1).1
      obtain ⟨k2, g2⟩ := plainF_ev (m := m) hf ds t (glPut key v gl) l1 s1 r l' s' h (by omega)
      refine ⟨max k1 k2, fun k hk => ?_⟩
      rw [plainF_cons, g1 k (by omega)]
      exact g2 k (by omega)
/-- the code of a whole part -/
def CodeOf (t : Tr) (c : Code) : Prop := ∃ l is b hi, c = .mk 0 l is ∧ l ≤ many ∧ Lay l is t [] true 0 0 b hi
theorem maRun_ev {f : Nat} {gl gm : Gl} {t : Tr} {c : Code} {l mf : Nat} {r : Rs} {l' s' n M : Nat} {res : Option Vl} (h : evT f gl [] t l (max mf 1) 1 true = some (r, l', s')) (hc : CodeOf t c) (GR : GlR gl gm) (hM : n + 3 * (l - l') ≤ M) (hf : 64 * f < many) :
    (∀ v, r = .val v → ∃ v' n', VR v v' ∧ n < n' ∧ n' + 1 ≤ n + 3 * (l - l') ∧ ∃ k0, ∀ k, k0 ≤ k → maRun k M gm (n, mf, res) c = some (.ok ((n', s', some v'), v'))) ∧
    (∀ ws, r = .out ws → ws ≠ stepsW → ∃ n', n' ≤ n + 3 * (l - l') ∧ ∃ k0, ∀ k, k0 ≤ k → maRun k M gm (n, mf, res) c = some (.error (ws, n', s', none))) := by
  obtain ⟨pc, is, b, hi, rfl, lpc, lay⟩ := hc
  have m6 : many = 1000000 := rfl
  have ea : addF ⟨n, mf, [], res⟩ (.mk 0 pc is) [] [] = .ok ⟨n, max mf 1, [⟨is, 0, List.replicate pc (.int 0), [], []⟩], res⟩ := by
    unfold addF
    rw [if_pos ⟨lpc, by show 0 ≤ 1000; omega, by show 0 < many; omega⟩]
    rfl
  obtain ⟨c1, c2⟩ := ma_sim f gl gm M [] t l (max mf 1) 1 true r l' s' pc is [] 0 0 b hi (List.replicate pc (.int 0)) [] [] [] res n h lay (fun x s e => by cases e) (by simp) GR rfl (Nat.le_max_right _ _) hM (by show 0 + 64 * f < many; omega) (by show 0 + f < many; omega) (fun f r e => by cases e)
  refine ⟨fun v e => ?_, fun ws e ne => ?_⟩
  · obtain ⟨v', n', hv, q1, q2, q3⟩ := c1 v e
    rw [if_pos rfl] at q3
    obtain ⟨j, g⟩ := q3
    refine ⟨v', n', hv, q1, q2, j + 1, fun k hk => ?_⟩
    obtain ⟨i, rfl⟩ : ∃ i, k = i + 1 + j := ⟨k - 1 - j, by omega⟩
    unfold maRun
    rw [ea]
    dsimp only
    rw [g (i + 1)]
    rfl
  · obtain ⟨n', q1, j, g⟩ := c2 ws e ne
    refine ⟨n', q1, j, fun k hk => ?_⟩
    obtain ⟨i, rfl⟩ : ∃ i, k = i + j := ⟨k - j, by omega⟩
    unfold maRun
    rw [ea]
    dsimp only
    rw [g i]
inductive CodesOf : List ((Str × Str) × Tr) → List ((Str × Str) × Code) → Prop
  | nil : CodesOf [] []
  | cons {key : Str × Str} {t : Tr} {c : Code} {ds : List ((Str × Str) × Tr)} {es : List ((Str × Str) × Code)} (h : CodeOf t c) (hs : CodesOf ds es) : CodesOf ((key, t) :: ds) ((key, c) :: es)
theorem evP_le {f : Nat} : ∀ (ds : List ((Str × Str) × Tr)) (t : Tr) (gl : Gl) (l s : Nat) (r : Rs) (l' s' : Nat), evP f ds t gl l s = some (r, l', s') → l' ≤ l ∧ s ≤ s'
  | [], t, gl, l, s, r, l', s', h => evT_le _ _ _ _ _ _ _ _ _ _ _ h
  | (key, d) :: ds, t, gl, l, s, r, l', s', h => by
    unfold evP at h
    cases h1 : evT f gl [] d l s 1 true with
    | none => rw [h1] at h; cases h
    | some q =>
    obtain ⟨r1, l1, s1⟩ := q
    have e1 := evT_le _ _ _ _ _ _ _ _ _ _ _ h1
    rw [h1] at h
    cases r1 with
    | out ws => cases h; exact e1
    | val v =>
      have e2 := evP_le ds t _ _ _ _ _ _ h
      omega
theorem codeF_ev {f M : Nat} (hf : 64 * f < many) : ∀ (ds : List ((Str × Str) × Tr)) (es : List ((Str × Str) × Code)) (t : Tr) (c : Code) (gl gm : Gl) (l mf : Nat) (r : Rs) (l' s' n : Nat) (res : Option Vl), evP f ds t gl l (max mf 1) = some (r, l', s') → CodesOf ds es → CodeOf t c → GlR gl gm → n + 3 * (l - l') ≤ M →
    (∀ v, r = .val v → ∃ v' n', VR v v' ∧ n < n' ∧ n' + 1 ≤ n + 3 * (l - l') ∧ ∃ k0, ∀ k, k0 ≤ k → codeF k M es c gm (n, mf, res) = some (.ok ((n', s', some v'), v'))) ∧
    (∀ ws, r = .out ws → ws ≠ stepsW → ∃ n', n' ≤ n + 3 * (l - l') ∧ ∃ k0, ∀ k, k0 ≤ k → codeF k M es c gm (n, mf, res) = some (.error (ws, n', s', none)))
  | [], es, t, c, gl, gm, l, mf, r, l', s', n, res, h, ce, ct, GR, hM => by
    cases ce
    exact maRun_ev h ct GR hM hf
  | (key, d) :: ds, es, t, c, gl, gm, l, mf, r, l', s', n, res, h, ce, ct, GR, hM => by
    cases ce with
    | @cons _ _ cd _ es hd hs =>
    unfold evP at h
    cases h1 : evT f gl [] d l (max mf 1) 1 true with
    | none => rw [h1] at h; cases h
    | some q =>
    obtain ⟨r1, l1, s1⟩ := q
    have e1 := evT_le _ _ _ _ _ _ _ _ _ _ _ h1
    rw [h1] at h
    cases r1 with
    | out ws =>
      cases h
      obtain ⟨_, g2⟩ := maRun_ev (res := res) h1 hd GR hM hf
      refine ⟨fun v e => (by cases e), fun ws' e ne => ?_⟩
      cases e
      obtain ⟨n', q1, k0, g⟩ := g2 ws rfl ne
      exact ⟨n', q1, k0, fun k hk => by rw [codeF_cons, g k hk]⟩
    | val v =>
      dsimp only at h
      have e2 := evP_le _ _ _ _ _ _ _ _ h
      obtain ⟨g1, _⟩ := maRun_ev (res := res) h1 hd GR (M := M) (n := n) (by omega) hf
      obtain ⟨v', n1, hv, q1, q2, k1, g1⟩ := g1 v rfl
      have e3 : max s1 1 = s1 := by omega
      obtain ⟨c1, c2⟩ := codeF_ev (M := M) hf ds es t c _ (glPut key v' gm) l1 s1 r l' s' n1 (some v') (by rw [e3]; exact h) hs ct (GR.put hv) (by omega)
      refine ⟨fun u e => ?_, fun ws e ne => ?_⟩
      · obtain ⟨u', n2, hu, q3, q4, k2, g2⟩ := c1 u e
        refine ⟨u', n2, hu, by omega, by omega, max k1 k2, fun k hk => ?_⟩
        rw [codeF_cons, g1 k (by omega)]
        exact g2 k (by omega)
      · obtain ⟨n2, q3, k2, g2⟩ := c2 ws e ne
        refine ⟨n2, by omega, max k1 k2, fun k hk => ?_⟩
        rw [codeF_cons, g1 k (by omega)]
        exact g2 k (by omega)
end My
namespace My
open PySem PySem.Spec PyProof.Rows L2 TL
/-! ### the writing of small well-scoped trees does not stop -/
mutual
def wT : Tr → Nat
  | .fn ns b => 4 + ns.length + wT b
  | .let_ ns ts b => 1 + ns.length + wTs ts + wT b
  | .if_ a b c => 8 + wT a + wT b + wT c
  | .call f ts => 2 + wT f + wTs ts
  | _ => 3
def wTs : List Tr → Nat
  | [] => 0
  | t :: ts => 1 + wT t + wTs ts
end
def pW : Pc → Nat
  | .tree t _ _ => wT t
  | _ => 1
def pcsW : List Pc → Nat
  | [] => 0
  | p :: r => pW p + pcsW r
def dW (d : DSt) : Nat := wT d.t + 2
def dsW : List DSt → Nat
  | [] => 0
  | d :: r => dW d + dsW r
theorem wT_pos (t : Tr) : 1 ≤ wT t := by
  cases t <;> (unfold wT; omega)
theorem pcsW_app : ∀ (x y : List Pc), pcsW (x ++ y) = pcsW x + pcsW y
  | [], y => by show pcsW y = 0 + pcsW y; omega
  | p :: r, y => by show pW p + pcsW (r ++ y) = pW p + pcsW r + pcsW y; rw [pcsW_app r y]; omega
theorem dsW_app : ∀ (x y : List DSt), dsW (x ++ y) = dsW x + dsW y
  | [], y => by show dsW y = 0 + dsW y; omega
  | p :: r, y => by show dW p + dsW (r ++ y) = dW p + dsW r + dsW y; rw [dsW_app r y]; omega
theorem dsW_len : ∀ (x : List DSt), x.length ≤ dsW x
  | [] => Nat.le_refl _
  | d :: r => by
    have := dsW_len r
    show r.length + 1 ≤ wT d.t + 2 + dsW r
    omega
theorem pcsW_len : ∀ (x : List Pc), x.length ≤ pcsW x
  | [] => Nat.le_refl _
  | p :: r => by
    have h := pcsW_len r
    have h2 : 1 ≤ pW p := by
      cases p with
      | tree t _ _ => exact wT_pos t
      | write _ => exact Nat.le_refl _
      | label _ => exact Nat.le_refl _
    show r.length + 1 ≤ pW p + pcsW r
    omega
theorem pcsW_leafP (d : DIn) (last : Bool) : pcsW (leafP d last) ≤ 2 := by
  unfold leafP
  split <;> (show _ ≤ 2; simp [pcsW, pW])
theorem pcsW_letPs (sc : Sc) : ∀ (ts : List Tr) (f : Nat), pcsW (letPs sc f ts) = wTs ts
  | [], _ => by unfold wTs; rfl
  | t :: ts, f => by
    unfold wTs
    show wT t + (1 + pcsW (letPs sc (f + 1) ts)) = _
    rw [pcsW_letPs sc ts (f + 1)]
    omega
theorem pcsW_trees (sc : Sc) : ∀ ts : List Tr, pcsW (ts.map fun t => Pc.tree t sc false) ≤ wTs ts
  | [] => by unfold wTs; exact Nat.le_refl _
  | t :: ts => by
    have := pcsW_trees sc ts
    unfold wTs
    show wT t + pcsW (ts.map fun t => Pc.tree t sc false) ≤ _
    omega
mutual
theorem szT_le : ∀ t : Tr, szT t ≤ wT t
  | .int _ => by unfold szT wT; omega
  | .loc _ => by unfold szT wT; omega
  | .glob _ _ => by unfold szT wT; omega
  | .prim _ => by unfold szT wT; omega
  | .fn ns b => by have := szT_le b; unfold szT wT; omega
  | .let_ ns ts b => by have := szT_le b; have := szTs_le ts; unfold szT wT; omega
  | .if_ a b c => by have := szT_le a; have := szT_le b; have := szT_le c; unfold szT wT; omega
  | .call f ts => by have := szT_le f; have := szTs_le ts; unfold szT wT; omega
theorem szTs_le : ∀ ts : List Tr, szTs ts ≤ wTs ts
  | [] => by unfold szTs wTs; omega
  | t :: ts => by have := szT_le t; have := szTs_le ts; unfold szTs wTs; omega
end
/-- a tree with its scope: every free number is there -/
structure Scd (t : Tr) (sc : Sc) : Prop where
  v : ∀ x, fv x t → ∃ s, scGet x sc = some s
  len : sc.length + wT t ≤ 300000
  small : wT t ≤ 100000
  dep : depT t ≤ 900
def PcOk : Pc → Prop
  | .tree t sc _ => Scd t sc
  | _ => True
theorem letSc_has {x : Int} : ∀ {ns : List Int} {f : Nat} {sc : Sc}, (x ∈ ns ∨ ∃ s, scGet x sc = some s) → ∃ s, scGet x (letSc f ns sc) = some s
  | [], f, sc, h => h.elim (fun z => by cases z) id
  | n :: ns, f, sc, h => by
    refine letSc_has (ns := ns) (f := f + 1) (sc := scPut n (.place f) sc) ?_
    by_cases c : n = x
    · exact .inr ⟨_, by rw [scGet_put, if_pos c]⟩
    · rcases h with h | ⟨s, h⟩
      · exact .inl ((List.mem_cons.mp h).resolve_left fun e => c e.symm)
      · exact .inr ⟨s, by rw [scGet_put, if_neg c]; exact h⟩
theorem kpSc_has {x : Int} : ∀ {ns : List Int} {i : Nat} {sc : Sc}, (x ∈ ns ∨ ∃ s, scGet x sc = some s) → ∃ s, scGet x (kpSc i ns sc) = some s
  | [], i, sc, h => h.elim (fun z => by cases z) id
  | n :: ns, i, sc, h => by
    refine kpSc_has (ns := ns) (i := i + 1) (sc := scPut n (.kept i) sc) ?_
    by_cases c : n = x
    · exact .inr ⟨_, by rw [scGet_put, if_pos c]⟩
    · rcases h with h | ⟨s, h⟩
      · exact .inl ((List.mem_cons.mp h).resolve_left fun e => c e.symm)
      · exact .inr ⟨s, by rw [scGet_put, if_neg c]; exact h⟩
theorem scPut_len2 (n : Int) (y : Src) (sc : Sc) : (scPut n y sc).length ≤ sc.length + 1 := by
  unfold scPut
  split
  · rw [List.length_map]; omega
  · simp
theorem letSc_len2 : ∀ (ns : List Int) (f : Nat) (sc : Sc), (letSc f ns sc).length ≤ sc.length + ns.length
  | [], f, sc => Nat.le_refl _
  | n :: ns, f, sc => by
    have h := letSc_len2 ns (f + 1) (scPut n (.place f) sc)
    have h2 := scPut_len2 n (.place f) sc
    show (letSc (f + 1) ns (scPut n (.place f) sc)).length ≤ sc.length + (ns.length + 1)
    omega
theorem kpSc_len2 : ∀ (ns : List Int) (i : Nat) (sc : Sc), (kpSc i ns sc).length ≤ sc.length + ns.length
  | [], i, sc => Nat.le_refl _
  | n :: ns, i, sc => by
    have h := kpSc_len2 ns (i + 1) (scPut n (.kept i) sc)
    have h2 := scPut_len2 n (.kept i) sc
    show (kpSc (i + 1) ns (scPut n (.kept i) sc)).length ≤ sc.length + (ns.length + 1)
    omega
theorem ssOf_some {sc : Sc} : ∀ {xs : List Int}, (∀ x ∈ xs, ∃ s, scGet x sc = some s) → ∃ ss, ssOf sc xs = some ss
  | [], _ => ⟨[], rfl⟩
  | x :: xs, h => by
    obtain ⟨s, h1⟩ := h x List.mem_cons_self
    obtain ⟨ss, h2⟩ := ssOf_some (xs := xs) fun y m => h y (List.mem_cons_of_mem _ m)
    exact ⟨s :: ss, by unfold ssOf; rw [h1, h2]⟩
/-- the body of a function by its own scope -/
theorem Scd.body {ns : List Int} {b : Tr} {sc : Sc} (h : Scd (.fn ns b) sc) : Scd b (fnSc (.fn ns b)) := by
  obtain ⟨h1, h2, h3, h4⟩ := h
  have e1 : wT (.fn ns b) = 4 + ns.length + wT b := by conv => lhs; unfold wT
  have e2 : depT (.fn ns b) = 1 + depT b := by conv => lhs; unfold depT
  refine ⟨fun x hx => ?_, ?_, by omega, by omega⟩
  · refine letSc_has ?_
    by_cases c : x ∈ ns
    · exact .inl c
    · refine .inr (kpSc_has (.inl (outT_mem.mpr ?_)))
      unfold fv
      exact ⟨hx, c⟩
  · have l1 := letSc_len2 ns 0 (kpSc 0 (outT (.fn ns b)) [])
    have l2 := kpSc_len2 (outT (.fn ns b)) 0 []
    have l3 := outT_len (.fn ns b)
    have l4 := szT_le (.fn ns b)
    have l5 : (fnSc (.fn ns b)).length ≤ (kpSc 0 (outT (.fn ns b)) []).length + ns.length := l1
    have l6 : ([] : Sc).length = 0 := rfl
    omega
end My
namespace My
open PySem PySem.Spec PyProof.Rows L2 TL
/-! ### small states of the writing go on -/
structure Sml (at_ : Nat) (w : WSt) : Prop where
  pcs : ∀ p ∈ w.rest, PcOk p
  lab : LabOk w
  ins : w.ins.length + pcsW w.rest ≤ 800000
  tgs : w.tgs.length + pcsW w.rest ≤ 800000
  news : at_ + w.news.length + pcsW w.rest ≤ 800000
  sc : ∀ d ∈ w.news, Scd d.t d.sc ∧ d.p ≤ 100000
structure StepOk (at_ : Nat) (w : WSt) (p : Pc) (r : List Pc) (w1 : WSt) (e : List Pc) : Prop where
  step : wrStep at_ { w with rest := r } p = some w1
  rest : w1.rest = e ++ r
  pcs : ∀ q ∈ e, PcOk q
  ins : w1.ins.length + pcsW e ≤ w.ins.length + pW p
  tgs : w1.tgs.length + pcsW e ≤ w.tgs.length + pW p
  news : w1.news.length + pcsW e ≤ w.news.length + pW p
  sc : ∀ d ∈ w1.news, Scd d.t d.sc ∧ d.p ≤ 100000
  less : pcsW e < pW p
  l : w1.l + pcsW e ≤ w.l + pW p
  ds : dsW w1.news + pcsW e ≤ dsW w.news + pW p
theorem PcOk_leafP (d : DIn) (last : Bool) : ∀ q ∈ leafP d last, PcOk q := by
  unfold leafP
  split
  · intro q m
    rcases List.mem_cons.mp m with e | m
    · rw [e]; trivial
    · rw [List.mem_singleton.mp m]; trivial
  · intro q m
    rw [List.mem_singleton.mp m]; trivial
theorem PcOk_trees {sc : Sc} {ts : List Tr} (h : ∀ t ∈ ts, Scd t sc) : ∀ q ∈ ts.map (fun t => Pc.tree t sc false), PcOk q := fun q m => by
  obtain ⟨t, mt, rfl⟩ := List.mem_map.mp m
  exact h t mt
theorem PcOk_letPs {sc : Sc} : ∀ {ts : List Tr} {f : Nat}, (∀ t ∈ ts, Scd t sc) → ∀ q ∈ letPs sc f ts, PcOk q
  | [], f, h, q, m => by cases m
  | t :: ts, f, h, q, m => by
    rcases List.mem_cons.mp m with e | m
    · rw [e]; exact h t List.mem_cons_self
    rcases List.mem_cons.mp m with e | m
    · rw [e]; trivial
    · exact PcOk_letPs (fun u mu => h u (List.mem_cons_of_mem _ mu)) q m
theorem wTs_mem : ∀ {ts : List Tr} {t : Tr}, t ∈ ts → wT t + 1 ≤ wTs ts
  | [], t, m => by cases m
  | u :: ts, t, m => by
    unfold wTs
    rcases List.mem_cons.mp m with e | m
    · rw [e]; omega
    · have := wTs_mem m
      omega
theorem wr_step {at_ : Nat} {w : WSt} {p : Pc} {r : List Pc} (e : w.rest = p :: r) (h : Sml at_ w) : ∃ w1 ex, StepOk at_ w p r w1 ex := by
  have hp : PcOk p := h.pcs p (by rw [e]; exact List.mem_cons_self)
  have eW : pcsW w.rest = pW p + pcsW r := by rw [e]; rfl
  have h1 := h.ins
  have h2 := h.tgs
  have h3 := h.news
  rw [eW] at h1 h2 h3
  have leaf : ∀ {t : Tr} {sc : Sc} {last : Bool} {d : DIn}, p = .tree t sc last → wT t = 3 → wrStep at_ { w with rest := r } p = some { w with rest := leafP d last ++ r } → ∃ w1 ex, StepOk at_ w p r w1 ex := fun {t sc last d} ep e3 st => by
    have l2 := pcsW_leafP d last
    have pw : pW p = 3 := by rw [ep]; exact e3
    exact ⟨_, leafP d last, st, rfl, PcOk_leafP d last, by rw [pw]; show w.ins.length + _ ≤ _; omega, by rw [pw]; show w.tgs.length + _ ≤ _; omega, by rw [pw]; show w.news.length + _ ≤ _; omega, h.sc, by rw [pw]; omega, by rw [pw]; show w.l + _ ≤ _; omega, by rw [pw]; show dsW w.news + _ ≤ _; omega⟩
  cases p with
  | write d =>
    have pw : pW (.write d) = 1 := rfl
    refine ⟨{ w with ins := w.ins ++ [d], rest := r }, [], ?_, rfl, (fun q m => by cases m), ?_, ?_, ?_, h.sc, ?_, ?_, ?_⟩
    · unfold wrStep
      exact gate_pos (show w.ins.length < 900000 by omega)
    · show (w.ins ++ [d]).length + 0 ≤ w.ins.length + 1
      simp
    · show w.tgs.length + 0 ≤ w.tgs.length + 1; omega
    · show w.news.length + 0 ≤ w.news.length + 1; omega
    · show 0 < 1; omega
    · show w.l + 0 ≤ w.l + 1; omega
    · show dsW w.news + 0 ≤ dsW w.news + 1; omega
  | label n =>
    have ln : n < w.tgs.length := h.lab.2 n (by rw [e]; exact List.mem_cons_self)
    refine ⟨{ w with tgs := w.tgs.set n (some w.ins.length), rest := r }, [], ?_, rfl, (fun q m => by cases m), ?_, ?_, ?_, h.sc, ?_, ?_, ?_⟩
    · unfold wrStep
      exact gate_pos ln
    · show w.ins.length + 0 ≤ w.ins.length + 1; omega
    · show (w.tgs.set n (some w.ins.length)).length + 0 ≤ w.tgs.length + 1
      rw [List.length_set]; omega
    · show w.news.length + 0 ≤ w.news.length + 1; omega
    · show 0 < 1; omega
    · show w.l + 0 ≤ w.l + 1; omega
    · show dsW w.news + 0 ≤ dsW w.news + 1; omega
  | tree t sc last =>
    have hp : Scd t sc := hp
    obtain ⟨hv, hl, hs, hd⟩ := hp
    cases t with
    | int i => exact leaf rfl (by unfold wT; rfl) rfl
    | prim q => exact leaf rfl (by unfold wT; rfl) rfl
    | glob m x => exact leaf rfl (by unfold wT; rfl) rfl
    | loc n =>
      obtain ⟨s, g⟩ := hv n (by unfold fv; rfl)
      exact leaf (d := .src s) rfl (by unfold wT; rfl) (by
        unfold wrStep
        dsimp only
        rw [g]
        rfl)
    | fn ns b =>
      have ew : wT (.fn ns b) = 4 + ns.length + wT b := by conv => lhs; unfold wT
      have pw : pW (.tree (.fn ns b) sc last) = 4 + ns.length + wT b := ew
      obtain ⟨ss, g⟩ := ssOf_some (sc := sc) (xs := outT (.fn ns b)) fun x m => hv x (outT_mem.mp m)
      have l2 := pcsW_leafP (.fn (at_ + w.news.length) ss) last
      have l3 := outT_len (.fn ns b)
      have l4 := szT_le (.fn ns b)
      refine ⟨{ w with rest := leafP (.fn (at_ + w.news.length) ss) last ++ r, news := w.news ++ [⟨ns.length, ns.length, [], [], b, fnSc (.fn ns b)⟩] }, leafP (.fn (at_ + w.news.length) ss) last, ?_, rfl, PcOk_leafP _ _, by rw [pw]; show w.ins.length + _ ≤ _; omega, by rw [pw]; show w.tgs.length + _ ≤ _; omega, ?_, ?_, by rw [pw]; omega, by rw [pw]; show w.l + _ ≤ _; omega, ?_⟩
      · unfold wrStep
        dsimp only
        rw [g]
        exact gate_pos (show at_ + w.news.length < 900000 ∧ depT (.fn ns b) ≤ 900 ∧ szT (.fn ns b) ≤ 900000 ∧ (outT (.fn ns b)).length ≤ 900000 from ⟨by omega, hd, by omega, by omega⟩)
      · rw [pw]
        show (w.news ++ [_]).length + _ ≤ _
        rw [List.length_append, List.length_singleton]
        omega
      · intro d m
        rcases List.mem_append.mp m with m | m
        · exact h.sc d m
        · rw [List.mem_singleton.mp m]
          exact ⟨Scd.body ⟨hv, hl, hs, hd⟩, by show ns.length ≤ 100000; omega⟩
      · rw [pw, dsW_app]
        show dsW w.news + (wT b + 2 + 0) + _ ≤ _
        omega
    | let_ ns ts b =>
      have ew : wT (.let_ ns ts b) = 1 + ns.length + wTs ts + wT b := by conv => lhs; unfold wT
      have pw : pW (.tree (.let_ ns ts b) sc last) = 1 + ns.length + wTs ts + wT b := ew
      have ed : depT (.let_ ns ts b) = 1 + max (depTs ts) (depT b) := by conv => lhs; unfold depT
      have el : pcsW (letP ns ts b w.l sc last) = wTs ts + wT b := by
        unfold letP
        rw [pcsW_app, pcsW_letPs]
        rfl
      have lb := letSc_len2 ns w.l sc
      refine ⟨{ w with l := w.l + ns.length, rest := letP ns ts b w.l sc last ++ r }, letP ns ts b w.l sc last, ?_, rfl, fun q m => ?_, by rw [pw, el]; show w.ins.length + _ ≤ _; omega, by rw [pw, el]; show w.tgs.length + _ ≤ _; omega, by rw [pw, el]; show w.news.length + _ ≤ _; omega, h.sc, by rw [pw, el]; omega, by rw [pw, el]; show w.l + ns.length + _ ≤ _; omega, by rw [pw, el]; show dsW w.news + _ ≤ _; omega⟩
      · unfold wrStep
        exact gate_pos (show sc.length + ns.length ≤ 1000000 by omega)
      · unfold letP at m
        rcases List.mem_append.mp m with m | m
        · refine PcOk_letPs (fun t mt => ?_) q m
          have := wTs_mem mt
          have := depTs_mem mt
          exact ⟨fun x hx => hv x (by unfold fv; exact .inl (fvs_mem.mpr ⟨t, mt, hx⟩)), by omega, by omega, by omega⟩
        · rw [List.mem_singleton.mp m]
          refine ⟨fun x hx => letSc_has ?_, by omega, by omega, by omega⟩
          by_cases c : x ∈ ns
          · exact .inl c
          · exact .inr (hv x (by unfold fv; exact .inr ⟨hx, c⟩))
    | call f ts =>
      have ew : wT (.call f ts) = 2 + wT f + wTs ts := by conv => lhs; unfold wT
      have pw : pW (.tree (.call f ts) sc last) = 2 + wT f + wTs ts := ew
      have ed : depT (.call f ts) = 1 + max (depT f) (depTs ts) := by conv => lhs; unfold depT
      have el : pcsW (callP f ts sc last) ≤ wT f + wTs ts + 1 := by
        unfold callP
        rw [pcsW_app]
        have := pcsW_trees sc ts
        show (wT f + pcsW (ts.map fun t => Pc.tree t sc false)) + (1 + 0) ≤ _
        omega
      refine ⟨{ w with rest := callP f ts sc last ++ r }, callP f ts sc last, rfl, rfl, fun q m => ?_, by rw [pw]; show w.ins.length + _ ≤ _; omega, by rw [pw]; show w.tgs.length + _ ≤ _; omega, by rw [pw]; show w.news.length + _ ≤ _; omega, h.sc, by rw [pw]; omega, by rw [pw]; show w.l + _ ≤ _; omega, by rw [pw]; show dsW w.news + _ ≤ _; omega⟩
      unfold callP at m
      rcases List.mem_append.mp m with m | m
      · refine PcOk_trees (ts := f :: ts) (fun t mt => ?_) q m
        rcases List.mem_cons.mp mt with e | mt
        · rw [e]
          exact ⟨fun x hx => hv x (by unfold fv; exact .inl hx), by omega, by omega, by omega⟩
        · have := wTs_mem mt
          have := depTs_mem mt
          exact ⟨fun x hx => hv x (by unfold fv; exact .inr (fvs_mem.mpr ⟨t, mt, hx⟩)), by omega, by omega, by omega⟩
      · rw [List.mem_singleton.mp m]; trivial
    | if_ a b c =>
      have ew : wT (.if_ a b c) = 8 + wT a + wT b + wT c := by conv => lhs; unfold wT
      have pw : pW (.tree (.if_ a b c) sc last) = 8 + wT a + wT b + wT c := ew
      have ed : depT (.if_ a b c) = 1 + max (depT a) (max (depT b) (depT c)) := by conv => lhs; unfold depT
      have el : pcsW (ifP a b c sc last w.tgs.length) ≤ wT a + wT b + wT c + 4 := by
        unfold ifP
        split
        · show wT a + (1 + (wT b + (1 + (wT c + 0)))) ≤ _
          omega
        · show wT a + (1 + (wT b + (1 + (1 + (wT c + (1 + 0)))))) ≤ _
          omega
      have eg : (ifG last w.tgs none).length ≤ w.tgs.length + 2 := by
        unfold ifG
        split <;> simp
      have sa : Scd a sc := ⟨fun x hx => hv x (by unfold fv; exact .inl hx), by omega, by omega, by omega⟩
      have sb : Scd b sc := ⟨fun x hx => hv x (by unfold fv; exact .inr (.inl hx)), by omega, by omega, by omega⟩
      have sd : Scd c sc := ⟨fun x hx => hv x (by unfold fv; exact .inr (.inr hx)), by omega, by omega, by omega⟩
      refine ⟨{ w with tgs := ifG last w.tgs none, rest := ifP a b c sc last w.tgs.length ++ r }, ifP a b c sc last w.tgs.length, ?_, rfl, fun q m => ?_, by rw [pw]; show w.ins.length + _ ≤ _; omega, by rw [pw]; show (ifG last w.tgs none).length + _ ≤ _; omega, by rw [pw]; show w.news.length + _ ≤ _; omega, h.sc, by rw [pw]; omega, by rw [pw]; show w.l + _ ≤ _; omega, by rw [pw]; show dsW w.news + _ ≤ _; omega⟩
      · unfold wrStep
        exact gate_pos (show w.tgs.length ≤ 900000 by omega)
      · unfold ifP at m
        split at m
        · simp only [List.mem_cons, List.not_mem_nil, or_false] at m
          rcases m with m | m | m | m | m <;> (rw [m]; first | trivial | exact sa | exact sb | exact sd)
        · simp only [List.mem_cons, List.not_mem_nil, or_false] at m
          rcases m with m | m | m | m | m | m | m <;> (rw [m]; first | trivial | exact sa | exact sb | exact sd)
theorem wrF_total {at_ : Nat} : ∀ (k : Nat) (w : WSt), Sml at_ w → pcsW w.rest < k → ∃ w', wrF at_ k w = some w' ∧ (∀ d ∈ w'.news, Scd d.t d.sc ∧ d.p ≤ 100000) ∧ w'.l ≤ w.l + pcsW w.rest ∧ dsW w'.news ≤ dsW w.news + pcsW w.rest
  | 0, w, h, hk => by omega
  | k + 1, w, h, hk => by
    cases e : w.rest with
    | nil =>
      refine ⟨w, ?_, h.sc, Nat.le_add_right _ _, Nat.le_add_right _ _⟩
      unfold wrF
      rw [e]
    | cons p r =>
      obtain ⟨w1, ex, s⟩ := wr_step e h
      have eW : pcsW w.rest = pW p + pcsW r := by rw [e]; rfl
      have e1 : pcsW w1.rest = pcsW ex + pcsW r := by rw [s.rest, pcsW_app]
      have lab := h.lab
      unfold LabOk at lab
      rw [e] at lab
      have i1 := s.ins
      have i2 := s.tgs
      have i3 := s.news
      have i4 := s.less
      have i5 := s.l
      have i6 := s.ds
      have j1 := h.ins
      have j2 := h.tgs
      have j3 := h.news
      have lr := pcsW_len r
      have sm : Sml at_ w1 := ⟨fun q m => by
        rw [s.rest] at m
        rcases List.mem_append.mp m with m | m
        · exact s.pcs q m
        · exact h.pcs q (by rw [e]; exact List.mem_cons_of_mem _ m), LabOk.step (stF s.step) lab, by omega, by omega, by omega, s.sc⟩
      obtain ⟨w', g1, g2, g3, g4⟩ := wrF_total k w1 sm (by omega)
      refine ⟨w', ?_, g2, by rw [← e]; omega, by rw [← e]; omega⟩
      unfold wrF
      rw [e]
      dsimp only
      rw [if_pos (show r.length ≤ 900000 by omega), s.step]
      exact g1
theorem wrAll_total {k : Nat} (hk : 100000 < k) : ∀ (n : Nat) (done rest : List DSt), (∀ d ∈ rest, Fresh d ∧ Scd d.t d.sc ∧ d.p ≤ 100000) → dsW rest < n → done.length + dsW rest ≤ 400000 → (∀ d ∈ done, d.l ≤ many) → ∃ ds, wrAll k n done rest = some ds ∧ (∀ d ∈ ds, d.l ≤ many) ∧ ds.length ≤ 400000
  | 0, done, rest, _, hn, _, _ => by omega
  | n + 1, done, [], _, hn, hd, hl => ⟨done, rfl, hl, by omega⟩
  | n + 1, done, d :: rest, hf, hn, hd, hl => by
    obtain ⟨⟨f1, f2, f3⟩, sc, hp⟩ := hf d List.mem_cons_self
    have eW : dsW (d :: rest) = wT d.t + 2 + dsW rest := rfl
    rw [eW] at hn hd
    have lr := dsW_len rest
    have sm := sc.small
    obtain ⟨w, g1, g2, g3, g4⟩ := wrF_total (at_ := done.length + 1 + rest.length) k ⟨d.l, d.ins, d.tgs, [.tree d.t d.sc true], []⟩ ⟨fun p m => by
      rw [List.mem_singleton.mp m]; exact sc, ⟨List.nodup_nil, fun n m => by cases m⟩, by rw [f2]; show 0 + (wT d.t + 0) ≤ _; omega, by rw [f3]; show 0 + (wT d.t + 0) ≤ _; omega, by show _ + 0 + (wT d.t + 0) ≤ _; omega, fun e m => by cases m⟩ (by show wT d.t + 0 < k; omega)
    have fr : ∀ e ∈ w.news, Fresh e := wrF_fresh k _ _ g1 (fun e m => by cases m)
    have g3 : w.l ≤ d.l + (wT d.t + 0) := g3
    have g4 : dsW w.news ≤ 0 + (wT d.t + 0) := g4
    have m6 : many = 1000000 := rfl
    obtain ⟨ds, a1, a2, a3⟩ := wrAll_total hk n (done ++ [{ d with l := w.l, ins := w.ins, tgs := w.tgs }]) (rest ++ w.news) (fun e m => (List.mem_append.mp m).elim (fun z => hf e (List.mem_cons_of_mem _ z)) fun z => ⟨fr e z, g2 e z⟩) (by rw [dsW_app]; omega) (by rw [dsW_app, List.length_append, List.length_singleton]; omega) (fun e m => (List.mem_append.mp m).elim (hl e) fun z => by
      rw [List.mem_singleton.mp z]
      show w.l ≤ many
      omega)
    refine ⟨ds, ?_, a2, a3⟩
    unfold wrAll
    have hw : wrD (done.length + 1 + rest.length) k d = some w := g1
    rw [hw]
    exact a1
end My
namespace My
open PySem PySem.Spec PyProof.Rows L2 TL
/-! ### what an instruction of a draft points at is there in the end -/
def RefI (at_ : Nat) (w : WSt) : DIn → Prop
  | .jump n => n ∈ labs w.rest ∨ ∃ a, w.tgs[n]? = some (some a)
  | .unless n => n ∈ labs w.rest ∨ ∃ a, w.tgs[n]? = some (some a)
  | .fn k _ => at_ ≤ k ∧ k < at_ + w.news.length
  | _ => True
theorem lab_next {w w1 : WSt} {p : Pc} {r : List Pc} {at_ n : Nat} (h : wrStep at_ { w with rest := r } p = some w1) (e : n ∈ labs (p :: r) ∨ ∃ a, w.tgs[n]? = some (some a)) : n ∈ labs w1.rest ∨ ∃ a, w1.tgs[n]? = some (some a) := by
  have f := stF h
  obtain ⟨ex, x1, _⟩ := f.rest
  by_cases c : p = .label n
  · subst c
    obtain ⟨ln, rfl⟩ := gate_ok h
    exact .inr ⟨_, List.getElem?_set_self ln⟩
  · rcases e with e | ⟨a, e⟩
    · left
      rw [x1, labs_app]
      refine List.mem_append_right _ ?_
      cases p with
      | label m =>
        rcases List.mem_cons.mp e with e | e
        · exact absurd (by rw [e]) c
        · exact e
      | tree _ _ _ => exact e
      | write _ => exact e
    · right
      exact ⟨a, (f.tg n (List.getElem?_eq_some_iff.mp e).1 c).trans e⟩
theorem RefI.next {w w1 : WSt} {p : Pc} {r : List Pc} {at_ : Nat} {d : DIn} (he : w.rest = p :: r) (h : wrStep at_ { w with rest := r } p = some w1) (q : RefI at_ w d) : RefI at_ w1 d := by
  cases d with
  | jump n =>
    have q : n ∈ labs w.rest ∨ ∃ a, w.tgs[n]? = some (some a) := q
    rw [he] at q
    exact lab_next h q
  | «unless» n =>
    have q : n ∈ labs w.rest ∨ ∃ a, w.tgs[n]? = some (some a) := q
    rw [he] at q
    exact lab_next h q
  | fn k ss =>
    obtain ⟨m, e⟩ := (stF h).news
    have e : w1.news = w.news ++ m := e
    have q : at_ ≤ k ∧ k < at_ + w.news.length := q
    show at_ ≤ k ∧ k < at_ + w1.news.length
    rw [e, List.length_append]
    omega
  | _ => trivial
theorem write_letPs {sc : Sc} {d : DIn} : ∀ {ts : List Tr} {f : Nat}, Pc.write d ∈ letPs sc f ts → ∃ n, d = .put n
  | [], f, m => by cases m
  | t :: ts, f, m => by
    rcases List.mem_cons.mp m with e | m
    · cases e
    rcases List.mem_cons.mp m with e | m
    · cases e; exact ⟨f, rfl⟩
    · exact write_letPs m
theorem write_leafP {d d' : DIn} {last : Bool} (m : Pc.write d ∈ leafP d' last) : d = d' ∨ d = .end_ := by
  unfold leafP at m
  split at m
  · rcases List.mem_cons.mp m with e | m
    · cases e; exact .inl rfl
    · cases List.mem_singleton.mp m; exact .inr rfl
  · cases List.mem_singleton.mp m; exact .inl rfl
theorem write_trees {sc : Sc} {d : DIn} {ts : List Tr} (m : Pc.write d ∈ ts.map fun t => Pc.tree t sc false) : False := by
  obtain ⟨t, _, e⟩ := List.mem_map.mp m
  cases e
structure Refs (at_ : Nat) (w : WSt) : Prop where
  i : ∀ d ∈ w.ins, RefI at_ w d
  r : ∀ d, Pc.write d ∈ w.rest → RefI at_ w d
theorem Refs.step {w w1 : WSt} {p : Pc} {r : List Pc} {at_ : Nat} (he : w.rest = p :: r) (h : wrStep at_ { w with rest := r } p = some w1) (q : Refs at_ w) : Refs at_ w1 := by
  have old : ∀ d, Pc.write d ∈ r → RefI at_ w1 d := fun d m => (q.r d (by rw [he]; exact List.mem_cons_of_mem _ m)).next he h
  have insO : ∀ d ∈ w.ins, RefI at_ w1 d := fun d m => (q.i d m).next he h
  have mk : ∀ {ex : List Pc}, w1.ins = w.ins → w1.rest = ex ++ r → (∀ d, Pc.write d ∈ ex → RefI at_ w1 d) → Refs at_ w1 := fun {ex} e1 e2 e3 => ⟨fun d m => insO d (by rw [← e1]; exact m), fun d m => by
    rw [e2] at m
    rcases List.mem_append.mp m with m | m
    · exact e3 d m
    · exact old d m⟩
  have leaf : ∀ {d0 : DIn} {last : Bool}, w1.ins = w.ins → w1.rest = leafP d0 last ++ r → RefI at_ w1 d0 → Refs at_ w1 := fun {d0 last} e1 e2 e3 => mk e1 e2 fun d m => by
    rcases write_leafP m with e | e
    · rw [e]; exact e3
    · rw [e]; trivial
  cases p with
  | write d =>
    have qd := (q.r d (by rw [he]; exact List.mem_cons_self)).next he h
    obtain ⟨_, rfl⟩ := gate_ok h
    refine ⟨fun x m => ?_, old⟩
    rcases List.mem_append.mp m with m | m
    · exact insO x m
    · rw [List.mem_singleton.mp m]; exact qd
  | label n => obtain ⟨_, rfl⟩ := gate_ok h; exact mk (ex := []) rfl rfl (fun d m => by cases m)
  | tree t sc last =>
    cases t with
    | int i => cases h; exact leaf rfl rfl trivial
    | prim s => cases h; exact leaf rfl rfl trivial
    | glob m x => cases h; exact leaf rfl rfl trivial
    | loc n =>
      unfold wrStep at h
      dsimp only at h
      cases hs : scGet n sc with
      | none => rw [hs] at h; cases h
      | some s => rw [hs] at h; cases h; exact leaf rfl rfl trivial
    | fn ns b =>
      unfold wrStep at h
      dsimp only at h
      cases hs : ssOf sc (outT (.fn ns b)) with
      | none => rw [hs] at h; cases h
      | some ss =>
        rw [hs] at h
        obtain ⟨_, rfl⟩ := gate_ok h
        refine leaf rfl rfl ?_
        show at_ ≤ at_ + w.news.length ∧ at_ + w.news.length < at_ + (w.news ++ [_]).length
        rw [List.length_append, List.length_singleton]
        omega
    | let_ ns ts b =>
      obtain ⟨_, rfl⟩ := gate_ok h
      refine mk (ex := letP ns ts b w.l sc last) rfl rfl fun d m => ?_
      unfold letP at m
      rcases List.mem_append.mp m with m | m
      · obtain ⟨n, e⟩ := write_letPs m
        rw [e]; trivial
      · cases List.mem_singleton.mp m
    | call f ts =>
      cases h
      refine mk (ex := callP f ts sc last) rfl rfl fun d m => ?_
      unfold callP at m
      rcases List.mem_append.mp m with m | m
      · exact (write_trees m).elim
      · have e := List.mem_singleton.mp m
        cases e
        split <;> trivial
    | if_ a b c =>
      obtain ⟨_, rfl⟩ := gate_ok h
      refine mk (ex := ifP a b c sc last w.tgs.length) rfl rfl fun d m => ?_
      have lb : ∀ n, n ∈ labs (ifP a b c sc last w.tgs.length) → n ∈ labs (ifP a b c sc last w.tgs.length ++ r) := fun n z => by
        rw [labs_app]; exact List.mem_append_left _ z
      cases last with
      | true =>
        simp only [ifP, if_true, List.mem_cons, List.not_mem_nil, or_false, Pc.write.injEq, reduceCtorEq, false_or] at m
        subst m
        exact .inl (lb _ (by simp [ifP, labs]))
      | false =>
        simp only [ifP, Bool.false_eq_true, if_false, List.mem_cons, List.not_mem_nil, or_false, Pc.write.injEq, reduceCtorEq, false_or] at m
        rcases m with m | m
        · subst m
          exact .inl (lb _ (by simp [ifP, labs]))
        · subst m
          exact .inl (lb _ (by simp [ifP, labs]))
theorem wrF_refs {at_ : Nat} : ∀ (k : Nat) (w w' : WSt), wrF at_ k w = some w' → Refs at_ w → w'.rest = [] ∧ Refs at_ w'
  | 0, w, w', h, _ => by cases h
  | k + 1, w, w', h, q => by
    cases e : w.rest with
    | nil =>
      unfold wrF at h
      rw [e] at h
      cases h
      exact ⟨e, q⟩
    | cons p r =>
      obtain ⟨w1, h1, h2⟩ := wrF_cons e h
      exact wrF_refs k w1 w' h2 (Refs.step e h1 q)
theorem wrF_ins {at_ : Nat} : ∀ (k : Nat) (w w' : WSt), wrF at_ k w = some w' → w.ins.length ≤ 900000 → w'.ins.length ≤ 900000
  | 0, w, w', h, _ => by cases h
  | k + 1, w, w', h, q => by
    cases e : w.rest with
    | nil =>
      unfold wrF at h
      rw [e] at h
      cases h
      exact q
    | cons p r =>
      obtain ⟨w1, h1, h2⟩ := wrF_cons e h
      refine wrF_ins k w1 w' h2 ?_
      cases p with
      | write d =>
        obtain ⟨l, rfl⟩ := gate_ok h1
        have l : w.ins.length < 900000 := l
        show (w.ins ++ [d]).length ≤ 900000
        rw [List.length_append, List.length_singleton]
        omega
      | label n => obtain ⟨_, rfl⟩ := gate_ok h1; exact q
      | tree t sc last =>
        cases t with
        | int i => cases h1; exact q
        | prim s => cases h1; exact q
        | glob m x => cases h1; exact q
        | loc n =>
          unfold wrStep at h1
          dsimp only at h1
          cases hs : scGet n sc with
          | none => rw [hs] at h1; cases h1
          | some s => rw [hs] at h1; cases h1; exact q
        | fn ns b =>
          unfold wrStep at h1
          dsimp only at h1
          cases hs : ssOf sc (outT (.fn ns b)) with
          | none => rw [hs] at h1; cases h1
          | some ss => rw [hs] at h1; obtain ⟨_, rfl⟩ := gate_ok h1; exact q
        | let_ ns ts b => obtain ⟨_, rfl⟩ := gate_ok h1; exact q
        | call f ts => cases h1; exact q
        | if_ a b c => obtain ⟨_, rfl⟩ := gate_ok h1; exact q
theorem finC_some {tgs : List (Option Nat)} {cs : Nat → Option Code} : ∀ {ds : List DIn}, (∀ d ∈ ds, ∃ i, finI tgs cs d = some i) → ∃ is, finC tgs cs ds = some is
  | [], _ => ⟨[], rfl⟩
  | d :: r, h => by
    obtain ⟨i, h1⟩ := h d List.mem_cons_self
    obtain ⟨is, h2⟩ := finC_some (ds := r) fun e m => h e (List.mem_cons_of_mem _ m)
    exact ⟨i :: is, by unfold finC; rw [h1, h2]⟩
theorem codesF_total {ds : List DSt} {k : Nat} (hw : ∀ idx, idx < ds.length → WrAt ds k idx) : ∀ (i : Nat) (cs : Nat → Option Code), i ≤ ds.length → (∀ j, i ≤ j → j < ds.length → ∃ c, cs j = some c) → ∃ cs', codesF ds i cs = some cs' ∧ ∀ j, j < ds.length → ∃ c, cs' j = some c
  | 0, cs, _, h => ⟨cs, rfl, fun j hj => h j (Nat.zero_le _) hj⟩
  | i + 1, cs, hi, h => by
    obtain ⟨d0, w, at_, ⟨f1, f2, f3⟩, hwd, hds, hlt, hn⟩ := hw i (by omega)
    unfold wrD at hwd
    obtain ⟨r0, rf⟩ := wrF_refs k _ _ hwd ⟨fun d m => (by rw [f2] at m; cases m), fun d m => (by cases List.mem_singleton.mp m)⟩
    have li := wrF_ins k _ _ hwd (by rw [f2]; exact Nat.zero_le _)
    obtain ⟨is, his⟩ := finC_some (tgs := w.tgs) (cs := cs) (ds := w.ins) fun d m => by
      have q := rf.i d m
      cases d with
      | jump n =>
        have q : n ∈ labs w.rest ∨ ∃ a, w.tgs[n]? = some (some a) := q
        rw [r0] at q
        rcases q with q | ⟨a, q⟩
        · cases q
        · exact ⟨.jump a, by rw [finI_jump, q]⟩
      | «unless» n =>
        have q : n ∈ labs w.rest ∨ ∃ a, w.tgs[n]? = some (some a) := q
        rw [r0] at q
        rcases q with q | ⟨a, q⟩
        · cases q
        · exact ⟨.unless a, by rw [finI_unless, q]⟩
      | fn c ss =>
        obtain ⟨q1, q2⟩ : at_ ≤ c ∧ c < at_ + w.news.length := q
        have lj : c - at_ < w.news.length := by omega
        obtain ⟨e', b1, _⟩ := hn (c - at_) _ (List.getElem?_eq_getElem lj)
        rw [show at_ + (c - at_) = c by omega] at b1
        obtain ⟨cc, hc⟩ := h c (by omega) (List.getElem?_eq_some_iff.mp b1).1
        exact ⟨.fn cc ss, by rw [finI_fn, hc]; rfl⟩
      | _ => exact ⟨_, rfl⟩
    obtain ⟨cs', g1, g2⟩ := codesF_total hw i (fun j => if j = i then some (.mk d0.p w.l is) else cs j) (by omega) (fun j h1 h2 => by
      by_cases c : j = i
      · exact ⟨_, if_pos c⟩
      · obtain ⟨cc, hc⟩ := h j (by omega) h2
        exact ⟨cc, (if_neg c).trans hc⟩)
    refine ⟨cs', ?_, g2⟩
    unfold codesF
    rw [hds]
    dsimp only
    rw [if_pos (show w.ins.length ≤ 1000000 by omega), his]
    exact g1
/-- every closed small tree is compiled, and lies in its code -/
theorem comp_ok {t : Tr} (hv : ∀ x, ¬ fv x t) (hs : wT t ≤ 100000) (hd : depT t ≤ 900) {k n : Nat} (hk : 100000 < k) (hn : wT t + 2 < n) : ∃ c, compF k n t = some c ∧ CodeOf t c := by
  have sc : Scd t [] := ⟨fun x h => absurd h (hv x), by show 0 + wT t ≤ _; omega, hs, hd⟩
  obtain ⟨ds, a1, a2, a3⟩ := wrAll_total hk n [] [⟨0, 0, [], [], t, []⟩] (fun d m => by
    rw [List.mem_singleton.mp m]
    exact ⟨⟨rfl, rfl, rfl⟩, sc, Nat.zero_le _⟩) (by show wT t + 2 + 0 < n; omega) (by show 0 + (wT t + 2 + 0) ≤ _; omega) (fun d m => by cases m)
  obtain ⟨_, b2, b3⟩ := wrAll_facts n [] _ ds a1 (fun e m => by rw [List.mem_singleton.mp m]; exact ⟨rfl, rfl, rfl⟩)
  obtain ⟨d', e1, _⟩ := b2 0 _ rfl
  obtain ⟨cs, g1, g2⟩ := codesF_total (fun idx hi => b3 idx (Nat.zero_le _) hi) ds.length (fun _ => none) (Nat.le_refl _) (fun j h1 h2 => by omega)
  obtain ⟨c, hc⟩ := g2 0 (List.getElem?_eq_some_iff.mp e1).1
  have hcomp : compF k n t = some c := by
    unfold compF
    rw [a1]
    dsimp only
    rw [if_pos (show ds.length ≤ 900000 by omega), g1]
    exact hc
  exact ⟨c, hcomp, comp_lay hcomp fun ds' h' d m => by rw [a1] at h'; cases h'; exact a2 d m⟩
end My
namespace My
open PySem PySem.Spec PyProof.Rows L2 TL
/-! ### what is shown of a value is the same -/
theorem show_VR {v v' : Vl} (h : VR v v') : ∀ ar c, showF v ar c = showF v' ar c := by
  induction h with
  | int i => exact fun _ _ => rfl
  | prim p => exact fun _ _ => rfl
  | pair h1 h2 i1 i2 =>
    intro ar c
    unfold showF
    rw [i1, i2]
  | fn _ _ _ _ _ _ => exact fun _ _ => rfl
/-- the codes of a list of definitions -/
theorem codes_ok : ∀ (ds : List ((Str × Str) × Tr)), (∀ d ∈ ds, (∀ x, ¬ fv x d.2) ∧ wT d.2 ≤ 100000 ∧ depT d.2 ≤ 900) → ∃ es, CodesOf ds es
  | [], _ => ⟨[], .nil⟩
  | (key, t) :: ds, h => by
    obtain ⟨h1, h2, h3⟩ : (∀ x, ¬ fv x t) ∧ wT t ≤ 100000 ∧ depT t ≤ 900 := h _ List.mem_cons_self
    obtain ⟨c, _, hc⟩ := comp_ok (k := 100001) (n := wT t + 3) h1 h2 h3 (by omega) (by omega)
    obtain ⟨es, he⟩ := codes_ok ds fun d m => h d (List.mem_cons_of_mem _ m)
    exact ⟨(key, c) :: es, .cons hc he⟩
end My
namespace My
open PySem PySem.Spec PyProof.Rows L2 TL
/-! ### the draws' state among frames -/
theorem Sm.kpT2 {H H' : Hp} {S L : Addr} (s : Sm (Two S L) H H') (l : LS H S L) : KpT H H' := fun a xs h => s.keep a _ (fun z => by
  obtain ⟨cs, d, h1, h2, _⟩ := l
  rcases z with z | z
  · rw [z, h1] at h; cases h
  · rw [z, h2] at h; cases h) rfl h
theorem frTwo {H H' : Hp} {S L : Addr} (s : Sm (Two S L) H H') (l : LS H S L) : Fr (Two S L) H H' := ⟨s, s.kpT2 l⟩
theorem LS.two {H : Hp} {S L p : Addr} (h : LS H S L) (hp : H p = none) : ¬ Two S L p := by
  obtain ⟨h1, h2⟩ := h.some
  rintro (z | z)
  · rw [z] at hp; exact h1 hp
  · rw [z] at hp; exact h2 hp
theorem LS.laid {H : Hp} {S L p : Addr} {o : HO} (h : LS H S L) (hp : H p = none) : LS (upd H p o) S L := h.sm (Sm.new hp)
theorem LS.put {H : Hp} {S L p : Addr} {o : HO} (h : LS H S L) (hp : ¬ Two S L p) : LS (upd H p o) S L := by
  obtain ⟨cs, d, a1, a2, a3⟩ := h
  exact ⟨cs, d, by rw [upd_ne (fun z => hp (.inl z.symm))]; exact a1, by rw [upd_ne (fun z => hp (.inr z.symm))]; exact a2, a3⟩
theorem nbs {n : Int} (h : n.natAbs ≤ 2000000000) : n.natAbs < 2 ^ 8000 :=
  Nat.lt_of_lt_of_le (Nat.lt_of_le_of_lt h (show 2000000000 < 2 ^ 32 by decide)) (Nat.pow_le_pow_right (by decide) (by decide))
end My
namespace My
open PySem PySem.Spec PyProof.Rows L2 TL
/-! ### _law_same of the same data -/
inductive Dq where
  | int (i : Int) | str (s : Str) | tup (ds : List Dq)
mutual
inductive RDq (H : Hp) : V → Dq → Prop
  | int (i : Int) : RDq H (.int i) (.int i)
  | str (s : Str) : RDq H (.str s) (.str s)
  | tup {a : Addr} {vs : List V} {ds : List Dq} (h : H a = some (.tup vs)) (r : RDqs H vs ds) : RDq H (.ref a) (.tup ds)
inductive RDqs (H : Hp) : List V → List Dq → Prop
  | nil : RDqs H [] []
  | cons {v : V} {d : Dq} {vs : List V} {ds : List Dq} (r : RDq H v d) (rs : RDqs H vs ds) : RDqs H (v :: vs) (d :: ds)
end
mutual
theorem RDq.keep {H H' : Hp} (k : KpT H H') : ∀ {v : V} {d : Dq}, RDq H v d → RDq H' v d
  | _, _, .int i => .int i
  | _, _, .str s => .str s
  | _, _, .tup h r => .tup (k _ _ h) (RDqs.keep k r)
theorem RDqs.keep {H H' : Hp} (k : KpT H H') : ∀ {vs : List V} {ds : List Dq}, RDqs H vs ds → RDqs H' vs ds
  | _, _, .nil => .nil
  | _, _, .cons r rs => .cons (RDq.keep k r) (RDqs.keep k rs)
end
theorem RDqs.len {H : Hp} : ∀ {vs : List V} {ds : List Dq}, RDqs H vs ds → vs.length = ds.length
  | _, _, .nil => rfl
  | _, _, .cons _ r => congrArg (· + 1) (RDqs.len r)
theorem RDqs.get {H : Hp} : ∀ {vs : List V} {ds : List Dq} {i : Nat}, RDqs H vs ds → i < ds.length → ∃ v d, vs[i]? = some v ∧ ds[i]? = some d ∧ RDq H v d
  | _, _, _, .nil, e => by simp at e
  | _, _, 0, .cons r _, _ => ⟨_, _, rfl, rfl, r⟩
  | _, _, i + 1, .cons _ rs, e => by
    obtain ⟨v, d, h1, h2, h3⟩ := RDqs.get (i := i) rs (by simpa using e)
    exact ⟨v, d, by simpa using h1, by simpa using h2, h3⟩
mutual
def depQ : Dq → Nat
  | .tup ds => 1 + depQs ds
  | _ => 1
def depQs : List Dq → Nat
  | [] => 0
  | d :: ds => max (depQ d) (depQs ds)
end
theorem depQs_mem : ∀ {ds : List Dq} {d : Dq}, d ∈ ds → depQ d ≤ depQs ds
  | [], _, h => by cases h
  | x :: r, t, h => by
    unfold depQs
    rcases List.mem_cons.mp h with e | e
    · rw [e]; exact Nat.le_max_left _ _
    · exact Nat.le_trans (depQs_mem e) (Nat.le_max_right _ _)
mutual
def widQ : Dq → Prop
  | .tup ds => ds.length ≤ 900 ∧ widQs ds
  | _ => True
def widQs : List Dq → Prop
  | [] => True
  | d :: ds => widQ d ∧ widQs ds
end
theorem widQs_mem : ∀ {ds : List Dq} {d : Dq}, widQs ds → d ∈ ds → widQ d
  | [], _, _, h => by cases h
  | x :: r, t, w, h => by
    unfold widQs at w
    rcases List.mem_cons.mp h with e | e
    · rw [e]; exact w.1
    · exact widQs_mem w.2 e
theorem depQ_pos (d : Dq) : 1 ≤ depQ d := by
  cases d <;> (unfold depQ; omega)
def Sh.dq : Sh → Dq
  | .int i => .int i
  | .fn => .str "fn"
  | .more => .str "more"
  | .pair a b => .tup [.str "pair", a.dq, b.dq]
theorem RSh.dq {H : Hp} : ∀ {v : V} {s : Sh}, RSh H v s → RDq H v s.dq
  | _, _, .int i => .int i
  | _, _, .fn => .str _
  | _, _, .more => .str _
  | _, _, .pair h r s => .tup h (.cons (.str _) (.cons (RSh.dq r) (.cons (RSh.dq s) .nil)))
abbrev sSam : Stmt := top 72
abbrev NSa : List Str := ["one", "two", "k"]
def spSam : Nat → Sp
  | 0 => fun _ _ _ _ => False
  | n + 1 => fun vs H Q _ => ∃ (u v : V) (d : Dq), vs = [u, v] ∧ RDq H u d ∧ RDq H v d ∧ depQ d ≤ n + 1 ∧ widQ d ∧ ∀ H', Fr No H H' → Q (.bl true) H'
section
variable {P : Program} {w : World} {K : PySem.W.Frag} {mg : Str → Option Value} {base : Heap}
theorem scSam : FnScope NSa ["one", "two"] (defScope sSam) := ⟨rfl, rfl, rfl, by decide +kernel, rfl, by decide +kernel, by decide +kernel⟩
theorem ok_sam {f : Addr} {fd : FuncData} (F : Fun K "_law_same" "_law_same" sSam f fd) (B : Blt mg) (gS : mg "_law_same" = some (.ref f)) (kS : PySem.W.keepIn K (.ref f) = true) (bS : Binds K fd ["one", "two"] []) : ∀ n : Nat, FnOk P w K mg base CX0 n f fd ["one", "two"] (spSam n)
  | 0 => fn_none
  | n + 1 => by
    have IH : Cal P w K mg base CX0 n "_law_same" ["one", "two"] (spSam n) f fd := ⟨ok_sam F B gS kS bS n, kS, gS, bS⟩
    refine F.ok scSam (fun vs H Q E h => ?_) (fun cdv A outer s H vs Q E hr h => ?_)
    · obtain ⟨u, v, d, rfl, _⟩ := h
      rfl
    obtain ⟨u, v, d, rfl, ru, rv, dd, wd, q⟩ := h
    have nd := scSam.nd
    refine ⟨_, (pss_cons (ps_if (PW.pt (pw_and (pt_val (pe_callB call_isiT (by rfl) B.isinstance (by decide +kernel) (pa_cons (pv 0) (pa_cons (pe_tup (pa_cons (pe_bltn (v := .ty "list") (by rfl) B.list (by decide +kernel) rfl) (pa_cons (pe_bltn (v := .ty "tuple") (by rfl) B.tuple (by decide +kernel) rfl) pa_nil))) pa_nil)))) (pw_and1 (pt_val (pe_callB call_isiT (by rfl) B.isinstance (by decide +kernel) (pa_cons (pv 1) (pa_cons (pe_tup (pa_cons (pe_bltn (v := .ty "list") (by rfl) B.list (by decide +kernel) rfl) (pa_cons (pe_bltn (v := .ty "tuple") (by rfl) B.tuple (by decide +kernel) rfl) pa_nil))) pa_nil))))))) (pss_cons (ps_if (PW.pt (pw_or (pt_cmpR op_ne (pe_callB call_isi (by rfl) B.isinstance (by decide +kernel) (pa_cons (pv 0) (pa_cons (pe_bltn (v := .ty "list") (by rfl) B.list (by decide +kernel) rfl) pa_nil))) (pe_callB call_isi (by rfl) B.isinstance (by decide +kernel) (pa_cons (pv 1) (pa_cons (pe_bltn (v := .ty "list") (by rfl) B.list (by decide +kernel) rfl) pa_nil))) (nomark _)) (pw_or1 (pt_cmpR op_ne (pe_callB call_len_seq (by rfl) B.len PySem.boot_len (pa_cons (pv 0) pa_nil)) (pe_callB call_len_seq (by rfl) B.len PySem.boot_len (pa_cons (pv 1) pa_nil)) (nomark _))))) (pss_one (ps_ret pe_bl)) pss_nil)
      (pss_one (ps_ret (pe_cmpR op_eq (pe_callB call_len_seq (by rfl) B.len PySem.boot_len (pa_cons (pe_lc (own := [("k", 2)]) (g := gName 2) rfl nd (pi_range1 (by rfl) B.range (pa_cons (pe_callB call_len_seq (by rfl) B.len PySem.boot_len (pa_cons (pv 0) pa_nil)) pa_nil)) (blkOk_by (N := NSa) (sc := defScope sSam) (by decide +kernel)) (fun _ _ _ _ _ => (pg_name (i := 2) nd rfl (Or.inl rfl) (hf := Or.inr rfl))) (fun _ _ _ _ _ => pts_one (pt_not (pt_val (pe_call IH.ok hr rfl IH.g IH.k IH.b .nil pass0 (pa_cons (pe_ix (r := rIxT K) ix_tup (pv 0) (pv 2) (fun _ _ => rfl)) (pa_cons (pe_ix (r := rIxT K) ix_tup (pv 1) (pv 2) (fun _ _ => rfl)) pa_nil)))))) (fun _ _ _ _ _ => (pv 2))) pa_nil)) pe_int (nomark _))))) pss_nil)
    (pss_cons (ps_if (PW.pt (pw_and (pt_val (pe_callB call_isi (by rfl) B.isinstance (by decide +kernel) (pa_cons (pv 0) (pa_cons (pe_bltn (v := .ty "int") (by rfl) B.int (by decide +kernel) rfl) pa_nil)))) (pw_and1 (pt_val (pe_callB call_isi (by rfl) B.isinstance (by decide +kernel) (pa_cons (pv 1) (pa_cons (pe_bltn (v := .ty "int") (by rfl) B.int (by decide +kernel) rfl) pa_nil))))))) (pss_one (ps_ret (pe_and (pe_not (pe_callB call_isi (by rfl) B.isinstance (by decide +kernel) (pa_cons (pv 0) (pa_cons (pe_bltn (v := .ty "bool") (by rfl) B.bool (by decide +kernel) rfl) pa_nil)))) (pe_and (pe_not (pe_callB call_isi (by rfl) B.isinstance (by decide +kernel) (pa_cons (pv 1) (pa_cons (pe_bltn (v := .ty "bool") (by rfl) B.bool (by decide +kernel) rfl) pa_nil)))) (pe_one (pe_cmpR op_eq (pv 0) (pv 1) (nomark _))))))) pss_nil)
    (pss_one (ps_ret (pe_and (pe_callB call_isi (by rfl) B.isinstance (by decide +kernel) (pa_cons (pv 0) (pa_cons (pe_bltn (v := .ty "str") (by rfl) B.str (by decide +kernel) rfl) pa_nil))) (pe_and (pe_callB call_isi (by rfl) B.isinstance (by decide +kernel) (pa_cons (pv 1) (pa_cons (pe_bltn (v := .ty "str") (by rfl) B.str (by decide +kernel) rfl) pa_nil))) (pe_one (pe_cmpR op_eq (pv 0) (pv 1) (nomark _))))))))), ?_⟩
    have ka : ∀ {a : String} {r1 r2 : Bool}, kitB a "list" = some r1 → kitB a "tuple" = some r2 → PySem.W.kitAny K (.type a) [.type "list", .type "tuple"] = some (r1 || r2) := fun {a r1 r2} h1 h2 =>
      kitAny_cons (kit_ty h1) (fun e => kitAny_cons (kit_ty h2) (fun e2 => by rw [e, e2]; rfl) fun e2 => by rw [e2]; simp) fun e => by rw [e]; rfl
    cases ru with
    | int i =>
      cases rv
      refine ⟨_, rfl, by show 2 ≤ sizeLine; decide, fun t ht => ⟨.int i, t, _, _, _, _, rfl, upd_same, .cons (.ty _) (.cons (.ty _) .nil), .base (.int i), ka (show kitB "int" "list" = some false by decide +kernel) (show kitB "int" "tuple" = some false by decide +kernel), _, rfl, iteF (iteF ?_)⟩⟩
      have f1 : Fr No H (upd H t (.tup [.ty "list", .ty "tuple"])) := Fr.new ht
      refine ⟨_, rfl, _, _, _, _, true, rfl, .ty "int", .base (.int i), kit_ty (show kitB "int" "int" = some true by decide +kernel), _, rfl, iteT ⟨_, rfl, _, _, _, _, true, rfl, .ty "int", .base (.int i), kit_ty (show kitB "int" "int" = some true by decide +kernel), _, rfl, iteT ?_⟩⟩
      refine ⟨_, rfl, _, _, _, _, false, rfl, .ty "bool", .base (.int i), kit_ty (show kitB "int" "bool" = some false by decide +kernel), _, rfl, _, rfl, iteT ?_⟩
      refine ⟨_, rfl, _, _, _, _, false, rfl, .ty "bool", .base (.int i), kit_ty (show kitB "int" "bool" = some false by decide +kernel), _, rfl, _, rfl, iteT ?_⟩
      refine ⟨_, rfl, _, rfl, rfl, ?_⟩
      rw [decide_eq_true rfl]
      exact q _ f1
    | str z =>
      cases rv
      refine ⟨_, rfl, by show 2 ≤ sizeLine; decide, fun t ht => ⟨.str z, t, _, _, _, _, rfl, upd_same, .cons (.ty _) (.cons (.ty _) .nil), .base (.str z), ka (show kitB "str" "list" = some false by decide +kernel) (show kitB "str" "tuple" = some false by decide +kernel), _, rfl, iteF (iteF ?_)⟩⟩
      have f1 : Fr No H (upd H t (.tup [.ty "list", .ty "tuple"])) := Fr.new ht
      refine ⟨_, rfl, _, _, _, _, false, rfl, .ty "int", .base (.str z), kit_ty (show kitB "str" "int" = some false by decide +kernel), _, rfl, iteF (iteF ?_)⟩
      refine ⟨_, rfl, _, _, _, _, true, rfl, .ty "str", .base (.str z), kit_ty (show kitB "str" "str" = some true by decide +kernel), _, rfl, iteT ?_⟩
      refine ⟨_, rfl, _, _, _, _, true, rfl, .ty "str", .base (.str z), kit_ty (show kitB "str" "str" = some true by decide +kernel), _, rfl, iteT ?_⟩
      refine ⟨_, rfl, _, rfl, rfl, ?_⟩
      rw [decide_eq_true rfl]
      exact q _ f1
    | @tup a us ds ha ra =>
      cases rv with
      | @tup b vs _ hb rb =>
      have lu := ra.len
      have lv := rb.len
      refine ⟨_, rfl, by show 2 ≤ sizeLine; decide, fun t ht => ⟨.ref a, t, _, _, _, _, rfl, upd_same, .cons (.ty _) (.cons (.ty _) .nil), .base (.tup ((Fr.new (X := No) ht).tup _ _ ha)), ka (show kitB "tuple" "list" = some false by decide +kernel) (show kitB "tuple" "tuple" = some true by decide +kernel), _, rfl, iteT ?_⟩⟩
      refine ⟨_, rfl, by show 2 ≤ sizeLine; decide, fun t' ht' => ?_⟩
      have f1 : Fr No H (upd H t (.tup [.ty "list", .ty "tuple"])) := Fr.new ht
      have f2 : Fr No (upd H t (.tup [.ty "list", .ty "tuple"])) (upd (upd H t (.tup [.ty "list", .ty "tuple"])) t' (.tup [.ty "list", .ty "tuple"])) := Fr.new ht'
      have f := f1.trans f2
      have et : upd (upd H t (.tup [.ty "list", .ty "tuple"])) t' (.tup [.ty "list", .ty "tuple"]) t' = some (.tup [.ty "list", .ty "tuple"]) := upd_same
      generalize upd (upd H t (.tup [.ty "list", .ty "tuple"])) t' (.tup [.ty "list", .ty "tuple"]) = H1 at f et ⊢
      have ha1 := f.tup _ _ ha
      have hb1 := f.tup _ _ hb
      refine ⟨.ref b, t', _, _, _, _, rfl, et, .cons (.ty _) (.cons (.ty _) .nil), .base (.tup hb1), ka (show kitB "tuple" "list" = some false by decide +kernel) (show kitB "tuple" "tuple" = some true by decide +kernel), _, rfl, iteT ?_⟩
      refine ⟨_, rfl, _, _, _, _, false, rfl, .ty "list", .base (.tup ha1), kit_ty (show kitB "tuple" "list" = some false by decide +kernel), _, rfl, _, _, _, _, false, rfl, .ty "list", .base (.tup hb1), kit_ty (show kitB "tuple" "list" = some false by decide +kernel), rfl, _, rfl, iteF ?_⟩
      refine ⟨_, rfl, a, _, rfl, .inr (SqT.of ha1), _, rfl, b, _, rfl, .inr (SqT.of hb1), rfl, _, rfl, ?_⟩
      have lab : us.length = vs.length := by rw [lu, lv]
      rw [lab, decide_eq_true rfl]
      refine iteF ?_
      unfold depQ at dd
      unfold widQ at wd
      have l900 : vs.length ≤ 900 := by rw [lv]; exact wd.1
      refine ⟨_, rfl, a, _, rfl, .inr (SqT.of ha1), _, rfl, by omega, by omega, fun D hD => ?_⟩
      refine lc_range (lo := 0) (fun i H' => H' D = some (.lst []) ∧ Fr No H H') ⟨upd_same, f.trans (Fr.new hD)⟩ ?_ ?_
      · rintro i H5 hi ⟨p1, p2⟩
        rw [Int.toNat_natCast, lu] at hi
        obtain ⟨x1, d1, g1, g2, g3⟩ := ra.get hi
        obtain ⟨x2, d2, g4, g5, g6⟩ := rb.get hi
        rw [g2] at g5
        cases g5
        have a0 : (0 : Int) + (i : Int) = ((i : Nat) : Int) := by omega
        rw [a0]
        have m1 := List.mem_of_getElem? g2
        have h1 := depQs_mem m1
        have h2 := depQ_pos d1
        obtain ⟨n', rfl⟩ : ∃ n', n = n' + 1 := ⟨n - 1, by omega⟩
        refine ⟨rfl, ?_⟩
        refine ⟨_, rfl, _, rfl, a, _, _, _, rfl, rfl, SqT.of (p2.tup _ _ ha), atI_nat g1, _, rfl, _, rfl, b, _, _, _, rfl, rfl, SqT.of (p2.tup _ _ hb), atI_nat g4, ?_⟩
        exact ⟨x1, x2, d1, rfl, g3.keep p2.tup, g6.keep p2.tup, by omega, widQs_mem wd.2 m1, fun H6 s6 => ⟨_, rfl, s6.keep (fun z => z) rfl p1, p2.trans s6⟩⟩
      · rintro H5 ⟨p1, p2⟩
        exact ⟨D, _, rfl, .inl (SqL.of p1), rfl, q _ p2⟩
end
end My
namespace My
open PySem PySem.Spec PyProof.Rows L2 TL
/-! ### the evaluator step by step, and the drawn parts of k55 -/
section
variable {f l s d : Nat} {gl : Gl} {env : Ev} {last : Bool}
theorem ev_int {i : Int} (hl : 0 < l) (hi : i.natAbs ≤ 10 ^ 60) : evT (f + 1) gl env (.int i) l s d last = some (.val (.int i), l - 1, s) := by
  unfold evT
  rw [if_neg (by omega)]
  dsimp only
  rw [if_pos hi]
theorem ev_loc {x : Int} {v : Vl} (hl : 0 < l) (hv : evGet x env = some v) : evT (f + 1) gl env (.loc x) l s d last = some (.val v, l - 1, s) := by
  unfold evT
  rw [if_neg (by omega)]
  dsimp only
  rw [hv]
theorem ev_glob {a b : Str} {v : Vl} (hl : 0 < l) (hv : glGet (a, b) gl = some v) : evT (f + 1) gl env (.glob a b) l s d last = some (.val v, l - 1, s) := by
  unfold evT
  rw [if_neg (by omega)]
  dsimp only
  rw [hv]
theorem ev_prim {q : Str} (hl : 0 < l) : evT (f + 1) gl env (.prim q) l s d last = some (.val (.prim q), l - 1, s) := by
  unfold evT
  rw [if_neg (by omega)]
theorem ev_fn {ns : List Int} {b : Tr} (hl : 0 < l) : evT (f + 1) gl env (.fn ns b) l s d last = some (.val (.fnP ns b env), l - 1, s) := by
  unfold evT
  rw [if_neg (by omega)]
theorem ev_if {a b c : Tr} {i : Int} {l1 s1 : Nat} (hl : 0 < l) (h : evT f gl env a (l - 1) s d false = some (.val (.int i), l1, s1)) : evT (f + 1) gl env (.if_ a b c) l s d last = evT f gl env (if i = 0 then c else b) l1 s1 d last := by
  conv => lhs; unfold evT
  rw [if_neg (by omega)]
  dsimp only
  rw [h]
theorem ev_let {ns : List Int} {ts : List Tr} {b : Tr} {vs : List Vl} {l1 s1 : Nat} (hl : 0 < l) (lim : ts.length ≤ 60 ∧ ns.length = ts.length ∧ env.length + ns.length ≤ 1000000) (h : evL (fun t l s => evT f gl env t l s d false) ts (l - 1) s = some (.inl vs, l1, s1)) : evT (f + 1) gl env (.let_ ns ts b) l s d last = evT f gl (evPuts ns vs env) b l1 s1 d last := by
  conv => lhs; unfold evT
  rw [if_neg (by omega)]
  dsimp only
  rw [if_pos lim, h]
theorem ev_callP {g : Tr} {ts : List Tr} {q : Str} {vs : List Vl} {y : Vl} {l1 s1 : Nat} (hl : 0 < l) (lim : ts.length ≤ 60) (h : evL (fun t l s => evT f gl env t l s d false) (g :: ts) (l - 1) s = some (.inl (.prim q :: vs), l1, s1)) (hc : chkF (.prim q) vs.length = none) (hp : primF q vs = .ok y) : evT (f + 1) gl env (.call g ts) l s d last = some (.val y, l1, s1) := by
  unfold evT
  rw [if_neg (by omega)]
  dsimp only
  rw [if_pos lim, h]
  dsimp only
  rw [hc]
  dsimp only
  rw [hp]
theorem ev_callF {g : Tr} {ts : List Tr} {ns : List Int} {b : Tr} {en : Ev} {vs : List Vl} {l1 s1 : Nat} (hl : 0 < l) (lim : ts.length ≤ 60) (h : evL (fun t l s => evT f gl env t l s d false) (g :: ts) (l - 1) s = some (.inl (.fnP ns b en :: vs), l1, s1)) (hc : ns.length = vs.length) (le : en.length + ns.length ≤ 1000000) :
    evT (f + 1) gl env (.call g ts) l s d last = evT f gl (evPuts ns vs en) b l1 (max s1 (d + if last then 0 else 1)) (d + if last then 0 else 1) true := by
  conv => lhs; unfold evT
  rw [if_neg (by omega)]
  dsimp only
  rw [if_pos lim, h]
  dsimp only
  rw [show chkF (.fnP ns b en) vs.length = none by
    unfold chkF
    rw [if_pos (show (isF (Vl.fnP ns b en) || isR (Vl.fnP ns b en)) = true from rfl), if_pos (by show ((ns.length : Nat) : Int) = _; rw [hc])]]
  dsimp only
  rw [if_pos le]
theorem evL_cons {r : Tr → Nat → Nat → Option (Rs × Nat × Nat)} {t : Tr} {ts : List Tr} {v : Vl} {vs : List Vl} {l1 s1 : Nat} {z : Nat × Nat} (h : r t l s = some (.val v, l1, s1)) (h2 : evL r ts l1 s1 = some (.inl vs, z)) : evL r (t :: ts) l s = some (.inl (v :: vs), z) := by
  unfold evL
  rw [h]
  dsimp only
  rw [h2]
theorem evL_nil {r : Tr → Nat → Nat → Option (Rs × Nat × Nat)} : evL r [] l s = some (.inl [], l, s) := rfl
end
/-- one of the five ways to stand in last place -/
def lastT (p : Nat) (t : Tr) : Tr :=
  if p = 0 then t else if p = 1 then .let_ [5, 6] [.int 3, .loc 0] t else if p = 2 then .if_ (.loc 0) t (.int 0)
  else if p = 3 then .if_ (.call (.prim "<") [.loc 0, .int 0]) (.int 0) t else .call (.fn [8] t) [.loc 1]
def callT (w : Bool) (nm : Str) (add : Nat) : Tr :=
  if w = true then .call (.prim "+") [.call (.glob "m" nm) [.call (.prim "-") [.loc 0, .int 1], .call (.prim "+") [.loc 1, .int add]], .int 1]
  else .call (.glob "m" nm) [.call (.prim "-") [.loc 0, .int 1], .call (.prim "+") [.loc 1, .int add]]
def bodyT (p q : Nat) (w : Bool) (nm : Str) (add : Nat) : Tr := .if_ (.loc 0) (lastT p (lastT q (callT w nm add))) (.loc 1)
end My
namespace My
open PySem PySem.Spec PyProof.Rows L2 TL
/-! ### what the drawn parts mean -/
theorem chk_two (q : Str) (h : ¬ (q = "first" ∨ q = "second")) (x y : Vl) : chkF (.prim q) [x, y].length = none := by
  unfold chkF
  rw [if_pos (show (isF (Vl.prim q) || isR (Vl.prim q)) = true from rfl), if_pos (by show arP q = 2; unfold arP; rw [if_neg h])]
theorem prim_two {q : Str} {a b z : Int} (h1 : ¬ q = "pair") (h2 : ¬ (q = "first" ∨ q = "second")) (hr : reckF q a b = .ok z) : primF q [.int a, .int b] = .ok (.int z) := by
  unfold primF
  rw [if_neg h1, if_neg h2, if_pos (show [Vl.int a, Vl.int b].all isI = true from rfl)]
  dsimp only
  rw [hr]
/-- two parts in a primitive -/
theorem ev_two {f l s d l1 s1 l2 s2 : Nat} {gl : Gl} {env : Ev} {last : Bool} {q : Str} {ta tb : Tr} {a b z : Int} (hl : 1 < l) (h1 : ¬ q = "pair") (h2 : ¬ (q = "first" ∨ q = "second")) (ha : evT (f + 1) gl env ta (l - 2) s d false = some (.val (.int a), l1, s1)) (hb : evT (f + 1) gl env tb l1 s1 d false = some (.val (.int b), l2, s2)) (hr : reckF q a b = .ok z) :
    evT (f + 2) gl env (.call (.prim q) [ta, tb]) l s d last = some (.val (.int z), l2, s2) :=
  ev_callP (vs := [.int a, .int b]) (by omega) (by show 2 ≤ 60; omega) (evL_cons (ev_prim (by omega)) (evL_cons (by rw [show l - 1 - 1 = l - 2 by omega]; exact ha) (evL_cons hb evL_nil))) (chk_two q h2 _ _) (prim_two h1 h2 hr)
theorem big_le : (1000000 : Int) ≤ big60 := by decide +kernel
theorem reck_add {a b : Int} (h : (a + b).natAbs ≤ 1000000) : reckF "+" a b = .ok (a + b) := by
  unfold reckF
  rw [if_neg (by decide +kernel), if_neg (by decide +kernel), show opF "+" a b = a + b by unfold opF; rw [if_pos rfl], if_neg]
  have := big_le
  split <;> omega
theorem reck_sub {a b : Int} (h : (a - b).natAbs ≤ 1000000) : reckF "-" a b = .ok (a - b) := by
  unfold reckF
  rw [if_neg (by decide +kernel), if_neg (by decide +kernel), show opF "-" a b = a - b by unfold opF; rw [if_neg (by decide +kernel), if_pos rfl], if_neg]
  have := big_le
  split <;> omega
theorem reck_lt {a : Int} (h : 0 ≤ a) : reckF "<" a 0 = .ok 0 := by
  unfold reckF
  rw [if_pos rfl, if_neg (by omega)]
theorem nat60 {n : Nat} (h : n ≤ 1000000) : ((n : Nat) : Int).natAbs ≤ 10 ^ 60 := by
  have : (1000000 : Nat) ≤ 10 ^ 60 := by decide +kernel
  show n ≤ _
  omega
/-- a tree in last place by the two variables: its value, at most N steps, the greatest depth raised by w frames -/
def InLast (gl : Gl) (t : Tr) (c a : Int) (v : Vl) (E N Fu w : Nat) : Prop := ∀ (env : Ev) (f l s d : Nat), evGet 0 env = some (.int c) → evGet 1 env = some (.int a) → env.length ≤ E → Fu ≤ f → N ≤ l → d ≤ s → ∃ l', evT f gl env t l s d true = some (.val v, l', max s (d + w)) ∧ l ≤ l' + N
theorem inLast_wrap {gl : Gl} {t : Tr} {c a : Int} {v : Vl} {E N Fu w : Nat} (hc : 0 < c) (hE : E + 2 ≤ 1000000) (h : InLast gl t c a v (E + 2) N Fu w) (p : Nat) : InLast gl (lastT p t) c a v E (N + 8) (Fu + 4) w := by
  intro env f l s d e0 e1 le hf hN hd
  have up : ∀ {l : Nat}, (∃ l', evT f gl env t l s d true = some (.val v, l', max s (d + w)) ∧ l ≤ l' + N) → True := fun _ => trivial
  obtain ⟨g, rfl⟩ : ∃ g, f = g + 4 := ⟨f - 4, by omega⟩
  have c0 : ¬ c = 0 := by omega
  unfold lastT
  by_cases p0 : p = 0
  · rw [if_pos p0]
    obtain ⟨l', h1, h2⟩ := h env (g + 4) l s d e0 e1 (by omega) (by omega) (by omega) hd
    exact ⟨l', h1, by omega⟩
  rw [if_neg p0]
  by_cases p1 : p = 1
  · rw [if_pos p1]
    have e2 : evL (fun t l s => evT (g + 3) gl env t l s d false) [.int 3, .loc 0] (l - 1) s = some (.inl [.int 3, .int c], l - 1 - 1 - 1, s) := evL_cons (ev_int (by omega) (by decide +kernel)) (evL_cons (ev_loc (by omega) e0) evL_nil)
    rw [ev_let (by omega) ⟨by show 2 ≤ 60; omega, rfl, by show env.length + 2 ≤ _; omega⟩ e2]
    obtain ⟨l', h1, h2⟩ := h (evPuts [5, 6] [.int 3, .int c] env) (g + 3) (l - 1 - 1 - 1) s d (by
      show evGet 0 (evPut 6 _ (evPut 5 _ env)) = _
      rw [evGet_put, if_neg (by decide), evGet_put, if_neg (by decide)]
      exact e0) (by
      show evGet 1 (evPut 6 _ (evPut 5 _ env)) = _
      rw [evGet_put, if_neg (by decide), evGet_put, if_neg (by decide)]
      exact e1) (by
      have := evPuts_len [5, 6] [.int 3, .int c] env
      have h2 : ([5, 6] : List Int).length = 2 := rfl
      omega) (by omega) (by omega) hd
    exact ⟨l', h1, by omega⟩
  rw [if_neg p1]
  by_cases p2 : p = 2
  · rw [if_pos p2]
    rw [ev_if (i := c) (by omega) (ev_loc (f := g + 2) (by omega) e0), if_neg c0]
    obtain ⟨l', h1, h2⟩ := h env (g + 3) (l - 1 - 1) s d e0 e1 (by omega) (by omega) (by omega) hd
    exact ⟨l', h1, by omega⟩
  rw [if_neg p2]
  by_cases p3 : p = 3
  · rw [if_pos p3]
    rw [ev_if (i := 0) (by omega) (ev_two (f := g + 1) (by omega) (by decide +kernel) (by decide +kernel) (ev_loc (by omega) e0) (ev_int (by omega) (by decide +kernel)) (reck_lt (by omega))), if_pos rfl]
    obtain ⟨l', h1, h2⟩ := h env (g + 3) (l - 1 - 2 - 1 - 1) s d e0 e1 (by omega) (by omega) (by omega) hd
    exact ⟨l', h1, by omega⟩
  · rw [if_neg p3]
    have e2 : evL (fun t l s => evT (g + 3) gl env t l s d false) [.fn [8] t, .loc 1] (l - 1) s = some (.inl [.fnP [8] t env, .int a], l - 1 - 1 - 1, s) := evL_cons (ev_fn (by omega)) (evL_cons (ev_loc (by omega) e1) evL_nil)
    rw [ev_callF (by omega) (by show 1 ≤ 60; omega) e2 rfl (by show env.length + 1 ≤ _; omega)]
    obtain ⟨l', h1, h2⟩ := h (evPuts [8] [.int a] env) (g + 3) (l - 1 - 1 - 1) (max s (d + 0)) (d + 0) (by
      show evGet 0 (evPut 8 _ env) = _
      rw [evGet_put, if_neg (by decide)]
      exact e0) (by
      show evGet 1 (evPut 8 _ env) = _
      rw [evGet_put, if_neg (by decide)]
      exact e1) (by
      have := evPuts_len [8] [.int a] env
      have h2 : ([8] : List Int).length = 1 := rfl
      omega) (by omega) (by omega) (by omega)
    refine ⟨l', ?_, by omega⟩
    rw [show max s (d + w) = max (max s (d + 0)) (d + 0 + w) by omega]
    exact h1
end My
namespace My
open PySem PySem.Spec PyProof.Rows L2 TL
/-! ### the drawn functions, by the count -/
structure Prg where
  many : Nat
  nm : Nat → Str
  p : Nat → Nat
  q : Nat → Nat
  add : Nat → Nat
  w : Nat → Bool
def Prg.nx (P : Prg) (k : Nat) : Nat := (k + 1) % P.many
def Prg.body (P : Prg) (k : Nat) : Tr := bodyT (P.p k) (P.q k) (P.w k) (P.nm (P.nx k)) (P.add k)
def Prg.due (P : Prg) : Nat → Nat → Int → Int
  | 0, _, a => a
  | c + 1, k, a => P.due c (P.nx k) (a + P.add k) + if P.w k = true then 1 else 0
def Prg.waits (P : Prg) : Nat → Nat → Nat
  | 0, _ => 0
  | c + 1, k => P.waits c (P.nx k) + if P.w k = true then 1 else 0
theorem due_le {P : Prg} (h : ∀ k, P.add k ≤ 8) : ∀ (c k : Nat) (a : Int), 0 ≤ a → a ≤ P.due c k a ∧ P.due c k a ≤ a + 9 * c
  | 0, k, a, _ => ⟨Int.le_refl _, by show a ≤ a + 9 * ((0 : Nat) : Int); omega⟩
  | c + 1, k, a, ha => by
    have hk := h k
    obtain ⟨h1, h2⟩ := due_le h c (P.nx k) (a + P.add k) (by omega)
    unfold Prg.due
    split <;> (constructor <;> omega)
theorem body_ev {P : Prg} {gl : Gl} (hm : 0 < P.many) (hg : ∀ k, k < P.many → glGet ("m", P.nm k) gl = some (.fnP [0, 1] (P.body k) [])) (hadd : ∀ k, P.add k ≤ 8) : ∀ (c k : Nat) (a : Int), k < P.many → 0 ≤ a → a + 9 * c ≤ 900000 → InLast gl (P.body k) c a (.int (P.due c k a)) 10 (40 * (c + 1)) (20 * (c + 1)) (P.waits c k)
  | 0, k, a, hk, ha, hb => fun env f l s d e0 e1 le hf hN hd => by
    obtain ⟨g, rfl⟩ : ∃ g, f = g + 2 := ⟨f - 2, by omega⟩
    refine ⟨l - 1 - 1 - 1, ?_, by omega⟩
    unfold Prg.body bodyT
    rw [ev_if (i := 0) (by omega) (ev_loc (f := g) (by omega) e0), if_pos rfl, ev_loc (f := g) (by omega) e1]
    show _ = some (Rs.val (.int a), _, max s (d + 0))
    rw [show max s (d + 0) = s by omega]
  | c + 1, k, a, hk, ha, hb => by
    have hnx : P.nx k < P.many := Nat.mod_lt _ hm
    have hka := hadd k
    have IH := body_ev hm hg hadd c (P.nx k) (a + P.add k) hnx (by omega) (by omega)
    have hdue := due_le hadd c (P.nx k) (a + P.add k) (by omega)
    have inner : ∀ (env : Ev) (f l s d : Nat) (last : Bool), evGet 0 env = some (.int ((c + 1 : Nat) : Int)) → evGet 1 env = some (.int a) → 20 * (c + 1) + 4 ≤ f → 40 * (c + 1) + 12 ≤ l → d ≤ s → ∃ l', evT f gl env (.call (.glob "m" (P.nm (P.nx k))) [.call (.prim "-") [.loc 0, .int 1], .call (.prim "+") [.loc 1, .int (P.add k)]]) l s d last = some (.val (.int (P.due c (P.nx k) (a + P.add k))), l', max s (d + (if last = true then 0 else 1) + P.waits c (P.nx k))) ∧ l ≤ l' + (40 * (c + 1) + 12) := by
      intro env f l s d last e0 e1 hf hN hd
      obtain ⟨g, rfl⟩ : ∃ g, f = g + 4 := ⟨f - 4, by omega⟩
      have e2 : evL (fun t l s => evT (g + 3) gl env t l s d false) [.glob "m" (P.nm (P.nx k)), .call (.prim "-") [.loc 0, .int 1], .call (.prim "+") [.loc 1, .int (P.add k)]] (l - 1) s = some (.inl [.fnP [0, 1] (P.body (P.nx k)) [], .int (((c + 1 : Nat) : Int) - 1), .int (a + P.add k)], l - 1 - 1 - 2 - 1 - 1 - 2 - 1 - 1, s) :=
        evL_cons (ev_glob (by omega) (hg _ hnx)) (evL_cons (ev_two (f := g + 1) (by omega) (by decide +kernel) (by decide +kernel) (ev_loc (by omega) e0) (ev_int (by omega) (by decide +kernel)) (reck_sub (by omega)))
          (evL_cons (ev_two (f := g + 1) (by omega) (by decide +kernel) (by decide +kernel) (ev_loc (by omega) e1) (ev_int (by omega) (nat60 (by omega))) (reck_add (by omega))) evL_nil))
      rw [ev_callF (by omega) (by show 2 ≤ 60; omega) e2 rfl (by show 0 + 2 ≤ 1000000; omega)]
      have ec : (((c + 1 : Nat) : Int) - 1) = (c : Int) := by omega
      rw [ec]
      obtain ⟨l', h1, h2⟩ := IH (evPuts [0, 1] [.int (c : Int), .int (a + P.add k)] []) (g + 3) (l - 1 - 1 - 2 - 1 - 1 - 2 - 1 - 1) (max s (d + if last = true then 0 else 1)) (d + if last = true then 0 else 1) (by
        show evGet 0 (evPut 1 _ (evPut 0 _ [])) = _
        rw [evGet_put, if_neg (by decide), evGet_put, if_pos rfl]) (by
        show evGet 1 (evPut 1 _ (evPut 0 _ [])) = _
        rw [evGet_put, if_pos rfl]) (by
        have := evPuts_len [0, 1] [.int (c : Int), .int (a + P.add k)] []
        have h2 : ([0, 1] : List Int).length = 2 := rfl
        have h3 : ([] : Ev).length = 0 := rfl
        omega) (by omega) (by omega) (by omega)
      refine ⟨l', ?_, by omega⟩
      rw [show max s (d + (if last = true then 0 else 1) + P.waits c (P.nx k)) = max (max s (d + if last = true then 0 else 1)) (d + (if last = true then 0 else 1) + P.waits c (P.nx k)) by omega]
      exact h1
    have hcall : InLast gl (callT (P.w k) (P.nm (P.nx k)) (P.add k)) ((c + 1 : Nat) : Int) a (.int (P.due (c + 1) k a)) 14 (40 * (c + 1) + 16) (20 * (c + 1) + 6) (P.waits (c + 1) k) := by
      intro env f l s d e0 e1 le hf hN hd
      unfold callT Prg.due Prg.waits
      by_cases cw : P.w k = true
      · rw [if_pos cw, if_pos cw, if_pos cw]
        obtain ⟨g, rfl⟩ : ∃ g, f = g + 2 := ⟨f - 2, by omega⟩
        obtain ⟨l', h1, h2⟩ := inner env (g + 1) (l - 2) s d false e0 e1 (by omega) (by omega) hd
        rw [if_neg Bool.false_ne_true] at h1
        refine ⟨l' - 1, ?_, by omega⟩
        rw [ev_two (by omega) (by decide +kernel) (by decide +kernel) h1 (ev_int (by omega) (by decide +kernel)) (reck_add (by omega))]
        rw [show d + 1 + P.waits c (P.nx k) = d + (P.waits c (P.nx k) + 1) by omega]
      · rw [if_neg cw, if_neg cw, if_neg cw]
        obtain ⟨l', h1, h2⟩ := inner env f l s d true e0 e1 (by omega) (by omega) hd
        rw [if_pos rfl] at h1
        refine ⟨l', ?_, by omega⟩
        rw [h1, Int.add_zero, Nat.add_zero, Nat.add_zero]
    have h1 := inLast_wrap (by omega) (by omega) (inLast_wrap (by omega) (by omega) hcall (P.q k)) (P.p k)
    intro env f l s d e0 e1 le hf hN hd
    obtain ⟨g, rfl⟩ : ∃ g, f = g + 2 := ⟨f - 2, by omega⟩
    unfold Prg.body bodyT
    rw [ev_if (i := ((c + 1 : Nat) : Int)) (by omega) (ev_loc (f := g) (by omega) e0), if_neg (by omega)]
    obtain ⟨l', g1, g2⟩ := h1 env (g + 1) (l - 1 - 1) s d e0 e1 (by omega) (by omega) (by omega) hd
    exact ⟨l', g1, by omega⟩
end My
namespace My
open PySem PySem.Spec PyProof.Rows L2 TL
/-! ### the drawn program by the evaluator -/
def Prg.df (P : Prg) (k : Nat) : (Str × Str) × Tr := (("m", P.nm k), .fn [0, 1] (P.body k))
def Prg.gl (P : Prg) : List Nat → Gl → Gl
  | [], gl => gl
  | k :: ks, gl => P.gl ks (glPut ("m", P.nm k) (.fnP [0, 1] (P.body k) []) gl)
theorem evP_defs {P : Prg} {f : Nat} {t : Tr} : ∀ (ks : List Nat) (gl : Gl) (l s : Nat), ks.length < l → evP (f + 1) (ks.map P.df) t gl l s = evP (f + 1) [] t (P.gl ks gl) (l - ks.length) s
  | [], gl, l, s, _ => rfl
  | k :: ks, gl, l, s, h => by
    simp only [List.length_cons] at h
    have e : evT (f + 1) gl [] (.fn [0, 1] (P.body k)) l s 1 true = some (.val (.fnP [0, 1] (P.body k) []), l - 1, s) := ev_fn (by omega)
    show (match evT (f + 1) gl [] (.fn [0, 1] (P.body k)) l s 1 true with
      | some (.val v, l', s') => evP (f + 1) (ks.map P.df) t (glPut ("m", P.nm k) v gl) l' s'
      | some (.out ws, z) => some (.out ws, z)
      | none => none) = _
    rw [e]
    dsimp only
    rw [evP_defs ks _ (l - 1) s (by omega), show l - 1 - ks.length = l - (k :: ks).length by simp only [List.length_cons]; omega]
    rfl
theorem gl_old {P : Prg} {x : Str × Str} : ∀ (ks : List Nat) (gl : Gl), (∀ k ∈ ks, ¬ ((("m", P.nm k) : Str × Str) = x)) → glGet x (P.gl ks gl) = glGet x gl
  | [], gl, _ => rfl
  | k :: ks, gl, h => by
    show glGet x (P.gl ks (glPut _ _ gl)) = _
    rw [gl_old ks _ fun j m => h j (List.mem_cons_of_mem _ m), glGet_put, if_neg (h k List.mem_cons_self)]
theorem gl_get {P : Prg} {k : Nat} : ∀ (ks : List Nat) (gl : Gl), (∀ i ∈ ks, P.nm i = P.nm k → i = k) → k ∈ ks → ks.Nodup → glGet ("m", P.nm k) (P.gl ks gl) = some (.fnP [0, 1] (P.body k) [])
  | [], gl, _, m, _ => by cases m
  | j :: ks, gl, h, m, nd => by
    obtain ⟨n1, n2⟩ := List.nodup_cons.mp nd
    show glGet _ (P.gl ks (glPut _ _ gl)) = _
    by_cases c : k ∈ ks
    · exact gl_get ks _ (fun i mi => h i (List.mem_cons_of_mem _ mi)) c n2
    · have e : k = j := (List.mem_cons.mp m).resolve_right c
      subst e
      rw [gl_old ks _ (fun i mi z => c (by
        have e2 : P.nm i = P.nm k := by injection z
        rw [← h i (List.mem_cons_of_mem _ mi) e2]
        exact mi)), glGet_put, if_pos rfl]
theorem prog_ev {P : Prg} (hm : 0 < P.many) (hm3 : P.many ≤ 3) (hn : ∀ i j, i < P.many → j < P.many → P.nm i = P.nm j → i = j) (hadd : ∀ k, P.add k ≤ 8) {count f l : Nat} (hc : count ≤ 400) (hf : 20 * (count + 1) + 5 ≤ f) (hl : 40 * (count + 1) + 20 ≤ l) :
    ∃ l', evP f ((List.range P.many).map P.df) (.call (.glob "m" (P.nm 0)) [.int count, .int 5]) [] l 1 = some (.val (.int (P.due count 0 5)), l', 1 + P.waits count 0) ∧ l ≤ l' + (40 * (count + 1) + 20) := by
  obtain ⟨g, rfl⟩ : ∃ g, f = g + 2 := ⟨f - 2, by omega⟩
  have lr : (List.range P.many).length = P.many := List.length_range
  rw [evP_defs (f := g + 1) (List.range P.many) [] l 1 (by omega), lr]
  have hg : ∀ k, k < P.many → glGet ("m", P.nm k) (P.gl (List.range P.many) []) = some (.fnP [0, 1] (P.body k) []) := fun k hk => gl_get _ _ (fun i mi e => hn i k (List.mem_range.mp mi) hk e) (List.mem_range.mpr hk) List.nodup_range
  show ∃ l', evT (g + 1 + 1) (P.gl (List.range P.many) []) [] (.call (.glob "m" (P.nm 0)) [.int count, .int 5]) (l - P.many) 1 1 true = _ ∧ _
  have e2 : evL (fun t l s => evT (g + 1) (P.gl (List.range P.many) []) [] t l s 1 false) [.glob "m" (P.nm 0), .int count, .int 5] (l - P.many - 1) 1 = some (.inl [.fnP [0, 1] (P.body 0) [], .int count, .int 5], l - P.many - 1 - 1 - 1 - 1, 1) :=
    evL_cons (ev_glob (by omega) (hg 0 hm)) (evL_cons (ev_int (by omega) (nat60 (by omega))) (evL_cons (ev_int (by omega) (by decide +kernel)) evL_nil))
  rw [ev_callF (by omega) (by show 2 ≤ 60; omega) e2 rfl (by show 0 + 2 ≤ 1000000; omega)]
  obtain ⟨l', h1, h2⟩ := body_ev hm hg hadd count 0 5 hm (by omega) (by omega) (evPuts [0, 1] [.int (count : Int), .int 5] []) (g + 1) (l - P.many - 1 - 1 - 1 - 1) (max 1 (1 + 0)) (1 + 0) (by
    show evGet 0 (evPut 1 _ (evPut 0 _ [])) = _
    rw [evGet_put, if_neg (by decide), evGet_put, if_pos rfl]) (by
    show evGet 1 (evPut 1 _ (evPut 0 _ [])) = _
    rw [evGet_put, if_pos rfl]) (by
    have := evPuts_len [0, 1] [.int (count : Int), .int 5] []
    have h2 : ([0, 1] : List Int).length = 2 := rfl
    have h3 : ([] : Ev).length = 0 := rfl
    omega) (by omega) (by omega) (by omega)
  refine ⟨l', ?_, by omega⟩
  rw [show 1 + P.waits count 0 = max (max 1 (1 + 0)) (1 + 0 + P.waits count 0) by omega]
  exact h1
end My
namespace My
open PySem PySem.Spec PyProof.Rows L2 TL
/-! ### the drawn trees are small and closed -/
theorem last_small (p : Nat) (t : Tr) : wT (lastT p t) ≤ wT t + 30 ∧ depT (lastT p t) ≤ depT t + 4 ∧ ∀ x, fv x (lastT p t) → fv x t ∨ x = 0 ∨ x = 1 := by
  unfold lastT
  split
  · exact ⟨by omega, by omega, fun x h => .inl h⟩
  split
  · refine ⟨by simp [wT, wTs]; omega, by simp [depT, depTs]; omega, fun x h => ?_⟩
    by_cases q : fv x t
    · exact .inl q
    · simp [fv, fvs, q] at h
      omega
  split
  · refine ⟨by simp [wT, wTs]; omega, by simp [depT, depTs]; omega, fun x h => ?_⟩
    by_cases q : fv x t
    · exact .inl q
    · simp [fv, fvs, q] at h
      omega
  split
  · refine ⟨by simp [wT, wTs]; omega, by simp [depT, depTs]; omega, fun x h => ?_⟩
    by_cases q : fv x t
    · exact .inl q
    · simp [fv, fvs, q] at h
      omega
  · refine ⟨by simp [wT, wTs]; omega, by simp [depT, depTs]; omega, fun x h => ?_⟩
    by_cases q : fv x t
    · exact .inl q
    · simp [fv, fvs, q] at h
      omega
theorem call_small (w : Bool) (nm : Str) (add : Nat) : wT (callT w nm add) ≤ 100 ∧ depT (callT w nm add) ≤ 10 ∧ ∀ x, fv x (callT w nm add) → x = 0 ∨ x = 1 := by
  unfold callT
  split
  · refine ⟨by simp [wT, wTs], by simp [depT, depTs], fun x h => ?_⟩
    simp [fv, fvs] at h
    omega
  · refine ⟨by simp [wT, wTs], by simp [depT, depTs], fun x h => ?_⟩
    simp [fv, fvs] at h
    omega
theorem df_small (P : Prg) (k : Nat) : (∀ x, ¬ fv x (P.df k).2) ∧ wT (P.df k).2 ≤ 100000 ∧ depT (P.df k).2 ≤ 900 := by
  obtain ⟨a1, a2, a3⟩ := call_small (P.w k) (P.nm (P.nx k)) (P.add k)
  obtain ⟨b1, b2, b3⟩ := last_small (P.q k) (callT (P.w k) (P.nm (P.nx k)) (P.add k))
  obtain ⟨c1, c2, c3⟩ := last_small (P.p k) (lastT (P.q k) (callT (P.w k) (P.nm (P.nx k)) (P.add k)))
  show (∀ x, ¬ fv x (.fn [0, 1] (.if_ (.loc 0) (lastT (P.p k) (lastT (P.q k) (callT (P.w k) (P.nm (P.nx k)) (P.add k)))) (.loc 1)))) ∧ wT (.fn [0, 1] (.if_ (.loc 0) (lastT (P.p k) (lastT (P.q k) (callT (P.w k) (P.nm (P.nx k)) (P.add k)))) (.loc 1))) ≤ _ ∧ depT (.fn [0, 1] (.if_ (.loc 0) (lastT (P.p k) (lastT (P.q k) (callT (P.w k) (P.nm (P.nx k)) (P.add k)))) (.loc 1))) ≤ _
  generalize lastT (P.p k) (lastT (P.q k) (callT (P.w k) (P.nm (P.nx k)) (P.add k))) = t at c1 c2 c3
  refine ⟨fun x h => ?_, by simp [wT]; omega, by simp [depT]; omega⟩
  have q : fv x t → x = 0 ∨ x = 1 := fun z => (c3 x z).elim (fun z => (b3 x z).elim (a3 x) id) id
  simp [fv] at h
  by_cases c : fv x t
  · have := q c
    omega
  · simp [c] at h
    omega
end My
namespace My
open PySem PySem.Spec PyProof.Rows L2 TL
/-! ### both runs of the drawn program -/
def Prg.core (P : Prg) (count : Nat) : Tr := .call (.glob "m" (P.nm 0)) [.int count, .int 5]
structure PrgOk (P : Prg) : Prop where
  pos : 0 < P.many
  le : P.many ≤ 3
  inj : ∀ i j, i < P.many → j < P.many → P.nm i = P.nm j → i = j
  add : ∀ k, P.add k ≤ 8
theorem core_small (P : Prg) (count : Nat) : (∀ x, ¬ fv x (P.core count)) ∧ wT (P.core count) ≤ 100000 ∧ depT (P.core count) ≤ 900 := by
  unfold Prg.core
  exact ⟨fun x h => by simp [fv, fvs] at h, by simp [wT, wTs], by simp [depT, depTs]⟩
theorem prg_plain {P : Prg} (h : PrgOk P) {count : Nat} (hc : count ≤ 400) : ∃ n k0, ∀ k, k0 ≤ k → plainF k 60000 ((List.range P.many).map P.df) (P.core count) [] 0 = some (.ok (n, .int (P.due count 0 5))) := by
  obtain ⟨l', h1, _⟩ := prog_ev h.pos h.le h.inj h.add (f := 8100) (l := 60000) hc (by omega) (by omega)
  have m6 : many = 1000000 := rfl
  obtain ⟨k0, g⟩ := plainF_ev (m := 60000) (f := 8100) (by omega) _ _ _ _ _ _ _ _ h1 (Nat.le_refl _)
  exact ⟨_, k0, g⟩
theorem prg_code {P : Prg} (h : PrgOk P) {count : Nat} (hc : count ≤ 400) {es : List ((Str × Str) × Code)} {c : Code} (he : CodesOf ((List.range P.many).map P.df) es) (hcc : CodeOf (P.core count) c) :
    ∃ v' n k0, VR (.int (P.due count 0 5)) v' ∧ ∀ k, k0 ≤ k → codeF k 60000 es c [] (0, 0, none) = some (.ok ((n, 1 + P.waits count 0, some v'), v')) := by
  obtain ⟨l', h1, h2⟩ := prog_ev h.pos h.le h.inj h.add (f := 8100) (l := 40 * (count + 1) + 20) hc (by omega) (Nat.le_refl _)
  have m6 : many = 1000000 := rfl
  obtain ⟨g, _⟩ := codeF_ev (M := 60000) (f := 8100) (by omega) _ es _ c [] [] _ 0 _ _ _ 0 none h1 he hcc GlR.nil (by omega)
  obtain ⟨v', n', hv, _, _, k0, g⟩ := g _ rfl
  exact ⟨v', n', k0, hv, g⟩
end My
namespace My
open PySem PySem.Spec PyProof.Rows L2 TL
/-! ### the law's own sums -/
def Prg.wi (P : Prg) (k : Nat) : Nat := if P.w k = true then 1 else 0
/-- the law's loop: due and waits after k turns -/
def Prg.lpD (P : Prg) : Nat → Nat
  | 0 => 5
  | k + 1 => P.lpD k + P.add (k % P.many) + P.wi (k % P.many)
def Prg.lpW (P : Prg) : Nat → Nat
  | 0 => 0
  | k + 1 => P.lpW k + P.wi (k % P.many)
def Prg.sD (P : Prg) : Nat → Nat → Nat
  | _, 0 => 0
  | i, c + 1 => P.add (i % P.many) + P.wi (i % P.many) + P.sD (i + 1) c
def Prg.sW (P : Prg) : Nat → Nat → Nat
  | _, 0 => 0
  | i, c + 1 => P.wi (i % P.many) + P.sW (i + 1) c
theorem nx_mod (P : Prg) (i : Nat) : P.nx (i % P.many) = (i + 1) % P.many := by
  unfold Prg.nx
  rw [Nat.mod_add_mod]
theorem due_sum (P : Prg) : ∀ (c i : Nat) (a : Int), P.due c (i % P.many) a = a + P.sD i c
  | 0, i, a => by show a = a + ((0 : Nat) : Int); omega
  | c + 1, i, a => by
    unfold Prg.due Prg.sD Prg.wi
    rw [nx_mod, due_sum P c (i + 1)]
    split <;> omega
theorem waits_sum (P : Prg) : ∀ (c i : Nat), P.waits c (i % P.many) = P.sW i c
  | 0, i => rfl
  | c + 1, i => by
    unfold Prg.waits Prg.sW Prg.wi
    rw [nx_mod, waits_sum P c (i + 1)]
    omega
theorem sD_snoc (P : Prg) : ∀ (c i : Nat), P.sD i (c + 1) = P.sD i c + P.add ((i + c) % P.many) + P.wi ((i + c) % P.many)
  | 0, i => by show P.add (i % P.many) + P.wi (i % P.many) + 0 = 0 + P.add ((i + 0) % P.many) + P.wi ((i + 0) % P.many); simp
  | c + 1, i => by
    have h := sD_snoc P c (i + 1)
    rw [show i + 1 + c = i + (c + 1) by omega] at h
    show P.add (i % P.many) + P.wi (i % P.many) + P.sD (i + 1) (c + 1) = (P.add (i % P.many) + P.wi (i % P.many) + P.sD (i + 1) c) + _ + _
    omega
theorem sW_snoc (P : Prg) : ∀ (c i : Nat), P.sW i (c + 1) = P.sW i c + P.wi ((i + c) % P.many)
  | 0, i => by show P.wi (i % P.many) + 0 = 0 + P.wi ((i + 0) % P.many); simp
  | c + 1, i => by
    have h := sW_snoc P c (i + 1)
    rw [show i + 1 + c = i + (c + 1) by omega] at h
    show P.wi (i % P.many) + P.sW (i + 1) (c + 1) = (P.wi (i % P.many) + P.sW (i + 1) c) + _
    omega
theorem lpD_sum (P : Prg) : ∀ c, P.lpD c = 5 + P.sD 0 c
  | 0 => rfl
  | c + 1 => by
    rw [sD_snoc, Nat.zero_add]
    show P.lpD c + _ + _ = _
    rw [lpD_sum P c]
    omega
theorem lpW_sum (P : Prg) : ∀ c, P.lpW c = P.sW 0 c
  | 0 => rfl
  | c + 1 => by
    rw [sW_snoc, Nat.zero_add]
    show P.lpW c + _ = _
    rw [lpW_sum P c]
theorem due_loop (P : Prg) (c : Nat) : P.due c 0 5 = (P.lpD c : Nat) := by
  have := due_sum P c 0 5
  rw [Nat.zero_mod] at this
  rw [this, lpD_sum]
  omega
theorem waits_loop (P : Prg) (c : Nat) : P.waits c 0 = P.lpW c := by
  have := waits_sum P c 0
  rw [Nat.zero_mod] at this
  rw [this, lpW_sum]
end My
namespace My
open PySem PySem.Spec PyProof.Rows L2 TL
/-! ### _law_last -/
abbrev sLst : Stmt := top 73
abbrev NLs : List Str := ["state", "call_v", "pick"]
def spLst : Sp := fun vs H Q _ => ∃ (S L : Addr) (c : V) (t : Tr), vs = [.ref S, c] ∧ LS H S L ∧ RT H c t ∧ ∀ (p : Nat) u H', LS H' S L → Fr (Two S L) H H' → RT H' u (lastT p t) → Q u H'
theorem sl1 : 1 ≤ sizeLine := by decide
theorem sl2 : 2 ≤ sizeLine := by decide
theorem sl3 : 3 ≤ sizeLine := by decide
theorem sl4 : 4 ≤ sizeLine := by decide
section
variable {P : Program} {w : World} {K : PySem.W.Frag} {mg : Str → Option Value} {base : Heap}
theorem scLst : FnScope NLs ["state", "call_v"] (defScope sLst) := ⟨rfl, rfl, rfl, by decide +kernel, rfl, by decide +kernel, by decide +kernel⟩
theorem ok_lst {f fT : Addr} {fd dT : FuncData} (F : Fun K "_law_last" "_law_last" sLst f fd) (GT : Cal P w K mg base CX0 2 "_law_take" ["state", "limit"] spTake fT dT) : FnOk P w K mg base CX0 3 f fd ["state", "call_v"] spLst := by
  refine F.ok scLst (fun vs H Q E h => ?_) (fun cdv A outer s H vs Q E hr h => ?_)
  · obtain ⟨S, L, c, t, rfl, _⟩ := h
    rfl
  obtain ⟨S, L, c, t, rfl, hl, rt, q⟩ := h
  have nd := scLst.nd
  refine ⟨_, (pss_cons (ps_set (i := 2) nd rfl (Or.inl rfl) (pe_call GT.ok hr rfl GT.g GT.k GT.b .nil pass0 (pa_cons (pv 0) (pa_cons pe_int pa_nil))))
    (pss_cons (ps_if (pt_cmpR op_eq (pv 2) pe_int (nomark _)) (pss_one (ps_ret (pv 1))) pss_nil)
    (pss_cons (ps_if (pt_cmpR op_eq (pv 2) pe_int (nomark _)) (pss_one (ps_ret (pe_tup (pa_cons pe_str (pa_cons (pe_tup (pa_cons (pe_tup (pa_cons pe_int (pa_cons (pe_tup (pa_cons pe_str (pa_cons pe_int pa_nil))) pa_nil))) (pa_cons (pe_tup (pa_cons pe_int (pa_cons (pe_tup (pa_cons pe_str (pa_cons pe_int pa_nil))) pa_nil))) pa_nil))) (pa_cons (pv 1) pa_nil)))))) pss_nil)
    (pss_cons (ps_if (pt_cmpR op_eq (pv 2) pe_int (nomark _)) (pss_one (ps_ret (pe_tup (pa_cons pe_str (pa_cons (pe_tup (pa_cons pe_str (pa_cons pe_int pa_nil))) (pa_cons (pv 1) (pa_cons (pe_tup (pa_cons pe_str (pa_cons pe_int pa_nil))) pa_nil))))))) pss_nil)
    (pss_cons (ps_if (pt_cmpR op_eq (pv 2) pe_int (nomark _)) (pss_one (ps_ret (pe_tup (pa_cons pe_str (pa_cons (pe_tup (pa_cons pe_str (pa_cons (pe_tup (pa_cons pe_str (pa_cons pe_str pa_nil))) (pa_cons (pe_tup (pa_cons (pe_tup (pa_cons pe_str (pa_cons pe_int pa_nil))) (pa_cons (pe_tup (pa_cons pe_str (pa_cons pe_int pa_nil))) pa_nil))) pa_nil)))) (pa_cons (pe_tup (pa_cons pe_str (pa_cons pe_int pa_nil))) (pa_cons (pv 1) pa_nil))))))) pss_nil)
    (pss_one (ps_ret (pe_tup (pa_cons pe_str (pa_cons (pe_tup (pa_cons pe_str (pa_cons (pe_tup (pa_cons pe_int pa_nil)) (pa_cons (pv 1) pa_nil)))) (pa_cons (pe_tup (pa_cons (pe_tup (pa_cons pe_str (pa_cons pe_int pa_nil))) pa_nil)) pa_nil))))))))))), ?_⟩
  refine ⟨_, rfl, S, L, 5, rfl, hl, by decide, nbs (by decide), fun g H1 a1 b1 l1 s1 => ?_⟩
  have f1 := frTwo s1 hl
  have r1 := rt.keep f1.tup
  refine ⟨_, rfl, rfl, _, rfl, ?_⟩
  refine ite2 (fun _ => ?_) (fun _ => ?_)
  · exact ⟨_, rfl, q 0 _ H1 l1 f1 r1⟩
  refine ⟨_, rfl, rfl, _, rfl, ?_⟩
  refine ite2 (fun _ => ?_) (fun _ => ?_)
  · refine ⟨sl2, fun t1 h1 => ⟨sl2, fun t2 h2 => ⟨sl2, fun t3 h3 => ⟨sl2, fun t4 h4 => ⟨sl2, fun t5 h5 => ⟨_, rfl, sl3, fun t6 h6 => ?_⟩⟩⟩⟩⟩⟩
    have g1 := Fr.new (X := No) (o := .tup [V.str "int", .int 3]) h1
    have g2 := Fr.new (X := No) (o := .tup [V.int 5, .ref t1]) h2
    have g3 := Fr.new (X := No) (o := .tup [V.str "local", .int 0]) h3
    have g4 := Fr.new (X := No) (o := .tup [V.int 6, .ref t3]) h4
    have g5 := Fr.new (X := No) (o := .tup [V.ref t2, .ref t4]) h5
    have g6 := Fr.new (X := No) (o := .tup [V.str "let", .ref t5, c]) h6
    have g56 := g5.trans g6
    have g46 := g4.trans g56
    have g36 := g3.trans g46
    have g26 := g2.trans g36
    have g16 := g1.trans g26
    exact q 1 _ _ (l1.sm g16.sm) (f1.trans g16.no) (.let_ (ns := [5, 6]) (ts := [.int 3, .loc 0]) upd_same (g6.tup _ _ upd_same) (.cons (g36.tup _ _ upd_same) (.int (g26.tup _ _ upd_same)) (.cons (g56.tup _ _ upd_same) (.loc (g46.tup _ _ upd_same)) .nil)) (r1.keep g16.tup))
  refine ⟨_, rfl, rfl, _, rfl, ?_⟩
  refine ite2 (fun _ => ?_) (fun _ => ?_)
  · refine ⟨sl2, fun t1 h1 => ⟨_, rfl, sl2, fun t2 h2 => ⟨sl4, fun t3 h3 => ?_⟩⟩⟩
    have g1 := Fr.new (X := No) (o := .tup [V.str "local", .int 0]) h1
    have g2 := Fr.new (X := No) (o := .tup [V.str "int", .int 0]) h2
    have g3 := Fr.new (X := No) (o := .tup [V.str "if", .ref t1, c, .ref t2]) h3
    have g23 := g2.trans g3
    have g13 := g1.trans g23
    exact q 2 _ _ (l1.sm g13.sm) (f1.trans g13.no) (.if_ upd_same (.loc (g23.tup _ _ upd_same)) (r1.keep g13.tup) (.int (g3.tup _ _ upd_same)))
  refine ⟨_, rfl, rfl, _, rfl, ?_⟩
  refine ite2 (fun _ => ?_) (fun _ => ?_)
  · refine ⟨sl2, fun t1 h1 => ⟨sl2, fun t2 h2 => ⟨sl2, fun t3 h3 => ⟨sl2, fun t4 h4 => ⟨sl3, fun t5 h5 => ⟨sl2, fun t6 h6 => ⟨_, rfl, sl4, fun t7 h7 => ?_⟩⟩⟩⟩⟩⟩⟩
    have g1 := Fr.new (X := No) (o := .tup [V.str "prim", .str "<"]) h1
    have g2 := Fr.new (X := No) (o := .tup [V.str "local", .int 0]) h2
    have g3 := Fr.new (X := No) (o := .tup [V.str "int", .int 0]) h3
    have g4 := Fr.new (X := No) (o := .tup [V.ref t2, .ref t3]) h4
    have g5 := Fr.new (X := No) (o := .tup [V.str "call", .ref t1, .ref t4]) h5
    have g6 := Fr.new (X := No) (o := .tup [V.str "int", .int 0]) h6
    have g7 := Fr.new (X := No) (o := .tup [V.str "if", .ref t5, .ref t6, c]) h7
    have g67 := g6.trans g7
    have g57 := g5.trans g67
    have g47 := g4.trans g57
    have g37 := g3.trans g47
    have g27 := g2.trans g37
    have g17 := g1.trans g27
    exact q 3 _ _ (l1.sm g17.sm) (f1.trans g17.no) (.if_ upd_same (.call (g67.tup _ _ upd_same) (g57.tup _ _ upd_same) (.prim (g27.tup _ _ upd_same)) (.cons (.loc (g37.tup _ _ upd_same)) (.cons (.int (g47.tup _ _ upd_same)) .nil))) (.int (g7.tup _ _ upd_same)) (r1.keep g17.tup))
  · refine ⟨sl1, fun t1 h1 => ⟨_, rfl, sl3, fun t2 h2 => ⟨sl2, fun t3 h3 => ⟨sl1, fun t4 h4 => ⟨sl3, fun t5 h5 => ?_⟩⟩⟩⟩⟩
    have g1 := Fr.new (X := No) (o := .tup [V.int 8]) h1
    have g2 := Fr.new (X := No) (o := .tup [V.str "fn", .ref t1, c]) h2
    have g3 := Fr.new (X := No) (o := .tup [V.str "local", .int 1]) h3
    have g4 := Fr.new (X := No) (o := .tup [V.ref t3]) h4
    have g5 := Fr.new (X := No) (o := .tup [V.str "call", .ref t2, .ref t4]) h5
    have g45 := g4.trans g5
    have g35 := g3.trans g45
    have g25 := g2.trans g35
    have g15 := g1.trans g25
    exact q 4 _ _ (l1.sm g15.sm) (f1.trans g15.no) (.call upd_same (g5.tup _ _ upd_same) (.fn (ns := [8]) (g35.tup _ _ upd_same) (g25.tup _ _ upd_same) (r1.keep g15.tup)) (.cons (.loc (g45.tup _ _ upd_same)) .nil))
end
end My
namespace My
open PySem PySem.Spec PyProof.Rows L2 TL
/-! ### the drawn program -/
def nmF : Nat → Str
  | 0 => "a"
  | 1 => "b"
  | _ => "c"
def mkP (many : Nat) (ws : List Bool) (as : List Nat) (p q : Nat → Nat) : Prg := ⟨many, nmF, p, q, fun k => as.getD k 0, fun k => ws.getD k false⟩
theorem mkP_ok {many : Nat} {ws : List Bool} {as : List Nat} {p q : Nat → Nat} (h1 : 0 < many) (h3 : many ≤ 3) (ha : ∀ a ∈ as, a ≤ 8) : PrgOk (mkP many ws as p q) := by
  refine ⟨h1, h3, fun i j hi hj e => ?_, fun k => ?_⟩
  · have hi : i < many := hi
    have hj : j < many := hj
    have e : nmF i = nmF j := e
    have ci : i = 0 ∨ i = 1 ∨ i = 2 := by omega
    have cj : j = 0 ∨ j = 1 ∨ j = 2 := by omega
    rcases ci with c | c | c <;> rcases cj with d | d | d <;> subst c <;> subst d <;> first | rfl | exact absurd e (by decide)
  · show as.getD k 0 ≤ 8
    rw [List.getD_eq_getElem?_getD]
    cases h : as[k]? with
    | none => exact Nat.zero_le _
    | some a => exact ha a (List.mem_of_getElem? h)
def up1 (f : Nat → Nat) (k v : Nat) : Nat → Nat := fun i => if i = k then v else f i
theorem df_up {many : Nat} {ws : List Bool} {as : List Nat} {p q : Nat → Nat} {i a b j : Nat} (h : j < i) : (mkP many ws as (up1 p i a) (up1 q i b)).df j = (mkP many ws as p q).df j := by
  unfold Prg.df Prg.body mkP up1 Prg.nx
  dsimp only
  rw [if_neg (by omega), if_neg (by omega)]
theorem dfs_up {many : Nat} {ws : List Bool} {as : List Nat} {p q : Nat → Nat} {i a b : Nat} : (List.range (i + 1)).map (mkP many ws as (up1 p i a) (up1 q i b)).df = (List.range i).map (mkP many ws as p q).df ++ [(((("m" : Str), nmF i), Tr.fn [0, 1] (bodyT a b (ws.getD i false) (nmF ((i + 1) % many)) (as.getD i 0))) : (Str × Str) × Tr)] := by
  rw [List.range_succ, List.map_append]
  congr 1
  · exact List.map_congr_left fun j m => df_up (List.mem_range.mp m)
  · unfold Prg.df Prg.body mkP up1 Prg.nx
    simp
theorem wid_last {p : Nat} {t : Tr} (h : widT t) : widT (lastT p t) := by
  unfold lastT
  split
  · exact h
  split
  · exact ⟨by show 2 ≤ 1000; omega, ⟨trivial, trivial, trivial⟩, h⟩
  split
  · exact ⟨trivial, h, trivial⟩
  split
  · exact ⟨⟨by show 2 ≤ 900; omega, trivial, trivial, trivial, trivial⟩, trivial, h⟩
  · exact ⟨by show 1 ≤ 900; omega, ⟨by show 1 ≤ 1000; omega, h⟩, trivial, trivial⟩
theorem nm_len (k : Nat) : (nmF k).length ≤ big := by
  unfold nmF
  split <;> decide
theorem wid_call {w : Bool} {k : Nat} {add : Nat} : widT (callT w (nmF k) add) := by
  have h0 : widT (.call (.glob "m" (nmF k)) [.call (.prim "-") [.loc 0, .int 1], .call (.prim "+") [.loc 1, .int add]]) := ⟨by show 2 ≤ 900; omega, ⟨by decide, nm_len k⟩, ⟨by show 2 ≤ 900; omega, trivial, trivial, trivial, trivial⟩, ⟨by show 2 ≤ 900; omega, trivial, trivial, trivial, trivial⟩, trivial⟩
  unfold callT
  split
  · exact ⟨by show 2 ≤ 900; omega, trivial, h0, trivial, trivial⟩
  · exact h0
theorem wid_df {p q : Nat} {w : Bool} {k add : Nat} : widT (.fn [0, 1] (bodyT p q w (nmF k) add)) := ⟨by show 2 ≤ 1000; omega, trivial, wid_last (wid_last wid_call), trivial⟩
theorem wid_core {P : Prg} {count : Nat} (h : P.nm = nmF) : widT (P.core count) := ⟨by show 2 ≤ 900; omega, ⟨by decide, by rw [h]; exact nm_len 0⟩, trivial, trivial, trivial⟩
theorem CodesOf.snoc {ds : List ((Str × Str) × Tr)} {es : List ((Str × Str) × Code)} (h : CodesOf ds es) {key : Str × Str} {t : Tr} {c : Code} (hc : CodeOf t c) : CodesOf (ds ++ [(key, t)]) (es ++ [(key, c)]) := by
  induction h with
  | nil => exact .cons hc .nil
  | cons h _ ih => exact .cons h ih
theorem abc_at {i : Int} {k : Nat} (h : i = k) (hk : k < 3) : ∃ c, atI (Str.cps "abc").toList i = some c ∧ (⟨#[c]⟩ : Str) = nmF k := by
  subst h
  have ck : k = 0 ∨ k = 1 ∨ k = 2 := by omega
  rcases ck with c | c | c <;> subst c
  · exact ⟨_, rfl, rfl⟩
  · exact ⟨_, rfl, rfl⟩
  · exact ⟨_, rfl, rfl⟩
theorem int_sh {H : Hp} {u : V} {i : Int} (h : RSh H u (.int i)) : u = .int i := by
  cases h
  rfl
theorem sam_out {H : Hp} {Q : VK} {E : XK} {a b : Addr} {i : Int} (ha : H a = some (.tup [.str "value", .int i])) (hb : H b = some (.tup [.str "value", .int i])) (q : ∀ H', Fr No H H' → Q (.bl true) H') : spSam 4 [.ref a, .ref b] H Q E := by
  refine ⟨.ref a, .ref b, .tup [.str "value", .int i], rfl, .tup ha (.cons (.str _) (.cons (.int _) .nil)), .tup hb (.cons (.str _) (.cons (.int _) .nil)), ?_, ?_, q⟩
  · show 1 + max 1 (max 1 0) ≤ 3 + 1
    omega
  · show 2 ≤ 900 ∧ True ∧ True ∧ True
    exact ⟨by omega, trivial, trivial, trivial⟩
end My
namespace My
open PySem PySem.Spec PyProof.Rows L2 TL
abbrev sLaw : Stmt := top 74
abbrev NLw : List Str := ["script", "state", "many", "count", "waiting", "adds", "definitions", "k", "less", "more", "call_v", "body", "core", "due", "waits", "codes", "outcome", "taken", "frames", "module", "name", "part"]
def spLaw (K : PySem.W.Frag) (P1 : Addr) : Sp := fun vs H Q _ => ∃ (a : Addr) (ns : List Int), vs = [.ref a] ∧ SqL K H a (ns.map V.int) ∧ ns.length ≤ 63 ∧ GxR.TabG H P1 ∧ ∀ H', Q (.bl true) H'
section
variable {P : Program} {w : World} {K : PySem.W.Frag} {mg : Str → Option Value} {base : Heap}
theorem scLaw : FnScope NLw ["script"] (defScope sLaw) := ⟨rfl, rfl, rfl, by decide +kernel, rfl, by decide +kernel, by decide +kernel⟩
theorem ok_law {f fS fT fV fM fP fC fO P1 : Addr} {fd dS dT dV dM dP dC dO : FuncData} (F : Fun K "law" "law" sLaw f fd) (B : Blt mg) (GS : Cal P w K mg base CX0 1 "_law_state" ["script"] (spState K) fS dS) (GT : Cal P w K mg base CX0 2 "_law_take" ["state", "limit"] spTake fT dT)
    (GV : Cal P w K mg base CX0 3 "_law_last" ["state", "call_v"] spLst fV dV) (GM : Cal P w K mg base CX0 4 "_law_same" ["one", "two"] (spSam 4) fM dM) (GP : Cal P w K mg base CX0 72 "run_plain" ["definitions", "core", "most"] (spRp P1) fP dP)
    (GC : Cal P w K mg base CX0 72 "run_code" ["definitions", "code", "most"] (spRc P1) fC dC) (GO : Cal P w K mg base CX0 7 "compile_core" ["core"] spCc fO dO) : FnOk P w K mg base CX0 73 f fd ["script"] (spLaw K P1) := by
  refine F.ok scLaw (fun vs H Q E h => ?_) (fun cdv A outer s H vs Q E hr h => ?_)
  · obtain ⟨a, ns, rfl, _⟩ := h
    rfl
  obtain ⟨a, ns, rfl, hS, hn, tg, q⟩ := h
  have nd := scLaw.nd
  have r1 : Room 1 _ := hr.mono (show 1 ≤ 72 by decide)
  have r2 : Room 2 _ := hr.mono (show 2 ≤ 72 by decide)
  have r3 : Room 3 _ := hr.mono (show 3 ≤ 72 by decide)
  have r4 : Room 4 _ := hr.mono (show 4 ≤ 72 by decide)
  have r7 : Room 7 _ := hr.mono (show 7 ≤ 72 by decide)
  refine ⟨_, (pss_cons (ps_set (i := 1) nd rfl (Or.inr rfl) (pe_call GS.ok r1 rfl GS.g GS.k GS.b .nil pass0 (pa_cons (pv 0) pa_nil)))
    (pss_cons (ps_set (i := 2) nd rfl (Or.inl rfl) (pe_op op_add pe_int (pe_call GT.ok r2 rfl GT.g GT.k GT.b .nil pass0 (pa_cons (pv 1) (pa_cons pe_int pa_nil)))))
    (pss_cons (ps_set (i := 3) nd rfl (Or.inl rfl) (pe_call GT.ok r2 rfl GT.g GT.k GT.b .nil pass0 (pa_cons (pv 1) (pa_cons pe_int pa_nil))))
    (pss_cons (ps_setLc (i := 4) (own := [("k", 7)]) (g := gName 7) (tt := tYes) rfl nd rfl rfl (sw_true rfl rfl rfl (by decide +kernel)) (pi_range1 (by rfl) B.range (pa_cons (pv 2) pa_nil)) (blkOk_by (N := NLw) (sc := defScope sLaw) (by decide +kernel)) (fun _ _ _ _ _ => (pg_name (i := 7) nd rfl (Or.inl rfl) (hf := Or.inr rfl))) (fun _ _ _ _ _ => pts_nil) (fun _ _ _ _ _ => (pe_and (pe_cmpR op_eq (pe_call GT.ok r2 rfl GT.g GT.k GT.b .nil pass0 (pa_cons (pv 1) (pa_cons pe_int pa_nil))) pe_int (nomark _)) (pe_one (pe_cmpR op_eq (pe_call GT.ok r2 rfl GT.g GT.k GT.b .nil pass0 (pa_cons (pv 1) (pa_cons pe_int pa_nil))) pe_int (nomark _))))))
    (pss_cons (ps_setLc (i := 5) (own := [("k", 7)]) (g := gName 7) (tt := tYes) rfl nd rfl rfl (sw_true rfl rfl rfl (by decide +kernel)) (pi_range1 (by rfl) B.range (pa_cons (pv 2) pa_nil)) (blkOk_by (N := NLw) (sc := defScope sLaw) (by decide +kernel)) (fun _ _ _ _ _ => (pg_name (i := 7) nd rfl (Or.inl rfl) (hf := Or.inr rfl))) (fun _ _ _ _ _ => pts_nil) (fun _ _ _ _ _ => (pe_call GT.ok r2 rfl GT.g GT.k GT.b .nil pass0 (pa_cons (pv 1) (pa_cons pe_int pa_nil)))))
    (pss_cons (ps_set (i := 6) nd rfl (Or.inl rfl) (pe_lst pa_nil))
    (pss_cons (ps_for PassesOwn.never rfl (pi_range1 (by rfl) B.range (pa_cons (pv 2) pa_nil)) (pg_name (i := 7) nd rfl (Or.inl rfl))
      (pss_cons (ps_set (i := 8) nd rfl (Or.inl rfl) (pe_tup (pa_cons pe_str (pa_cons (pe_tup (pa_cons pe_str (pa_cons pe_str pa_nil))) (pa_cons (pe_tup (pa_cons (pe_tup (pa_cons pe_str (pa_cons pe_int pa_nil))) (pa_cons (pe_tup (pa_cons pe_str (pa_cons pe_int pa_nil))) pa_nil))) pa_nil)))))
      (pss_cons (ps_set (i := 9) nd rfl (Or.inl rfl) (pe_tup (pa_cons pe_str (pa_cons (pe_tup (pa_cons pe_str (pa_cons pe_str pa_nil))) (pa_cons (pe_tup (pa_cons (pe_tup (pa_cons pe_str (pa_cons pe_int pa_nil))) (pa_cons (pe_tup (pa_cons pe_str (pa_cons (pe_ix (r := rIxL K) ix_list (pv 5) (pv 7) (fun _ _ => rfl)) pa_nil))) pa_nil))) pa_nil)))))
      (pss_cons (ps_set (i := 10) nd rfl (Or.inl rfl) (pe_tup (pa_cons pe_str (pa_cons (pe_tup (pa_cons pe_str (pa_cons pe_str (pa_cons (pe_ix (r := rIxS) ix_str pe_str (pe_op op_mod (pe_callTy call_int1 (by rfl) B.int (by decide +kernel) (pa_cons (pe_op op_add (pv 7) pe_int) pa_nil)) (pv 2)) (fun _ _ => rfl)) pa_nil)))) (pa_cons (pe_tup (pa_cons (pv 8) (pa_cons (pv 9) pa_nil))) pa_nil)))))
      (C8.pss_cut (ps_if (pt_val (pe_ix (r := rIxL K) ix_list (pv 4) (pv 7) (fun _ _ => rfl))) (pss_one (ps_set (i := 10) nd rfl (Or.inl rfl) (pe_tup (pa_cons pe_str (pa_cons (pe_tup (pa_cons pe_str (pa_cons pe_str pa_nil))) (pa_cons (pe_tup (pa_cons (pv 10) (pa_cons (pe_tup (pa_cons pe_str (pa_cons pe_int pa_nil))) pa_nil))) pa_nil)))))) pss_nil)
      (pss_cons (ps_set (i := 11) nd rfl (Or.inl rfl) (pe_tup (pa_cons pe_str (pa_cons (pe_tup (pa_cons pe_str (pa_cons pe_int pa_nil))) (pa_cons (pe_call GV.ok r3 rfl GV.g GV.k GV.b .nil pass0 (pa_cons (pv 1) (pa_cons (pe_call GV.ok r3 rfl GV.g GV.k GV.b .nil pass0 (pa_cons (pv 1) (pa_cons (pv 10) pa_nil))) pa_nil))) (pa_cons (pe_tup (pa_cons pe_str (pa_cons pe_int pa_nil))) pa_nil))))))
      (pss_one (ps_expr (pe_bm PySem.F.plainAttrs_list PySem.F.slot_list_append PySem.F.type_list_append mt_append (pv 6) (pa_cons (pe_tup (pa_cons pe_str (pa_cons (pe_ix (r := rIxS) ix_str pe_str (pv 7) (fun _ _ => rfl)) (pa_cons (pe_tup (pa_cons pe_str (pa_cons (pe_tup (pa_cons pe_int (pa_cons pe_int pa_nil))) (pa_cons (pv 11) pa_nil)))) pa_nil)))) pa_nil))))))))))
    (pss_cons (ps_set (i := 12) nd rfl (Or.inl rfl) (pe_tup (pa_cons pe_str (pa_cons (pe_tup (pa_cons pe_str (pa_cons pe_str (pa_cons pe_str pa_nil)))) (pa_cons (pe_tup (pa_cons (pe_tup (pa_cons pe_str (pa_cons (pv 3) pa_nil))) (pa_cons (pe_tup (pa_cons pe_str (pa_cons pe_int pa_nil))) pa_nil))) pa_nil)))))
    (pss_cons (ps_set (i := 13) nd rfl (Or.inl rfl) pe_int)
    (pss_cons (ps_set (i := 14) nd rfl (Or.inl rfl) pe_int)
    (pss_cons (ps_for PassesOwn.never rfl (pi_range1 (by rfl) B.range (pa_cons (pv 3) pa_nil)) (pg_name (i := 7) nd rfl (Or.inl rfl))
      (pss_cons (ps_set (i := 13) nd rfl (Or.inl rfl) (pe_op op_add (pe_op op_add (pv 13) (pe_ix (r := rIxL K) ix_list (pv 5) (pe_op op_mod (pe_callTy call_int1 (by rfl) B.int (by decide +kernel) (pa_cons (pv 7) pa_nil)) (pv 2)) (fun _ _ => rfl))) (pe_callTy call_int1 (by rfl) B.int (by decide +kernel) (pa_cons (pe_ix (r := rIxL K) ix_list (pv 4) (pe_op op_mod (pe_callTy call_int1 (by rfl) B.int (by decide +kernel) (pa_cons (pv 7) pa_nil)) (pv 2)) (fun _ _ => rfl)) pa_nil))))
      (pss_one (ps_set (i := 14) nd rfl (Or.inl rfl) (pe_op op_add (pv 14) (pe_callTy call_int1 (by rfl) B.int (by decide +kernel) (pa_cons (pe_ix (r := rIxL K) ix_list (pv 4) (pe_op op_mod (pe_callTy call_int1 (by rfl) B.int (by decide +kernel) (pa_cons (pv 7) pa_nil)) (pv 2)) (fun _ _ => rfl)) pa_nil)))))))
    (pss_cons (ps_setLc (i := 15) (own := [("module", 19), ("name", 20), ("part", 21)]) (g := gTup K 3 (gCons (gName 19) (gCons (gName 20) (gCons (gName 21) gNil)))) (tt := tYes) rfl nd rfl rfl (sw_true rfl rfl rfl (by decide +kernel)) (pi_list (pv 6)) (blkOk_by (N := NLw) (sc := defScope sLaw) (by decide +kernel)) (fun _ _ _ _ _ => (pg_tup rfl (pgs_cons (pg_name (i := 19) nd rfl (Or.inl rfl) (hf := Or.inr rfl)) (pgs_cons (pg_name (i := 20) nd rfl (Or.inl rfl) (hf := Or.inr rfl)) (pgs_cons (pg_name (i := 21) nd rfl (Or.inl rfl) (hf := Or.inr rfl)) pgs_nil))))) (fun _ _ _ _ _ => pts_nil) (fun _ _ _ _ _ => (pe_tup (pa_cons (pv 19) (pa_cons (pv 20) (pa_cons (pe_call GO.ok r7 rfl GO.g GO.k GO.b .nil pass0 (pa_cons (pv 21) pa_nil)) pa_nil))))))
    (pss_cons (ps_asg (pe_call GC.ok hr rfl GC.g GC.k GC.b .nil pass0 (pa_cons (pv 15) (pa_cons (pe_call GO.ok r7 rfl GO.g GO.k GO.b .nil pass0 (pa_cons (pv 12) pa_nil)) (pa_cons pe_int pa_nil)))) (pg_tup rfl (pgs_cons (pg_name (i := 16) nd rfl (Or.inl rfl)) (pgs_cons (pg_name (i := 17) nd rfl (Or.inl rfl)) (pgs_cons (pg_name (i := 18) nd rfl (Or.inl rfl)) pgs_nil)))))
    (pss_cons (ps_if (PW.pt (pw_or (pt_not (pt_val (pe_call GM.ok r4 rfl GM.g GM.k GM.b .nil pass0 (pa_cons (pv 16) (pa_cons (pe_tup (pa_cons pe_str (pa_cons (pv 13) pa_nil))) pa_nil))))) (pw_or1 (pt_not (pt_val (pe_call GM.ok r4 rfl GM.g GM.k GM.b .nil pass0 (pa_cons (pe_ix (r := rIxT K) ix_tup (pe_call GP.ok hr rfl GP.g GP.k GP.b .nil pass0 (pa_cons (pv 6) (pa_cons (pv 12) (pa_cons pe_int pa_nil)))) pe_int (fun _ _ => rfl)) (pa_cons (pe_tup (pa_cons pe_str (pa_cons (pv 13) pa_nil))) pa_nil)))))))) (pss_one (ps_ret pe_bl)) pss_nil)
    (pss_one (ps_ret (pe_cmpR op_eq (pv 18) (pe_op op_add pe_int (pv 14)) (nomark _)))))))))))))))))), ?_⟩
  refine ⟨_, rfl, a, ns, rfl, hS, hn, fun S L H1 hS0 hL0 ls s1 => ?_⟩
  have f1 : Fr No H H1 := Fr.of s1
  refine ⟨_, rfl, S, L, 3, rfl, ls, by decide, nbs (by decide), fun gm H2 am bm l2 s2 => ⟨_, _, rfl, rfl, ?_⟩⟩
  obtain ⟨many, em⟩ : ∃ m : Nat, (1 + gm : Int) = m := ⟨(1 + gm).toNat, by omega⟩
  have hm1 : 0 < many := by omega
  have hm3 : many ≤ 3 := by omega
  dsimp only
  rw [em]
  refine ⟨_, rfl, S, L, 401, rfl, l2, by decide, nbs (by decide), fun gc H3 ac bc l3 s3 => ?_⟩
  obtain ⟨count, rfl⟩ : ∃ m : Nat, gc = m := ⟨gc.toNat, by omega⟩
  have hc4 : count ≤ 400 := by omega
  have f3 : Fr (Two S L) H H3 := f1.no.trans ((frTwo s2 ls).trans (frTwo s3 l2))
  -- who waits
  refine ⟨_, rfl, _, rfl, by omega, by omega, fun D hD => ?_⟩
  have nD := l3.two hD
  refine lc_range (lo := 0) (n := many) (fun i H' => ∃ ws : List Bool, H' D = some (.lst (ws.map V.bl)) ∧ ws.length = i ∧ LS H' S L ∧ Fr (Two S L) H3 H') ⟨[], upd_same, rfl, l3.laid hD, Fr.new hD⟩ ?_ ?_
  · rintro i H4 hi ⟨ws, h1, h2, l4, f4⟩
    have fin : ∀ (b : Bool) H5, LS H5 S L → Fr (Two S L) H4 H5 → ∃ acc, H5 D = some (.lst acc) ∧ acc.length < sizeLine ∧ ∃ ws' : List Bool, upd H5 D (.lst (acc ++ [.bl b])) D = some (.lst (ws'.map V.bl)) ∧ ws'.length = i + 1 ∧ LS (upd H5 D (.lst (acc ++ [.bl b]))) S L ∧ Fr (Two S L) H3 (upd H5 D (.lst (acc ++ [.bl b]))) := by
      intro b H5 l5 f5
      have h15 := f5.keep nD rfl h1
      refine ⟨_, h15, Nat.lt_of_le_of_lt (show _ ≤ 1000000 by rw [List.length_map]; omega) (by decide), ws ++ [b], ?_, by simp [h2], l5.put nD, (f4.trans f5).mut hD h15 rfl⟩
      rw [upd_same, List.map_append]
      rfl
    refine ⟨rfl, _, rfl, S, L, 2, rfl, l4, by decide, nbs (by decide), fun g5 H5 a5 b5 l5 s5 => ⟨rfl, _, rfl, ?_⟩⟩
    have f5 := frTwo s5 l4
    refine ite2 (fun _ => ?_) (fun _ => fin _ H5 l5 f5)
    refine ⟨_, rfl, S, L, 2, rfl, l5, by decide, nbs (by decide), fun g6 H6 a6 b6 l6 s6 => ⟨rfl, ?_⟩⟩
    exact fin _ H6 l6 (f5.trans (frTwo s6 l5))
  rintro H4 ⟨ws, hW, lW, l4, f4⟩
  -- what is added
  refine ⟨_, rfl, _, rfl, by omega, by omega, fun D2 hD2 => ?_⟩
  have nD2 := l4.two hD2
  refine lc_range (lo := 0) (n := many) (fun i H' => ∃ as : List Nat, H' D2 = some (.lst (as.map fun n : Nat => V.int (n : Int))) ∧ as.length = i ∧ (∀ a ∈ as, a ≤ 8) ∧ LS H' S L ∧ Fr (Two S L) H4 H') ⟨[], upd_same, rfl, (fun _ m => by cases m), l4.laid hD2, Fr.new hD2⟩ ?_ ?_
  · rintro i H5 hi ⟨as, h1, h2, h3, l5, f5⟩
    refine ⟨rfl, _, rfl, S, L, 9, rfl, l5, by decide, nbs (by decide), fun g6 H6 a6 b6 l6 s6 => ?_⟩
    have f6 := frTwo s6 l5
    have h16 := f6.keep nD2 rfl h1
    refine ⟨_, h16, Nat.lt_of_le_of_lt (show _ ≤ 1000000 by rw [List.length_map]; omega) (by decide), as ++ [g6.toNat], ?_, by simp [h2], fun x m => ?_, l6.put nD2, (f5.trans f6).mut hD2 h16 rfl⟩
    · rw [upd_same, List.map_append]
      have e : ((g6.toNat : Nat) : Int) = g6 := by omega
      show _ = some (HO.lst (_ ++ [V.int ((g6.toNat : Nat) : Int)]))
      rw [e]
    · rcases List.mem_append.mp m with m | m
      · exact h3 x m
      · rw [List.mem_singleton.mp m]; omega
  rintro H5 ⟨as, hA, lA, as8, l5, f5⟩
  have hW5 := f5.keep nD rfl hW
  have f05 : Fr (Two S L) H H5 := f3.trans (f4.trans f5)
  -- the definitions
  refine ⟨by show 0 ≤ sizeLine; decide, fun D3 hD3 => ?_⟩
  have nD3 := l5.two hD3
  refine ⟨_, rfl, many, rfl, by omega, by omega, for_range (n := many) (fun i σ H' => ∃ (v7 v8 v9 v10 v11 : Option V) (p q : Nat → Nat) (us : List V), σ = [some (.ref a), some (.ref S), some (.int many), some (.int count), some (.ref D), some (.ref D2), some (.ref D3), v7, v8, v9, v10, v11, none, none, none, none, none, none, none, none, none, none] ∧ H' D3 = some (.lst us) ∧ Als (RDp H') us ((List.range i).map (mkP many ws as p q).df) ∧ LS H' S L ∧ Fr (Two S L) H5 H')
    ⟨none, none, none, none, none, fun _ => 0, fun _ => 0, [], rfl, upd_same, .nil, l5.laid hD3, Fr.new hD3⟩ ?_ ?_⟩
  · rintro i σ H6 hi ⟨v7, v8, v9, v10, v11, p, q0, us, rfl, h3, al, l6, f6⟩
    have hW6 := f6.keep nD rfl hW5
    have hA6 := f6.keep nD2 rfl hA
    have ei : (0 : Int) + (i : Nat) = (i : Nat) := by omega
    -- less
    refine ⟨sl2, fun t1 h1 => ⟨sl2, fun t2 h2 => ⟨sl2, fun t3 h3b => ⟨sl2, fun t4 h4 => ⟨sl3, fun t5 h5 => ?_⟩⟩⟩⟩⟩
    obtain ⟨H7, eH7⟩ : ∃ H7, upd (upd (upd (upd (upd H6 t1 (.tup [.str "prim", .str "-"])) t2 (.tup [.str "local", .int 0])) t3 (.tup [.str "int", .int 1])) t4 (.tup [.ref t2, .ref t3])) t5 (.tup [.str "call", .ref t1, .ref t4]) = H7 := ⟨_, rfl⟩
    have k7 : Fr No H6 H7 ∧ RT H7 (.ref t5) (.call (.prim "-") [.loc 0, .int 1]) := by
      rw [← eH7]
      have g1 := Fr.new (X := No) (o := .tup [V.str "prim", .str "-"]) h1
      have g2 := Fr.new (X := No) (o := .tup [V.str "local", .int 0]) h2
      have g3 := Fr.new (X := No) (o := .tup [V.str "int", .int 1]) h3b
      have g4 := Fr.new (X := No) (o := .tup [V.ref t2, .ref t3]) h4
      have g5 := Fr.new (X := No) (o := .tup [V.str "call", .ref t1, .ref t4]) h5
      have g45 := g4.trans g5
      have g35 := g3.trans g45
      have g25 := g2.trans g35
      exact ⟨g1.trans g25, .call upd_same (g5.tup _ _ upd_same) (.prim (g25.tup _ _ upd_same)) (.cons (.loc (g35.tup _ _ upd_same)) (.cons (.int (g45.tup _ _ upd_same)) .nil))⟩
    obtain ⟨f7, rl7⟩ := k7
    rw [eH7]
    clear eH7
    -- more
    have hA7 := f7.keep (fun z => z) rfl hA6
    obtain ⟨ad, had⟩ : ∃ ad, as[i]? = some ad := ⟨as[i]'(by omega), List.getElem?_eq_getElem _⟩
    have had2 : as.getD i 0 = ad := by rw [List.getD_eq_getElem?_getD, had]; rfl
    refine ⟨sl2, fun u1 k1 => ⟨sl2, fun u2 k2 => ⟨_, rfl, _, rfl, D2, _, _, .int (ad : Int), rfl, rfl, SqL.of (((Fr.new (X := No) k1).trans (Fr.new (X := No) k2)).keep (fun z => z) rfl hA7), ?_, sl2, fun u3 k3 => ⟨sl2, fun u4 k4 => ⟨sl3, fun u5 k5 => ?_⟩⟩⟩⟩⟩
    · rw [ei]
      exact atI_nat (by rw [List.getElem?_map, had]; rfl)
    obtain ⟨H8, eH8⟩ : ∃ H8, upd (upd (upd (upd (upd H7 u1 (.tup [.str "prim", .str "+"])) u2 (.tup [.str "local", .int 1])) u3 (.tup [.str "int", .int (ad : Int)])) u4 (.tup [.ref u2, .ref u3])) u5 (.tup [.str "call", .ref u1, .ref u4]) = H8 := ⟨_, rfl⟩
    have k8 : Fr No H7 H8 ∧ RT H8 (.ref u5) (.call (.prim "+") [.loc 1, .int ad]) := by
      rw [← eH8]
      have g1 := Fr.new (X := No) (o := .tup [V.str "prim", .str "+"]) k1
      have g2 := Fr.new (X := No) (o := .tup [V.str "local", .int 1]) k2
      have g3 := Fr.new (X := No) (o := .tup [V.str "int", .int (ad : Int)]) k3
      have g4 := Fr.new (X := No) (o := .tup [V.ref u2, .ref u3]) k4
      have g5 := Fr.new (X := No) (o := .tup [V.str "call", .ref u1, .ref u4]) k5
      have g45 := g4.trans g5
      have g35 := g3.trans g45
      have g25 := g2.trans g35
      exact ⟨g1.trans g25, .call upd_same (g5.tup _ _ upd_same) (.prim (g25.tup _ _ upd_same)) (.cons (.loc (g35.tup _ _ upd_same)) (.cons (.int (g45.tup _ _ upd_same)) .nil))⟩
    obtain ⟨f8, rm8⟩ := k8
    rw [eH8]
    clear eH8
    -- the call
    have hnx : (i + 1) % many < many := Nat.mod_lt _ hm1
    obtain ⟨ch, hch, ech⟩ := abc_at (i := ((0 : Int) + (i : Nat) + 1) % (many : Int)) (k := (i + 1) % many) (by rw [show (0 : Int) + (i : Nat) + 1 = ((i + 1 : Nat) : Int) by omega]; rfl) (by omega)
    refine ⟨_, rfl, _, _, rfl, rfl, .inl ⟨_, rfl, _, rfl, _, _, rfl, rfl, by omega, _, _, ch, rfl, rfl, by decide, hch, sl3, fun w1 m1 => ⟨_, rfl, _, rfl, sl2, fun w2 m2 => ⟨sl3, fun w3 m3 => ?_⟩⟩⟩⟩
    rw [ech] at *
    obtain ⟨H9, eH9⟩ : ∃ H9, upd (upd (upd H8 w1 (.tup [.str "global", .str "m", .str (nmF ((i + 1) % many))])) w2 (.tup [.ref t5, .ref u5])) w3 (.tup [.str "call", .ref w1, .ref w2]) = H9 := ⟨_, rfl⟩
    have k9 : Fr No H8 H9 ∧ RT H9 (.ref w3) (.call (.glob "m" (nmF ((i + 1) % many))) [.call (.prim "-") [.loc 0, .int 1], .call (.prim "+") [.loc 1, .int ad]]) := by
      rw [← eH9]
      have g1 := Fr.new (X := No) (o := .tup [V.str "global", .str "m", .str (nmF ((i + 1) % many))]) m1
      have g2 := Fr.new (X := No) (o := .tup [V.ref t5, .ref u5]) m2
      have g3 := Fr.new (X := No) (o := .tup [V.str "call", .ref w1, .ref w2]) m3
      have g23 := g2.trans g3
      have g13 := g1.trans g23
      exact ⟨g13, .call upd_same (g3.tup _ _ upd_same) (.glob (g23.tup _ _ upd_same)) (.cons ((rl7.keep f8.tup).keep g13.tup) (.cons (rm8.keep g13.tup) .nil))⟩
    obtain ⟨f9, rc9⟩ := k9
    rw [eH9]
    clear eH9
    have f69 := f7.trans (f8.trans f9)
    have l9 := l6.sm f69.sm
    have hW9 := f69.keep (fun z => z) rfl hW6
    obtain ⟨wt, hwt⟩ : ∃ b, ws[i]? = some b := ⟨ws[i]'(by omega), List.getElem?_eq_getElem _⟩
    have hwt2 : ws.getD i false = wt := by rw [List.getD_eq_getElem?_getD, hwt]; rfl
    refine ⟨fun σ H' => ∃ cv, σ = [some (.ref a), some (.ref S), some (.int many), some (.int count), some (.ref D), some (.ref D2), some (.ref D3), some (.int (0 + (i : Nat))), some (.ref t5), some (.ref u5), some cv, v11, none, none, none, none, none, none, none, none, none, none] ∧ RT H' cv (callT wt (nmF ((i + 1) % many)) ad) ∧ Fr No H9 H', ?_, ?_⟩
    · refine ⟨_, rfl, _, rfl, D, _, _, .bl wt, rfl, rfl, SqL.of hW9, ?_, _, rfl, ?_⟩
      · rw [ei]
        exact atI_nat (by rw [List.getElem?_map, hwt]; rfl)
      refine ite2 (fun c => ?_) (fun c => ?_)
      · refine ⟨sl2, fun x1 n1 => ⟨_, rfl, sl2, fun x2 n2 => ⟨sl2, fun x3 n3 => ⟨sl3, fun x4 n4 => ⟨_, rfl, ?_, ?_⟩⟩⟩⟩⟩
        · have g1 := Fr.new (X := No) (o := .tup [V.str "prim", .str "+"]) n1
          have g2 := Fr.new (X := No) (o := .tup [V.str "int", .int 1]) n2
          have g3 := Fr.new (X := No) (o := .tup [V.ref w3, .ref x2]) n3
          have g4 := Fr.new (X := No) (o := .tup [V.str "call", .ref x1, .ref x3]) n4
          have g34 := g3.trans g4
          have g24 := g2.trans g34
          unfold callT
          rw [if_pos c]
          exact .call upd_same (g4.tup _ _ upd_same) (.prim (g24.tup _ _ upd_same)) (.cons (rc9.keep (g1.trans g24).tup) (.cons (.int (g34.tup _ _ upd_same)) .nil))
        · exact (Fr.new n1).trans ((Fr.new n2).trans ((Fr.new n3).trans (Fr.new n4)))
      · refine ⟨_, rfl, ?_, Fr.refl _ _⟩
        unfold callT
        rw [if_neg c]
        exact rc9
    rintro σ HA ⟨cv, rfl, rcA, fA⟩
    have f6A := f69.trans fA
    have lA' := l6.sm f6A.sm
    -- the body
    refine ⟨sl2, fun y1 o1 => ⟨_, rfl, _, rfl, _, rfl, ?_⟩⟩
    have gy := Fr.new (X := No) (o := .tup [V.str "local", .int 0]) o1
    refine ⟨S, L, cv, _, rfl, lA'.laid o1, rcA.keep gy.tup, fun qq u2 HB lB fB rB => ?_⟩
    refine ⟨S, L, u2, _, rfl, lB, rB, fun pp u3 HC lC fC rC => ⟨sl2, fun y2 o2 => ⟨sl4, fun y3 o3 => ?_⟩⟩⟩
    have hy1 := (fB.trans fC).tup y1 _ upd_same
    have f6C : Fr (Two S L) H6 HC := (f6A.trans gy).no.trans (fB.trans fC)
    have g2 := Fr.new (X := No) (o := .tup [V.str "local", .int 1]) o2
    have g3 := Fr.new (X := No) (o := .tup [V.str "if", .ref y1, u3, .ref y2]) o3
    obtain ⟨HD, eHD⟩ : ∃ HD, upd (upd HC y2 (.tup [.str "local", .int 1])) y3 (.tup [.str "if", .ref y1, u3, .ref y2]) = HD := ⟨_, rfl⟩
    have kD : Fr No HC HD ∧ RT HD (.ref y3) (bodyT pp qq wt (nmF ((i + 1) % many)) ad) := by
      rw [← eHD]
      have g23 := g2.trans g3
      exact ⟨g23, .if_ upd_same (.loc (g23.tup _ _ hy1)) (rC.keep g23.tup) (.loc (g3.tup _ _ upd_same))⟩
    obtain ⟨fD, rD⟩ := kD
    rw [eHD]
    clear eHD
    have f6D := f6C.trans fD.no
    have h3D := f6D.keep nD3 rfl h3
    -- the definition
    obtain ⟨ch2, hch2, ech2⟩ := abc_at (i := ((0 : Int) + (i : Nat))) (k := i) (by omega) (by omega)
    refine ⟨_, rfl, .inl ⟨rfl, _, SqL.of h3D⟩, _, rfl, _, _, ch2, rfl, rfl, by decide, hch2, sl2, fun z1 p1 => ⟨_, rfl, sl3, fun z2 p2 => ⟨sl3, fun z3 p3 => ?_⟩⟩⟩
    rw [ech2] at *
    have g4 := Fr.new (X := No) (o := .tup [V.int 0, .int 1]) p1
    have g5 := Fr.new (X := No) (o := .tup [V.str "fn", .ref z1, .ref y3]) p2
    have g6 := Fr.new (X := No) (o := .tup [V.str "m", .str (nmF i), .ref z2]) p3
    have g46 := g4.trans (g5.trans g6)
    have h3E := g46.keep (fun z => z) rfl h3D
    refine ⟨D3, us, _, rfl, rfl, h3E, Nat.lt_of_le_of_lt (show us.length ≤ 1000000 by rw [al.len, List.length_map, List.length_range]; omega) (by decide), ?_⟩
    have fm : Fr (fun b => b = D3) _ (upd _ D3 (.lst (us ++ [V.ref z3]))) := Fr.set rfl h3E rfl
    refine ⟨_, _, _, _, _, up1 p i pp, up1 q0 i qq, us ++ [.ref z3], rfl, upd_same, ?_, (lC.sm (fD.trans g46).sm).put nD3, ((f6.trans f6D).trans g46.no).mut hD3 h3E rfl⟩
    rw [dfs_up, hwt2, had2]
    have f6E := (f6D.trans g46.no).tup
    refine (al.mono fun _ _ r => (r.keep f6E).keep fm.tup).app (.one ⟨z3, .ref z2, rfl, fm.tup _ _ upd_same, .fn (ns := [0, 1]) (fm.tup _ _ (g6.tup _ _ upd_same)) (fm.tup _ _ ((g5.trans g6).tup _ _ upd_same)) ((rD.keep g46.tup).keep fm.tup), wid_df⟩)
  rintro σ H6 ⟨v7, v8, v9, v10, v11, p, q0, us, rfl, h3, al, l6, f6⟩
  have pok : PrgOk (mkP many ws as p q0) := mkP_ok hm1 hm3 as8
  have hW6 := f6.keep nD rfl hW5
  have hA6 := f6.keep nD2 rfl hA
  have lw : us.length = many := by rw [al.len, List.length_map, List.length_range]
  -- the core
  refine ⟨sl3, fun t1 h1 => ⟨_, rfl, sl2, fun t2 h2 => ⟨sl2, fun t3 h3' => ⟨sl2, fun t4 h4 => ⟨sl3, fun t5 h5 => ?_⟩⟩⟩⟩⟩
  obtain ⟨H7, eH7⟩ : ∃ H7, upd (upd (upd (upd (upd H6 t1 (.tup [.str "global", .str "m", .str "a"])) t2 (.tup [.str "int", .int (count : Int)])) t3 (.tup [.str "int", .int 5])) t4 (.tup [.ref t2, .ref t3])) t5 (.tup [.str "call", .ref t1, .ref t4]) = H7 := ⟨_, rfl⟩
  have k7 : Fr No H6 H7 ∧ RT H7 (.ref t5) ((mkP many ws as p q0).core count) := by
    rw [← eH7]
    have g1 := Fr.new (X := No) (o := .tup [V.str "global", .str "m", .str "a"]) h1
    have g2 := Fr.new (X := No) (o := .tup [V.str "int", .int (count : Int)]) h2
    have g3 := Fr.new (X := No) (o := .tup [V.str "int", .int 5]) h3'
    have g4 := Fr.new (X := No) (o := .tup [V.ref t2, .ref t3]) h4
    have g5 := Fr.new (X := No) (o := .tup [V.str "call", .ref t1, .ref t4]) h5
    have g45 := g4.trans g5
    have g35 := g3.trans g45
    have g25 := g2.trans g35
    exact ⟨g1.trans g25, .call upd_same (g5.tup _ _ upd_same) (.glob (g25.tup _ _ upd_same)) (.cons (.int (g35.tup _ _ upd_same)) (.cons (.int (g45.tup _ _ upd_same)) .nil))⟩
  obtain ⟨f7, rc7⟩ := k7
  rw [eH7]
  clear eH7
  have f07 : Fr (Two S L) H5 H7 := f6.trans f7.no
  have hW7 := f7.keep (fun z => z) rfl hW6
  have hA7 := f7.keep (fun z => z) rfl hA6
  have h37 := f7.keep (fun z => z) rfl h3
  have al7 := al.mono fun _ _ r => r.keep f7.tup
  have l7 := l6.sm f7.sm
  have mpos : (0 : Int) < (many : Int) := by omega
  refine ⟨_, rfl, count, rfl, by omega, by omega, for_range (n := count) (fun i σ H' => ∃ (v7 : Option V), σ = [some (.ref a), some (.ref S), some (.int many), some (.int count), some (.ref D), some (.ref D2), some (.ref D3), v7, v8, v9, v10, v11, some (.ref t5), some (.int ((mkP many ws as p q0).lpD i : Nat)), some (.int ((mkP many ws as p q0).lpW i : Nat)), none, none, none, none, none, none, none] ∧ H7 = H') ⟨_, rfl, rfl⟩ ?_ ?_⟩
  · rintro i σ H' hi ⟨v7, rfl, rfl⟩
    have im : i % many < many := Nat.mod_lt _ hm1
    have ei : ((0 : Int) + (i : Nat)) % (many : Int) = ((i % many : Nat) : Int) := by rw [Int.zero_add]; rfl
    obtain ⟨ad, had⟩ : ∃ ad, as[i % many]? = some ad := ⟨as[i % many]'(by omega), List.getElem?_eq_getElem _⟩
    have had2 : (mkP many ws as p q0).add (i % many) = ad := by show as.getD (i % many) 0 = ad; rw [List.getD_eq_getElem?_getD, had]; rfl
    obtain ⟨wt, hwt⟩ : ∃ b, ws[i % many]? = some b := ⟨ws[i % many]'(by omega), List.getElem?_eq_getElem _⟩
    have hwt2 : (mkP many ws as p q0).w (i % many) = wt := by show ws.getD (i % many) false = wt; rw [List.getD_eq_getElem?_getD, hwt]; rfl
    have aA : atI (as.map fun n : Nat => V.int (n : Int)) (((0 : Int) + (i : Nat)) % (many : Int)) = some (.int (ad : Int)) := by
      rw [ei]
      exact atI_nat (by rw [List.getElem?_map, had]; rfl)
    have aW : atI (ws.map V.bl) (((0 : Int) + (i : Nat)) % (many : Int)) = some (.bl wt) := by
      rw [ei]
      exact atI_nat (by rw [List.getElem?_map, hwt]; rfl)
    refine ⟨_, rfl, _, rfl, _, rfl, .inl ⟨_, rfl, _, rfl, _, _, rfl, rfl, mpos, D2, _, _, _, rfl, rfl, SqL.of hA7, aA, _, _, rfl, rfl, _, rfl, _, rfl, .inl ⟨_, rfl, _, rfl, _, _, rfl, rfl, mpos, D, _, _, _, rfl, rfl, SqL.of hW7, aW, .inr ⟨_, rfl, _, _, rfl, rfl, ?_⟩⟩⟩⟩
    refine ⟨_, rfl, _, rfl, _, rfl, .inl ⟨_, rfl, _, rfl, _, _, rfl, rfl, mpos, D, _, _, _, rfl, rfl, SqL.of hW7, aW, .inr ⟨_, rfl, _, _, rfl, rfl, ?_⟩⟩⟩
    have wi : (mkP many ws as p q0).wi (i % many) = if wt = true then 1 else 0 := by unfold Prg.wi; rw [hwt2]
    have e1 : (mkP many ws as p q0).lpD (i + 1) = (mkP many ws as p q0).lpD i + ad + if wt = true then 1 else 0 := by
      show (mkP many ws as p q0).lpD i + (mkP many ws as p q0).add (i % many) + (mkP many ws as p q0).wi (i % many) = _
      rw [had2, wi]
    have e2 : (mkP many ws as p q0).lpW (i + 1) = (mkP many ws as p q0).lpW i + if wt = true then 1 else 0 := by
      show (mkP many ws as p q0).lpW i + (mkP many ws as p q0).wi (i % many) = _
      rw [wi]
    refine ⟨some (.int (0 + (i : Nat))), ?_, rfl⟩
    rw [e1, e2]
    cases wt
    · rfl
    · rfl
  rintro σ H' ⟨v7, rfl, rfl⟩
  -- the codes
  have pn : (mkP many ws as p q0).nm = nmF := rfl
  have plain := prg_plain pok hc4
  have code := fun {es c} => prg_code (es := es) (c := c) pok hc4
  have dl := due_loop (mkP many ws as p q0) count
  have wl := waits_loop (mkP many ws as p q0) count
  have small := df_small (mkP many ws as p q0)
  obtain ⟨cs1, cs2, cs3⟩ := core_small (mkP many ws as p q0) count
  have wcore := wid_core (count := count) pn
  have lds : ((List.range many).map (mkP many ws as p q0).df).length ≤ 1000 := by rw [List.length_map, List.length_range]; omega
  obtain ⟨P0, eP0⟩ : ∃ P0, mkP many ws as p q0 = P0 := ⟨_, rfl⟩
  have em : P0.many = many := by rw [← eP0]; rfl
  rw [eP0] at plain code dl wl small cs1 cs2 cs3 wcore lds al7 rc7
  rw [eP0]
  rw [em] at plain code
  refine ⟨_, rfl, D3, rfl, ⟨_, SqL.of h37⟩, fun D4 hD4 => ?_⟩
  refine lc_list (xs := us) (fun i H' => ∃ vs es, H' D4 = some (.lst vs) ∧ Als (RDm H') vs es ∧ CodesOf (((List.range many).map P0.df).take i) es ∧ vs.length = i ∧ Fr No H7 H') ⟨[], [], upd_same, .nil, by rw [List.take_zero]; exact .nil, rfl, Fr.new hD4⟩ (fun i H' _ ⟨_, _, _, _, _, _, z⟩ => SqL.of (z.keep (fun z => z) rfl h37)) ?_ ?_
  · rintro j v H' hj ⟨vs, es, k1, k2, k3, k4, k5⟩
    have jl : j < us.length := (List.getElem?_eq_some_iff.mp hj).1
    obtain ⟨d, hd, ⟨r, c, rfl, hr0, rc, wd⟩⟩ := al7.get hj
    obtain ⟨k, hk, rfl⟩ : ∃ k, k < many ∧ P0.df k = d := by
      obtain ⟨k, hk, e⟩ := List.mem_map.mp (List.mem_of_getElem? hd)
      exact ⟨k, List.mem_range.mp hk, e⟩
    obtain ⟨s1', s2', s3'⟩ := small k
    obtain ⟨cc, hcomp, hof⟩ := comp_ok (k := 100001) (n := wT (P0.df k).2 + 3) s1' s2' s3' (by omega) (by omega)
    refine ⟨r, _, rfl, SqT.of (k5.tup _ _ hr0), rfl, _, _, rfl, _, _, rfl, _, _, rfl, rfl, rfl, ?_⟩
    refine ⟨_, rfl, _, rfl, _, rfl, c, _, _, _, cc, rfl, rc.keep k5.tup, wd, hcomp, fun uc H8 f8 rcode => ⟨sl3, fun t ht => ?_⟩⟩
    have g := Fr.new (X := No) (o := .tup [V.str (P0.df k).1.1, .str (P0.df k).1.2, uc]) ht
    have k18 := (f8.trans g).keep (fun z => z) rfl k1
    have fm : Fr (fun b => b = D4) _ (upd _ D4 (.lst (vs ++ [V.ref t]))) := Fr.set rfl k18 rfl
    refine ⟨vs, k18, Nat.lt_of_le_of_lt (show vs.length ≤ 1000000 by omega) (by decide), vs ++ [.ref t], es ++ [((P0.df k).1, cc)], upd_same, ?_, ?_, by simp [k4], (k5.trans (f8.trans g)).mut hD4 k18 rfl⟩
    · exact (k2.mono fun _ _ z => z.keep ((f8.trans g).tup.trans fm.tup)).app (.one ⟨t, uc, rfl, fm.tup _ _ upd_same, rcode.keep (g.tup.trans fm.tup)⟩)
    · rw [take_more hd]
      exact k3.snoc hof
  rintro H8 ⟨vs, es, k1, k2, k3, k4, k5⟩
  rw [show us.length = ((List.range many).map P0.df).length by rw [lw, List.length_map, List.length_range], List.take_length] at k3
  obtain ⟨cc, hcomp, hof⟩ := comp_ok (k := 100001) (n := wT (P0.core count) + 3) cs1 cs2 cs3 (by omega) (by omega)
  have h38 := k5.keep (fun z => z) rfl h37
  have f08 : Fr (Two S L) H H8 := f05.trans (f07.trans k5.no)
  refine ⟨_, rfl, _, rfl, .ref t5, P0.core count, 100001, _, cc, rfl, rc7.keep k5.tup, wcore, hcomp, fun uc H9 f9 rcode => ?_⟩
  obtain ⟨v', n, k0, hv, hrun⟩ := code k3 hof
  have f09 := f08.trans f9.no
  have le : es.length ≤ 1000 := by rw [← k2.len, k4]; omega
  show spRc P1 [.ref D4, uc, .int ((60000 : Nat) : Int)] H9 _ E
  refine ⟨D4, vs, es, uc, 60000, cc, k0, rfl, f9.keep (fun z => z) rfl k1, k2.mono (fun _ _ z => z.keep f9.tup), le, rcode, f09.sm.tab _ tg, ?_⟩
  rw [hrun k0 (Nat.le_refl _)]
  intro b o u HA fA hb ho rs
  rw [← show_VR hv, dl] at rs
  have hu := int_sh rs
  subst hu
  refine ⟨b, _, rfl, SqT.of hb, rfl, _, _, rfl, _, _, rfl, _, _, rfl, rfl, ?_⟩
  refine ⟨_, rfl, _, rfl, sl2, fun t ht => ?_⟩
  have g := Fr.new (X := No) (o := .tup [V.str "value", .int (P0.lpD count : Nat)]) ht
  unfold tNil
  dsimp only
  show spSam 4 [.ref o, .ref t] _ _ E0
  refine sam_out (g.tup _ _ ho) upd_same fun HB fB => ?_
  refine ⟨true, rfl, iteF ?_⟩
  have f9B := f9.trans (fA.trans (g.trans fB))
  obtain ⟨np, kp, hplain⟩ := plain
  refine ⟨_, rfl, _, rfl, ?_⟩
  show spRp P1 [.ref D3, .ref t5, .int ((60000 : Nat) : Int)] HB _ E
  refine ⟨D3, us, _, .ref t5, 60000, P0.core count, kp, rfl, f9B.keep (fun z => z) rfl h38, al7.mono (fun _ _ z => z.keep (k5.trans f9B).tup), lds, rc7.keep (k5.trans f9B).tup, wcore, (f08.trans f9B.no).sm.tab _ tg, ?_⟩
  rw [hplain kp (Nat.le_refl _)]
  intro b2 o2 u2 HC fC hb2 ho2 rs2
  rw [dl] at rs2
  have hu2 := int_sh rs2
  subst hu2
  refine ⟨b2, _, 0, _, rfl, rfl, SqT.of hb2, at0 _ _, _, rfl, sl2, fun t' ht' => ?_⟩
  have g2 := Fr.new (X := No) (o := .tup [V.str "value", .int (P0.lpD count : Nat)]) ht'
  dsimp only
  show spSam 4 [.ref o2, .ref t'] _ _ E0
  refine sam_out (g2.tup _ _ ho2) upd_same fun HD fD => ?_
  refine ⟨true, rfl, iteF ?_⟩
  refine ⟨_, rfl, _, rfl, _, _, rfl, rfl, rfl, ?_⟩
  rw [wl, decide_eq_true (by congr 1)]
  exact q HD
end
end My
namespace My
open PySem PySem.Spec PyProof.Rows L2 TL
section
open He
variable {K : PySem.W.Frag} {h : Heap} {mg : Str → Option Value} {w : World}
theorem fun_of {x q : Str} {st : Stmt} {f : Addr} {fd : FuncData} (F : FunD K x q (defArgs st) (defBody st) (defScope st) [] [] f fd) : Fun K x q st f fd := by
  obtain ⟨oc, od, dV, kV, doc, pm, an, cdv, ct, osl, e, lk, hcd, hD, hK⟩ := F.ex
  rcases hD with ⟨_, rfl⟩ | ⟨e, _⟩
  · exact ⟨⟨oc, od, kV, doc, pm, an, cdv, ct, osl, e, lk, hcd⟩, F.kp⟩
  · exact absurd rfl e
theorem func_of {x : Str} {st : Stmt} {fd : FuncData} (F : Fun K x x st (ga K x) fd) : FunC K x st (ga K x) fd (codeOf K (x, none)) := by
  obtain ⟨oc, od, kV, doc, pm, an, cdv, ct, osl, e, lk, hcd⟩ := F.ex
  obtain ⟨c, ec⟩ := codeIn_ref hcd
  subst ec
  subst e
  have e2 : codeOf K (x, none) = c := codeOf_eq (p := (x, none)) lk rfl
  rw [e2]
  exact ⟨⟨oc, od, kV, doc, pm, an, ct, osl, rfl, lk, hcd⟩, F.kp⟩
theorem excB_ok {C : Addr} (q : excB K C = true) : ∃ nm q N bs bm sn sub ab col dd k0 k1 k2 k3 k5, K.lookup C = some (excClassObj nm q C N bs bm true sn sub ab col dd k0 k1 k2 k3 k5 "ValueError.__new__") ∧ PySem.HandSPX.refsVE bm = true := by
  unfold excB at q
  split at q
  · rename_i dd cd sl ho
    split at q
    · rename_i C' bm k0 k1 k2 k3 n k5 hm hs
      simp only [Bool.and_eq_true, beq_iff_eq, Bool.not_eq_true'] at q
      obtain ⟨e1, e2, hdel, hd, hr⟩ := q
      obtain ⟨nm, bs, mro, ns, qn, hdct, sn, sub, ab, col, del⟩ := cd
      dsimp only at hm hdel hd
      subst hm hdel hd e1 e2
      have hsl : sl = #[k0, k1, k2, k3, some (.builtin "ValueError.__new__"), k5] := by
        obtain ⟨l⟩ := sl
        simp only at hs
        rw [hs]
      subst hsl
      exact ⟨nm, qn, ns, bs, bm, sn, sub, ab, col, dd, k0, k1, k2, k3, k5, ho, hr⟩
    · cases q
  · cases q
structure ExAll (K : PySem.W.Frag) (C : Addr) : Prop where
  o : OexC K C
  ga : PySem.W.findIn K (.ref C) "__getattribute__" = some (some (.builtin "BaseException.__getattribute__"))
  gg : PySem.W.findIn K (.ref C) "__getattr__" = some none
  hd : PySem.W.hasDictIn K C = true
  cl : PySem.W.findIn K (.ref C) "__class__" = some (some (.builtin "object.__class__"))
  mro : PySem.W.mroIn K C (.type "object") = some true
  no : PySem.W.findIn K (.ref C) "outcome" = some none
theorem excAll_ok {x : Str} (q : excAll K x = true) : ExAll K (ga K x) := by
  obtain ⟨c1, q⟩ := ba q
  obtain ⟨c2, q⟩ := ba q
  obtain ⟨c3, q⟩ := ba q
  obtain ⟨c4, q⟩ := ba q
  obtain ⟨c5, q⟩ := ba q
  obtain ⟨c6, q⟩ := ba q
  obtain ⟨c7, q⟩ := ba q
  obtain ⟨c8, q⟩ := ba q
  obtain ⟨c9, q⟩ := ba q
  obtain ⟨c10, q⟩ := ba q
  exact ⟨⟨excB_ok c1, eqO_ok c2, of_decide_eq_true c3, of_decide_eq_true c4, c5⟩, eqO_ok c6, eqO_ok c7, c8, eqO_ok c9, of_decide_eq_true c10, eqO_ok q⟩
theorem iniB_ok {x : Str} (q : iniB K x = true) : PySem.W.findIn K (.ref (ga K x)) "__init__" = some (some (.ref (ma K (ga K x) "__init__"))) ∧ PySem.W.typeIn K (.ref (ma K (ga K x) "__init__")) = some (.type "function") := by
  obtain ⟨a, b⟩ := ba q
  exact ⟨eqO_ok a, of_decide_eq_true b⟩
end
end My
namespace My
open PySem PySem.Spec PyProof.Rows L2 TL He
abbrev row55 : PySem.W.OpenLaw := PySem.Challenge.rw_aliasfold_k55_whole_last_calls
theorem facts {K : PySem.W.Frag} {h : Heap} {mg : Str → Option Value} {w : World} {fa : Addr} (c : SaysX faK fnK tsK tfK exK w h K) (X : K.In h) (G : h.Ns mainGlobals mg) (hfa : mg ("law" : Str) = some (.ref fa)) :
    LamX.LawAtS row55 w K CX0 73 63 "script" mg fa h := by
  have d := c.t.d
  have kdA : ∃ es n, KDict K w (ga K "ACTIONS") es n := c.t.tab 0 (t := (fun K => ga K "ACTIONS", ["int", "prim", "global", "place", "kept", "fn", "put", "jump", "unless", "call", "tail", "end"]))
  have kdB : ∃ es n, KDict K w (ga K "BEGINNINGS") es n := c.t.tab 1 (t := (fun K => ga K "BEGINNINGS", ["int", "local", "global", "prim", "fn", "let", "if", "call"]))
  have glo : ∀ x : Str, Fa.glo x ∈ faK → mg x = some (.ref (ga K x)) := fun x m => glo_ok X G (d.facts m)
  have fre : ∀ x : Str, Fa.free x ∈ faK → mg x = none := fun x m => free_ok X G (d.facts m)
  have B : Blt mg := ⟨fre "int" (mem_at 129 rfl), fre "abs" (mem_at 124 rfl), fre "len" (mem_at 131 rfl), fre "range" (mem_at 134 rfl), fre "str" (mem_at 136 rfl), fre "isinstance" (mem_at 130 rfl), fre "all" (mem_at 125 rfl), fre "list" (mem_at 132 rfl), fre "tuple" (mem_at 137 rfl), fre "bool" (mem_at 126 rfl)⟩
  have B2 : Bl2 mg := ⟨fre "dict" (mem_at 127 rfl), fre "zip" (mem_at 138 rfl), fre "enumerate" (mem_at 128 rfl), fre "reversed" (mem_at 135 rfl), fre "max" (mem_at 133 rfl)⟩
  have gA : ∃ t, mg "MOST_AROUND" = some (.int 59 t) := He.int_ok X G (d.facts (f := .int "MOST_AROUND" 59) (mem_at 122 rfl))
  have gP : ∃ t, mg "MOST_PAIRS" = some (.int 300 t) := He.int_ok X G (d.facts (f := .int "MOST_PAIRS" 300) (mem_at 121 rfl))
  have gG : ∃ t, mg "GREATEST_RESULT" = some (.int big60 t) := by
    have e60 : big60 = 1000000000000000000000000000000000000000000000000000000000000 := by decide +kernel
    rw [e60]
    exact He.int_ok X G (d.facts (f := .int "GREATEST_RESULT" 1000000000000000000000000000000000000000000000000000000000000) (mem_at 118 rfl))
  have gACT := glo "ACTIONS" (mem_at 119 rfl)
  have gBEG := glo "BEGINNINGS" (mem_at 120 rfl)
  have gFoldError := glo "FoldError" (mem_at 0 rfl)
  have gPair := glo "Pair" (mem_at 1 rfl)
  have gFunction := glo "Function" (mem_at 2 rfl)
  have gPrimitive := glo "Primitive" (mem_at 3 rfl)
  have gShowing := glo "Showing" (mem_at 4 rfl)
  have gEnded := glo "Ended" (mem_at 5 rfl)
  have gRun := glo "Run" (mem_at 6 rfl)
  have gFrame := glo "Frame" (mem_at 7 rfl)
  have gMachine := glo "Machine" (mem_at 8 rfl)
  have gDraft := glo "Draft" (mem_at 9 rfl)
  have gPlainRun := glo "PlainRun" (mem_at 10 rfl)
  have cXE : (excAll K "Ended") = true := ex_at c.more 0 rfl
  have cIE : (iniB K "Ended") = true := ex_at c.more 1 rfl
  have cO1 : (eqO (PySem.W.specialIn K (.builtin "object.__class__") "__get__") (some (some (.builtin "getset_descriptor.__get__")))) = true := ex_at c.more 2 rfl
  have cO2 : (decide (PySem.W.takesIn K (.builtin "object.__class__") = some true)) = true := ex_at c.more 3 rfl
  have cB1 : (PySem.W.readsIn K (ga K "FoldError") (.type "type")) = true := ex_at c.more 4 rfl
  have cB2 : (eqO (PySem.W.specialIn K (.ref (ga K "FoldError")) "__getattribute__") (some (some (.builtin "type.__getattribute__")))) = true := ex_at c.more 5 rfl
  have cB3 : (valB (PySem.W.findCls K (.ref (ga K "FoldError")) (.type "type") "__init__") "ValueError.__init__") = true := ex_at c.more 6 rfl
  have cIP1 : (eqO (PySem.W.findIn K (.ref (ga K "Pair")) "__class__") (some (some (.builtin "object.__class__")))) = true := ex_at c.more 7 rfl
  have cIP2 : (decide (PySem.W.mroIn K (ga K "Pair") (.type "object") = some true)) = true := ex_at c.more 8 rfl
  have cIF1 : (eqO (PySem.W.findIn K (.ref (ga K "Function")) "__class__") (some (some (.builtin "object.__class__")))) = true := ex_at c.more 9 rfl
  have cIF2 : (decide (PySem.W.mroIn K (ga K "Function") (.type "object") = some true)) = true := ex_at c.more 10 rfl
  have cIR1 : (eqO (PySem.W.findIn K (.ref (ga K "Primitive")) "__class__") (some (some (.builtin "object.__class__")))) = true := ex_at c.more 11 rfl
  have cIR2 : (decide (PySem.W.mroIn K (ga K "Primitive") (.type "object") = some true)) = true := ex_at c.more 12 rfl
  have cKiP : (decide (PySem.W.kitOne K (.type "int") (.ref (ga K "Pair")) = some false)) = true := ex_at c.more 13 rfl
  have cKiF : (decide (PySem.W.kitOne K (.type "int") (.ref (ga K "Function")) = some false)) = true := ex_at c.more 14 rfl
  have cKiR : (decide (PySem.W.kitOne K (.type "int") (.ref (ga K "Primitive")) = some false)) = true := ex_at c.more 15 rfl
  have cKPi : (decide (PySem.W.kitOne K (.ref (ga K "Pair")) (.type "int") = some false)) = true := ex_at c.more 16 rfl
  have cKFi : (decide (PySem.W.kitOne K (.ref (ga K "Function")) (.type "int") = some false)) = true := ex_at c.more 17 rfl
  have cKRi : (decide (PySem.W.kitOne K (.ref (ga K "Primitive")) (.type "int") = some false)) = true := ex_at c.more 18 rfl
  have cKPP : (decide (PySem.W.kitOne K (.ref (ga K "Pair")) (.ref (ga K "Pair")) = some true)) = true := ex_at c.more 19 rfl
  have cKPF : (decide (PySem.W.kitOne K (.ref (ga K "Pair")) (.ref (ga K "Function")) = some false)) = true := ex_at c.more 20 rfl
  have cKPR : (decide (PySem.W.kitOne K (.ref (ga K "Pair")) (.ref (ga K "Primitive")) = some false)) = true := ex_at c.more 21 rfl
  have cKFP : (decide (PySem.W.kitOne K (.ref (ga K "Function")) (.ref (ga K "Pair")) = some false)) = true := ex_at c.more 22 rfl
  have cKFF : (decide (PySem.W.kitOne K (.ref (ga K "Function")) (.ref (ga K "Function")) = some true)) = true := ex_at c.more 23 rfl
  have cKFR : (decide (PySem.W.kitOne K (.ref (ga K "Function")) (.ref (ga K "Primitive")) = some false)) = true := ex_at c.more 24 rfl
  have cKRP : (decide (PySem.W.kitOne K (.ref (ga K "Primitive")) (.ref (ga K "Pair")) = some false)) = true := ex_at c.more 25 rfl
  have cKRF : (decide (PySem.W.kitOne K (.ref (ga K "Primitive")) (.ref (ga K "Function")) = some false)) = true := ex_at c.more 26 rfl
  have cKRR : (decide (PySem.W.kitOne K (.ref (ga K "Primitive")) (.ref (ga K "Primitive")) = some true)) = true := ex_at c.more 27 rfl
  have cR1 : (PySem.W.readsIn K (ga K "Run") (.type "type")) = true := ex_at c.more 28 rfl
  have cR2 : (eqO (PySem.W.specialIn K (.ref (ga K "Run")) "__getattribute__") (some (some (.builtin "type.__getattribute__")))) = true := ex_at c.more 29 rfl
  have cR3 : (refB (PySem.W.findCls K (.ref (ga K "Run")) (.type "type") "__init__") (ma K (ga K "Run") "__init__")) = true := ex_at c.more 30 rfl
  have cMPlainRuncount_step : (methI K "PlainRun" "Run" "count_step") = true := ex_at c.more 31 rfl
  have cMPlainRuncarry_out_program : (methI K "PlainRun" "Run" "carry_out_program") = true := ex_at c.more 32 rfl
  have cMPlainRundefinition : (methI K "PlainRun" "Run" "definition") = true := ex_at c.more 33 rfl
  have cMMachinecount_step : (methI K "Machine" "Run" "count_step") = true := ex_at c.more 34 rfl
  have cMMachinecarry_out_program : (methI K "Machine" "Run" "carry_out_program") = true := ex_at c.more 35 rfl
  have cMMachinedefinition : (methI K "Machine" "Run" "definition") = true := ex_at c.more 36 rfl
  have cTAint : (eqO (PySem.W.nsIn K (ga K "ACTIONS") "int") (some (some (.ref (ga K "put_int"))))) = true := ex_at c.more 37 rfl
  have cTAprim : (eqO (PySem.W.nsIn K (ga K "ACTIONS") "prim") (some (some (.ref (ga K "put_prim"))))) = true := ex_at c.more 38 rfl
  have cTAglobal : (eqO (PySem.W.nsIn K (ga K "ACTIONS") "global") (some (some (.ref (ga K "put_global"))))) = true := ex_at c.more 39 rfl
  have cTAplace : (eqO (PySem.W.nsIn K (ga K "ACTIONS") "place") (some (some (.ref (ga K "put_source"))))) = true := ex_at c.more 40 rfl
  have cTAkept : (eqO (PySem.W.nsIn K (ga K "ACTIONS") "kept") (some (some (.ref (ga K "put_source"))))) = true := ex_at c.more 41 rfl
  have cTAfn : (eqO (PySem.W.nsIn K (ga K "ACTIONS") "fn") (some (some (.ref (ga K "put_function"))))) = true := ex_at c.more 42 rfl
  have cTAput : (eqO (PySem.W.nsIn K (ga K "ACTIONS") "put") (some (some (.ref (ga K "fill_place"))))) = true := ex_at c.more 43 rfl
  have cTAjump : (eqO (PySem.W.nsIn K (ga K "ACTIONS") "jump") (some (some (.ref (ga K "jump"))))) = true := ex_at c.more 44 rfl
  have cTAunless : (eqO (PySem.W.nsIn K (ga K "ACTIONS") "unless") (some (some (.ref (ga K "jump_unless"))))) = true := ex_at c.more 45 rfl
  have cTAcall : (eqO (PySem.W.nsIn K (ga K "ACTIONS") "call") (some (some (.ref (ga K "call"))))) = true := ex_at c.more 46 rfl
  have cTAtail : (eqO (PySem.W.nsIn K (ga K "ACTIONS") "tail") (some (some (.ref (ga K "tail_call"))))) = true := ex_at c.more 47 rfl
  have cTAend : (eqO (PySem.W.nsIn K (ga K "ACTIONS") "end") (some (some (.ref (ga K "leave"))))) = true := ex_at c.more 48 rfl
  have cTBint : (eqO (PySem.W.nsIn K (ga K "BEGINNINGS") "int") (some (some (.ref (ga K "begin_int"))))) = true := ex_at c.more 49 rfl
  have cTBlocal : (eqO (PySem.W.nsIn K (ga K "BEGINNINGS") "local") (some (some (.ref (ga K "begin_local"))))) = true := ex_at c.more 50 rfl
  have cTBglobal : (eqO (PySem.W.nsIn K (ga K "BEGINNINGS") "global") (some (some (.ref (ga K "begin_global"))))) = true := ex_at c.more 51 rfl
  have cTBprim : (eqO (PySem.W.nsIn K (ga K "BEGINNINGS") "prim") (some (some (.ref (ga K "begin_prim"))))) = true := ex_at c.more 52 rfl
  have cTBfn : (eqO (PySem.W.nsIn K (ga K "BEGINNINGS") "fn") (some (some (.ref (ga K "begin_fn"))))) = true := ex_at c.more 53 rfl
  have cTBlet : (eqO (PySem.W.nsIn K (ga K "BEGINNINGS") "let") (some (some (.ref (ga K "begin_let"))))) = true := ex_at c.more 54 rfl
  have cTBif : (eqO (PySem.W.nsIn K (ga K "BEGINNINGS") "if") (some (some (.ref (ga K "begin_if"))))) = true := ex_at c.more 55 rfl
  have cTBcall : (eqO (PySem.W.nsIn K (ga K "BEGINNINGS") "call") (some (some (.ref (ga K "begin_call"))))) = true := ex_at c.more 56 rfl
  have xx := excAll_ok cXE
  have iE := iniB_ok cIE
  have BC : BaseC K mg (ga K "FoldError") := ⟨gFoldError, cB1, eqO_ok cB2, valB_ok cB3⟩
  have uPair : FldC K (ga K "Pair") ["first", "second"] := ⟨cls_ok (d.facts (f := .cls "Pair") (mem_at 62 rfl)), fun f m => by
    simp only [List.mem_cons, List.not_mem_nil, or_false] at m
    rcases m with rfl | rfl
    · exact noat_ok (d.facts (f := .noat "Pair" "first") (mem_at 64 rfl))
    · exact noat_ok (d.facts (f := .noat "Pair" "second") (mem_at 65 rfl))⟩
  have uFunction : FldC K (ga K "Function") ["parameters", "body", "kept"] := ⟨cls_ok (d.facts (f := .cls "Function") (mem_at 66 rfl)), fun f m => by
    simp only [List.mem_cons, List.not_mem_nil, or_false] at m
    rcases m with rfl | rfl | rfl
    · exact noat_ok (d.facts (f := .noat "Function" "parameters") (mem_at 68 rfl))
    · exact noat_ok (d.facts (f := .noat "Function" "body") (mem_at 69 rfl))
    · exact noat_ok (d.facts (f := .noat "Function" "kept") (mem_at 70 rfl))⟩
  have uPrimitive : FldC K (ga K "Primitive") ["parameters", "name"] := ⟨cls_ok (d.facts (f := .cls "Primitive") (mem_at 71 rfl)), fun f m => by
    simp only [List.mem_cons, List.not_mem_nil, or_false] at m
    rcases m with rfl | rfl
    · exact noat_ok (d.facts (f := .noat "Primitive" "parameters") (mem_at 73 rfl))
    · exact noat_ok (d.facts (f := .noat "Primitive" "name") (mem_at 74 rfl))⟩
  have uShowing : FldC K (ga K "Showing") ["pairs"] := ⟨cls_ok (d.facts (f := .cls "Showing") (mem_at 75 rfl)), fun f m => by
    simp only [List.mem_cons, List.not_mem_nil, or_false] at m
    rcases m with rfl
    · exact noat_ok (d.facts (f := .noat "Showing" "pairs") (mem_at 77 rfl))⟩
  have uPlainRun : FldC K (ga K "PlainRun") ["most", "steps", "defined", "todo", "results"] := ⟨cls_ok (d.facts (f := .cls "PlainRun") (mem_at 78 rfl)), fun f m => by
    simp only [List.mem_cons, List.not_mem_nil, or_false] at m
    rcases m with rfl | rfl | rfl | rfl | rfl
    · exact noat_ok (d.facts (f := .noat "PlainRun" "most") (mem_at 80 rfl))
    · exact noat_ok (d.facts (f := .noat "PlainRun" "steps") (mem_at 81 rfl))
    · exact noat_ok (d.facts (f := .noat "PlainRun" "defined") (mem_at 82 rfl))
    · exact noat_ok (d.facts (f := .noat "PlainRun" "todo") (mem_at 83 rfl))
    · exact noat_ok (d.facts (f := .noat "PlainRun" "results") (mem_at 84 rfl))⟩
  have uDraft : FldC K (ga K "Draft") ["parameters", "places", "body", "scope", "instructions", "targets"] := ⟨cls_ok (d.facts (f := .cls "Draft") (mem_at 85 rfl)), fun f m => by
    simp only [List.mem_cons, List.not_mem_nil, or_false] at m
    rcases m with rfl | rfl | rfl | rfl | rfl | rfl
    · exact noat_ok (d.facts (f := .noat "Draft" "parameters") (mem_at 87 rfl))
    · exact noat_ok (d.facts (f := .noat "Draft" "places") (mem_at 88 rfl))
    · exact noat_ok (d.facts (f := .noat "Draft" "body") (mem_at 89 rfl))
    · exact noat_ok (d.facts (f := .noat "Draft" "scope") (mem_at 90 rfl))
    · exact noat_ok (d.facts (f := .noat "Draft" "instructions") (mem_at 91 rfl))
    · exact noat_ok (d.facts (f := .noat "Draft" "targets") (mem_at 92 rfl))⟩
  have uFrame : FldC K (ga K "Frame") ["instructions", "at", "places", "stack", "kept"] := ⟨cls_ok (d.facts (f := .cls "Frame") (mem_at 93 rfl)), fun f m => by
    simp only [List.mem_cons, List.not_mem_nil, or_false] at m
    rcases m with rfl | rfl | rfl | rfl | rfl
    · exact noat_ok (d.facts (f := .noat "Frame" "instructions") (mem_at 95 rfl))
    · exact noat_ok (d.facts (f := .noat "Frame" "at") (mem_at 96 rfl))
    · exact noat_ok (d.facts (f := .noat "Frame" "places") (mem_at 97 rfl))
    · exact noat_ok (d.facts (f := .noat "Frame" "stack") (mem_at 98 rfl))
    · exact noat_ok (d.facts (f := .noat "Frame" "kept") (mem_at 99 rfl))⟩
  have uMachine : FldC K (ga K "Machine") ["most", "steps", "defined", "frames", "most_frames", "result"] := ⟨cls_ok (d.facts (f := .cls "Machine") (mem_at 100 rfl)), fun f m => by
    simp only [List.mem_cons, List.not_mem_nil, or_false] at m
    rcases m with rfl | rfl | rfl | rfl | rfl | rfl
    · exact noat_ok (d.facts (f := .noat "Machine" "most") (mem_at 102 rfl))
    · exact noat_ok (d.facts (f := .noat "Machine" "steps") (mem_at 103 rfl))
    · exact noat_ok (d.facts (f := .noat "Machine" "defined") (mem_at 104 rfl))
    · exact noat_ok (d.facts (f := .noat "Machine" "frames") (mem_at 105 rfl))
    · exact noat_ok (d.facts (f := .noat "Machine" "most_frames") (mem_at 106 rfl))
    · exact noat_ok (d.facts (f := .noat "Machine" "result") (mem_at 107 rfl))⟩
  have uP2 : FldC K (ga K "PlainRun") ["steps", "most"] := ⟨cls_ok (d.facts (f := .cls "PlainRun") (mem_at 78 rfl)), fun f m => by
    simp only [List.mem_cons, List.not_mem_nil, or_false] at m
    rcases m with rfl | rfl
    · exact noat_ok (d.facts (f := .noat "PlainRun" "steps") (mem_at 81 rfl))
    · exact noat_ok (d.facts (f := .noat "PlainRun" "most") (mem_at 80 rfl))⟩
  have uPd : FldC K (ga K "PlainRun") ["defined"] := ⟨cls_ok (d.facts (f := .cls "PlainRun") (mem_at 78 rfl)), fun f m => by
    simp only [List.mem_cons, List.not_mem_nil, or_false] at m
    rcases m with rfl
    · exact noat_ok (d.facts (f := .noat "PlainRun" "defined") (mem_at 82 rfl))⟩
  have uPr : FldC K (ga K "PlainRun") ["most", "steps", "defined"] := ⟨cls_ok (d.facts (f := .cls "PlainRun") (mem_at 78 rfl)), fun f m => by
    simp only [List.mem_cons, List.not_mem_nil, or_false] at m
    rcases m with rfl | rfl | rfl
    · exact noat_ok (d.facts (f := .noat "PlainRun" "most") (mem_at 80 rfl))
    · exact noat_ok (d.facts (f := .noat "PlainRun" "steps") (mem_at 81 rfl))
    · exact noat_ok (d.facts (f := .noat "PlainRun" "defined") (mem_at 82 rfl))⟩
  have uM2 : FldC K (ga K "Machine") ["steps", "most"] := ⟨cls_ok (d.facts (f := .cls "Machine") (mem_at 100 rfl)), fun f m => by
    simp only [List.mem_cons, List.not_mem_nil, or_false] at m
    rcases m with rfl | rfl
    · exact noat_ok (d.facts (f := .noat "Machine" "steps") (mem_at 103 rfl))
    · exact noat_ok (d.facts (f := .noat "Machine" "most") (mem_at 102 rfl))⟩
  have uMd : FldC K (ga K "Machine") ["defined"] := ⟨cls_ok (d.facts (f := .cls "Machine") (mem_at 100 rfl)), fun f m => by
    simp only [List.mem_cons, List.not_mem_nil, or_false] at m
    rcases m with rfl
    · exact noat_ok (d.facts (f := .noat "Machine" "defined") (mem_at 104 rfl))⟩
  have uMr : FldC K (ga K "Machine") ["most", "steps", "defined"] := ⟨cls_ok (d.facts (f := .cls "Machine") (mem_at 100 rfl)), fun f m => by
    simp only [List.mem_cons, List.not_mem_nil, or_false] at m
    rcases m with rfl | rfl | rfl
    · exact noat_ok (d.facts (f := .noat "Machine" "most") (mem_at 102 rfl))
    · exact noat_ok (d.facts (f := .noat "Machine" "steps") (mem_at 103 rfl))
    · exact noat_ok (d.facts (f := .noat "Machine" "defined") (mem_at 104 rfl))⟩
  let VS : Cs := ⟨(ga K "Pair"), (ga K "Function"), (ga K "Primitive")⟩
  have VC : ValC K mg VS := ⟨gPair, gFunction, gPrimitive, uPair, uFunction, uPrimitive, ⟨eqO_ok cIP1, of_decide_eq_true cIP2⟩, ⟨eqO_ok cIF1, of_decide_eq_true cIF2⟩, ⟨eqO_ok cIR1, of_decide_eq_true cIR2⟩, ⟨eqO_ok cO1, of_decide_eq_true cO2⟩, of_decide_eq_true cKiP, of_decide_eq_true cKiF, of_decide_eq_true cKiR, of_decide_eq_true cKPi, of_decide_eq_true cKFi, of_decide_eq_true cKRi, of_decide_eq_true cKPP, of_decide_eq_true cKPF, of_decide_eq_true cKPR, of_decide_eq_true cKFP, of_decide_eq_true cKFF, of_decide_eq_true cKFR, of_decide_eq_true cKRP, of_decide_eq_true cKRF, of_decide_eq_true cKRR⟩
  have EC : EndC K mg (ga K "Ended") := ⟨gEnded, ⟨xx.ga, xx.gg, xx.o.exC, xx.hd⟩, xx.no, exm_ok (d.facts (f := .exm "Ended" "Ended" true) (mem_at 117 rfl))⟩
  obtain ⟨dPair_Init, DPair_Init⟩ := d.def_ 0 (d := dc 5 0 "Pair" "__init__" "Pair.__init__") rfl
  have FPair_Init : Fun K "__init__" "Pair.__init__" (inClass (top 5) 0) (ma K (ga K "Pair") "__init__") dPair_Init := fun_of DPair_Init
  have bPair_Init : Binds K dPair_Init ["self", "first", "second"] [] := FPair_Init.binds fun _ _ _ _ _ _ us hl => match us, hl with | [_, _, _], _ => rfl
  obtain ⟨dFunction_Init, DFunction_Init⟩ := d.def_ 1 (d := dc 6 0 "Function" "__init__" "Function.__init__") rfl
  have FFunction_Init : Fun K "__init__" "Function.__init__" (inClass (top 6) 0) (ma K (ga K "Function") "__init__") dFunction_Init := fun_of DFunction_Init
  have bFunction_Init : Binds K dFunction_Init ["self", "parameters", "body", "kept"] [] := FFunction_Init.binds fun _ _ _ _ _ _ us hl => match us, hl with | [_, _, _, _], _ => rfl
  obtain ⟨dPrimitive_Init, DPrimitive_Init⟩ := d.def_ 2 (d := dc 7 0 "Primitive" "__init__" "Primitive.__init__") rfl
  have FPrimitive_Init : Fun K "__init__" "Primitive.__init__" (inClass (top 7) 0) (ma K (ga K "Primitive") "__init__") dPrimitive_Init := fun_of DPrimitive_Init
  have bPrimitive_Init : Binds K dPrimitive_Init ["self", "name"] [] := FPrimitive_Init.binds fun _ _ _ _ _ _ us hl => match us, hl with | [_, _], _ => rfl
  obtain ⟨dShowing_Init, DShowing_Init⟩ := d.def_ 3 (d := dc 8 0 "Showing" "__init__" "Showing.__init__") rfl
  have FShowing_Init : Fun K "__init__" "Showing.__init__" (inClass (top 8) 0) (ma K (ga K "Showing") "__init__") dShowing_Init := fun_of DShowing_Init
  have bShowing_Init : Binds K dShowing_Init ["self"] [] := FShowing_Init.binds fun _ _ _ _ _ _ us hl => match us, hl with | [_], _ => rfl
  obtain ⟨dShowing_Show, DShowing_Show⟩ := d.def_ 4 (d := dc 8 1 "Showing" "show" "Showing.show") rfl
  have FShowing_Show : Fun K "show" "Showing.show" (inClass (top 8) 1) (ma K (ga K "Showing") "show") dShowing_Show := fun_of DShowing_Show
  have bShowing_Show : Binds K dShowing_Show ["self", "value", "around"] [] := FShowing_Show.binds fun _ _ _ _ _ _ us hl => match us, hl with | [_, _, _], _ => rfl
  obtain ⟨dEnded_Init, DEnded_Init⟩ := d.def_ 5 (d := dc 12 0 "Ended" "__init__" "Ended.__init__") rfl
  have FEnded_Init : Fun K "__init__" "Ended.__init__" (inClass (top 12) 0) (ma K (ga K "Ended") "__init__") dEnded_Init := fun_of DEnded_Init
  have bEnded_Init : Binds K dEnded_Init ["self", "outcome"] [] := FEnded_Init.binds fun _ _ _ _ _ _ us hl => match us, hl with | [_, _], _ => rfl
  obtain ⟨dRun_Init, DRun_Init⟩ := d.def_ 6 (d := dc 13 0 "Run" "__init__" "Run.__init__") rfl
  have FRun_Init : Fun K "__init__" "Run.__init__" (inClass (top 13) 0) (ma K (ga K "Run") "__init__") dRun_Init := fun_of DRun_Init
  have bRun_Init : Binds K dRun_Init ["self", "most"] [] := FRun_Init.binds fun _ _ _ _ _ _ us hl => match us, hl with | [_, _], _ => rfl
  obtain ⟨dRun_CountStep, DRun_CountStep⟩ := d.def_ 7 (d := dc 13 1 "Run" "count_step" "Run.count_step") rfl
  have FRun_CountStep : Fun K "count_step" "Run.count_step" (inClass (top 13) 1) (ma K (ga K "Run") "count_step") dRun_CountStep := fun_of DRun_CountStep
  have bRun_CountStep : Binds K dRun_CountStep ["self"] [] := FRun_CountStep.binds fun _ _ _ _ _ _ us hl => match us, hl with | [_], _ => rfl
  obtain ⟨dRun_Definition, DRun_Definition⟩ := d.def_ 8 (d := dc 13 2 "Run" "definition" "Run.definition") rfl
  have FRun_Definition : Fun K "definition" "Run.definition" (inClass (top 13) 2) (ma K (ga K "Run") "definition") dRun_Definition := fun_of DRun_Definition
  have bRun_Definition : Binds K dRun_Definition ["self", "module", "name"] [] := FRun_Definition.binds fun _ _ _ _ _ _ us hl => match us, hl with | [_, _, _], _ => rfl
  obtain ⟨dRun_CarryOutProgram, DRun_CarryOutProgram⟩ := d.def_ 9 (d := dc 13 3 "Run" "carry_out_program" "Run.carry_out_program") rfl
  have FRun_CarryOutProgram : Fun K "carry_out_program" "Run.carry_out_program" (inClass (top 13) 3) (ma K (ga K "Run") "carry_out_program") dRun_CarryOutProgram := fun_of DRun_CarryOutProgram
  have bRun_CarryOutProgram : Binds K dRun_CarryOutProgram ["self", "definitions", "last"] [] := FRun_CarryOutProgram.binds fun _ _ _ _ _ _ us hl => match us, hl with | [_, _, _], _ => rfl
  obtain ⟨dFrame_Init, DFrame_Init⟩ := d.def_ 10 (d := dc 20 0 "Frame" "__init__" "Frame.__init__") rfl
  have FFrame_Init : Fun K "__init__" "Frame.__init__" (inClass (top 20) 0) (ma K (ga K "Frame") "__init__") dFrame_Init := fun_of DFrame_Init
  have bFrame_Init : Binds K dFrame_Init ["self", "code", "parts", "kept"] [] := FFrame_Init.binds fun _ _ _ _ _ _ us hl => match us, hl with | [_, _, _, _], _ => rfl
  obtain ⟨dFrame_Read, DFrame_Read⟩ := d.def_ 11 (d := dc 20 1 "Frame" "read" "Frame.read") rfl
  have FFrame_Read : Fun K "read" "Frame.read" (inClass (top 20) 1) (ma K (ga K "Frame") "read") dFrame_Read := fun_of DFrame_Read
  have bFrame_Read : Binds K dFrame_Read ["self", "source"] [] := FFrame_Read.binds fun _ _ _ _ _ _ us hl => match us, hl with | [_, _], _ => rfl
  obtain ⟨dMachine_Init, DMachine_Init⟩ := d.def_ 12 (d := dc 33 0 "Machine" "__init__" "Machine.__init__") rfl
  have FMachine_Init : Fun K "__init__" "Machine.__init__" (inClass (top 33) 0) (ma K (ga K "Machine") "__init__") dMachine_Init := fun_of DMachine_Init
  have bMachine_Init : Binds K dMachine_Init ["self", "most"] [] := FMachine_Init.binds fun _ _ _ _ _ _ us hl => match us, hl with | [_, _], _ => rfl
  obtain ⟨dMachine_AddFrame, DMachine_AddFrame⟩ := d.def_ 13 (d := dc 33 1 "Machine" "add_frame" "Machine.add_frame") rfl
  have FMachine_AddFrame : Fun K "add_frame" "Machine.add_frame" (inClass (top 33) 1) (ma K (ga K "Machine") "add_frame") dMachine_AddFrame := fun_of DMachine_AddFrame
  have bMachine_AddFrame : Binds K dMachine_AddFrame ["self", "code", "parts", "kept"] [] := FMachine_AddFrame.binds fun _ _ _ _ _ _ us hl => match us, hl with | [_, _, _, _], _ => rfl
  obtain ⟨dMachine_Enter, DMachine_Enter⟩ := d.def_ 14 (d := dc 33 2 "Machine" "enter" "Machine.enter") rfl
  have FMachine_Enter : Fun K "enter" "Machine.enter" (inClass (top 33) 2) (ma K (ga K "Machine") "enter") dMachine_Enter := fun_of DMachine_Enter
  have bMachine_Enter : Binds K dMachine_Enter ["self", "called", "parts"] [] := FMachine_Enter.binds fun _ _ _ _ _ _ us hl => match us, hl with | [_, _, _], _ => rfl
  obtain ⟨dMachine_Give, DMachine_Give⟩ := d.def_ 15 (d := dc 33 3 "Machine" "give" "Machine.give") rfl
  have FMachine_Give : Fun K "give" "Machine.give" (inClass (top 33) 3) (ma K (ga K "Machine") "give") dMachine_Give := fun_of DMachine_Give
  have bMachine_Give : Binds K dMachine_Give ["self", "value"] [] := FMachine_Give.binds fun _ _ _ _ _ _ us hl => match us, hl with | [_, _], _ => rfl
  obtain ⟨dMachine_CarryOut, DMachine_CarryOut⟩ := d.def_ 16 (d := dc 33 4 "Machine" "carry_out" "Machine.carry_out") rfl
  have FMachine_CarryOut : Fun K "carry_out" "Machine.carry_out" (inClass (top 33) 4) (ma K (ga K "Machine") "carry_out") dMachine_CarryOut := fun_of DMachine_CarryOut
  have bMachine_CarryOut : Binds K dMachine_CarryOut ["self", "code"] [] := FMachine_CarryOut.binds fun _ _ _ _ _ _ us hl => match us, hl with | [_, _], _ => rfl
  obtain ⟨dDraft_Init, DDraft_Init⟩ := d.def_ 17 (d := dc 39 0 "Draft" "__init__" "Draft.__init__") rfl
  have FDraft_Init : Fun K "__init__" "Draft.__init__" (inClass (top 39) 0) (ma K (ga K "Draft") "__init__") dDraft_Init := fun_of DDraft_Init
  have bDraft_Init : Binds K dDraft_Init ["self", "parameters", "body", "scope"] [] := FDraft_Init.binds fun _ _ _ _ _ _ us hl => match us, hl with | [_, _, _, _], _ => rfl
  obtain ⟨dDraft_NewPlaces, DDraft_NewPlaces⟩ := d.def_ 18 (d := dc 39 1 "Draft" "new_places" "Draft.new_places") rfl
  have FDraft_NewPlaces : Fun K "new_places" "Draft.new_places" (inClass (top 39) 1) (ma K (ga K "Draft") "new_places") dDraft_NewPlaces := fun_of DDraft_NewPlaces
  have bDraft_NewPlaces : Binds K dDraft_NewPlaces ["self", "many"] [] := FDraft_NewPlaces.binds fun _ _ _ _ _ _ us hl => match us, hl with | [_, _], _ => rfl
  obtain ⟨dDraft_NewLabel, DDraft_NewLabel⟩ := d.def_ 19 (d := dc 39 2 "Draft" "new_label" "Draft.new_label") rfl
  have FDraft_NewLabel : Fun K "new_label" "Draft.new_label" (inClass (top 39) 2) (ma K (ga K "Draft") "new_label") dDraft_NewLabel := fun_of DDraft_NewLabel
  have bDraft_NewLabel : Binds K dDraft_NewLabel ["self"] [] := FDraft_NewLabel.binds fun _ _ _ _ _ _ us hl => match us, hl with | [_], _ => rfl
  obtain ⟨dPlainrun_Init, DPlainrun_Init⟩ := d.def_ 20 (d := dc 66 0 "PlainRun" "__init__" "PlainRun.__init__") rfl
  have FPlainrun_Init : Fun K "__init__" "PlainRun.__init__" (inClass (top 66) 0) (ma K (ga K "PlainRun") "__init__") dPlainrun_Init := fun_of DPlainrun_Init
  have bPlainrun_Init : Binds K dPlainrun_Init ["self", "most"] [] := FPlainrun_Init.binds fun _ _ _ _ _ _ us hl => match us, hl with | [_, _], _ => rfl
  obtain ⟨dPlainrun_CarryOut, DPlainrun_CarryOut⟩ := d.def_ 21 (d := dc 66 1 "PlainRun" "carry_out" "PlainRun.carry_out") rfl
  have FPlainrun_CarryOut : Fun K "carry_out" "PlainRun.carry_out" (inClass (top 66) 1) (ma K (ga K "PlainRun") "carry_out") dPlainrun_CarryOut := fun_of DPlainrun_CarryOut
  have bPlainrun_CarryOut : Binds K dPlainrun_CarryOut ["self", "core"] [] := FPlainrun_CarryOut.binds fun _ _ _ _ _ _ us hl => match us, hl with | [_, _], _ => rfl
  obtain ⟨dShown, DShown⟩ := d.def_ 22 (d := dd 9 "shown") rfl
  have FShown : Fun K "shown" "shown" (top 9) (ga K "shown") dShown := fun_of DShown
  have bShown : Binds K dShown ["value"] [] := FShown.binds fun _ _ _ _ _ _ us hl => match us, hl with | [_], _ => rfl
  obtain ⟨dTakeLast, DTakeLast⟩ := d.def_ 23 (d := dd 14 "take_last") rfl
  have FTakeLast : Fun K "take_last" "take_last" (top 14) (ga K "take_last") dTakeLast := fun_of DTakeLast
  have bTakeLast : Binds K dTakeLast ["stack", "many"] [] := FTakeLast.binds fun _ _ _ _ _ _ us hl => match us, hl with | [_, _], _ => rfl
  obtain ⟨dCheckCall, DCheckCall⟩ := d.def_ 24 (d := dd 15 "check_call") rfl
  have FCheckCall : Fun K "check_call" "check_call" (top 15) (ga K "check_call") dCheckCall := fun_of DCheckCall
  have bCheckCall : Binds K dCheckCall ["called", "parts"] [] := FCheckCall.binds fun _ _ _ _ _ _ us hl => match us, hl with | [_, _], _ => rfl
  obtain ⟨dHalf, DHalf⟩ := d.def_ 25 (d := dd 16 "half") rfl
  have FHalf : Fun K "half" "half" (top 16) (ga K "half") dHalf := fun_of DHalf
  have bHalf : Binds K dHalf ["name", "value"] [] := FHalf.binds fun _ _ _ _ _ _ us hl => match us, hl with | [_, _], _ => rfl
  obtain ⟨dReckon, DReckon⟩ := d.def_ 26 (d := dd 17 "reckon") rfl
  have FReckon : Fun K "reckon" "reckon" (top 17) (ga K "reckon") dReckon := fun_of DReckon
  have bReckon : Binds K dReckon ["name", "left", "right"] [] := FReckon.binds fun _ _ _ _ _ _ us hl => match us, hl with | [_, _, _], _ => rfl
  obtain ⟨dCallPrimitive, DCallPrimitive⟩ := d.def_ 27 (d := dd 18 "call_primitive") rfl
  have FCallPrimitive : Fun K "call_primitive" "call_primitive" (top 18) (ga K "call_primitive") dCallPrimitive := fun_of DCallPrimitive
  have bCallPrimitive : Binds K dCallPrimitive ["name", "parts"] [] := FCallPrimitive.binds fun _ _ _ _ _ _ us hl => match us, hl with | [_, _], _ => rfl
  obtain ⟨dPutInt, DPutInt⟩ := d.def_ 28 (d := dd 21 "put_int") rfl
  have FPutInt : Fun K "put_int" "put_int" (top 21) (ga K "put_int") dPutInt := fun_of DPutInt
  have bPutInt : Binds K dPutInt ["_", "frame", "instruction"] [] := FPutInt.binds fun _ _ _ _ _ _ us hl => match us, hl with | [_, _, _], _ => rfl
  obtain ⟨dPutPrim, DPutPrim⟩ := d.def_ 29 (d := dd 22 "put_prim") rfl
  have FPutPrim : Fun K "put_prim" "put_prim" (top 22) (ga K "put_prim") dPutPrim := fun_of DPutPrim
  have bPutPrim : Binds K dPutPrim ["_", "frame", "instruction"] [] := FPutPrim.binds fun _ _ _ _ _ _ us hl => match us, hl with | [_, _, _], _ => rfl
  obtain ⟨dPutGlobal, DPutGlobal⟩ := d.def_ 30 (d := dd 23 "put_global") rfl
  have FPutGlobal : Fun K "put_global" "put_global" (top 23) (ga K "put_global") dPutGlobal := fun_of DPutGlobal
  have bPutGlobal : Binds K dPutGlobal ["machine", "frame", "instruction"] [] := FPutGlobal.binds fun _ _ _ _ _ _ us hl => match us, hl with | [_, _, _], _ => rfl
  obtain ⟨dPutSource, DPutSource⟩ := d.def_ 31 (d := dd 24 "put_source") rfl
  have FPutSource : Fun K "put_source" "put_source" (top 24) (ga K "put_source") dPutSource := fun_of DPutSource
  have bPutSource : Binds K dPutSource ["_", "frame", "instruction"] [] := FPutSource.binds fun _ _ _ _ _ _ us hl => match us, hl with | [_, _, _], _ => rfl
  obtain ⟨dPutFunction, DPutFunction⟩ := d.def_ 32 (d := dd 25 "put_function") rfl
  have FPutFunction : Fun K "put_function" "put_function" (top 25) (ga K "put_function") dPutFunction := fun_of DPutFunction
  have bPutFunction : Binds K dPutFunction ["_", "frame", "instruction"] [] := FPutFunction.binds fun _ _ _ _ _ _ us hl => match us, hl with | [_, _, _], _ => rfl
  obtain ⟨dFillPlace, DFillPlace⟩ := d.def_ 33 (d := dd 26 "fill_place") rfl
  have FFillPlace : Fun K "fill_place" "fill_place" (top 26) (ga K "fill_place") dFillPlace := fun_of DFillPlace
  have bFillPlace : Binds K dFillPlace ["_", "frame", "instruction"] [] := FFillPlace.binds fun _ _ _ _ _ _ us hl => match us, hl with | [_, _, _], _ => rfl
  obtain ⟨dJump, DJump⟩ := d.def_ 34 (d := dd 27 "jump") rfl
  have FJump : Fun K "jump" "jump" (top 27) (ga K "jump") dJump := fun_of DJump
  have bJump : Binds K dJump ["_", "frame", "instruction"] [] := FJump.binds fun _ _ _ _ _ _ us hl => match us, hl with | [_, _, _], _ => rfl
  obtain ⟨dJumpUnless, DJumpUnless⟩ := d.def_ 35 (d := dd 28 "jump_unless") rfl
  have FJumpUnless : Fun K "jump_unless" "jump_unless" (top 28) (ga K "jump_unless") dJumpUnless := fun_of DJumpUnless
  have bJumpUnless : Binds K dJumpUnless ["_", "frame", "instruction"] [] := FJumpUnless.binds fun _ _ _ _ _ _ us hl => match us, hl with | [_, _, _], _ => rfl
  obtain ⟨dCall, DCall⟩ := d.def_ 36 (d := dd 29 "call") rfl
  have FCall : Fun K "call" "call" (top 29) (ga K "call") dCall := fun_of DCall
  have bCall : Binds K dCall ["machine", "frame", "instruction"] [] := FCall.binds fun _ _ _ _ _ _ us hl => match us, hl with | [_, _, _], _ => rfl
  obtain ⟨dTailCall, DTailCall⟩ := d.def_ 37 (d := dd 30 "tail_call") rfl
  have FTailCall : Fun K "tail_call" "tail_call" (top 30) (ga K "tail_call") dTailCall := fun_of DTailCall
  have bTailCall : Binds K dTailCall ["machine", "frame", "instruction"] [] := FTailCall.binds fun _ _ _ _ _ _ us hl => match us, hl with | [_, _, _], _ => rfl
  obtain ⟨dLeave, DLeave⟩ := d.def_ 38 (d := dd 31 "leave") rfl
  have FLeave : Fun K "leave" "leave" (top 31) (ga K "leave") dLeave := fun_of DLeave
  have bLeave : Binds K dLeave ["machine", "frame", "_"] [] := FLeave.binds fun _ _ _ _ _ _ us hl => match us, hl with | [_, _, _], _ => rfl
  obtain ⟨dRunCode, DRunCode⟩ := d.def_ 39 (d := dd 34 "run_code") rfl
  have FRunCode : Fun K "run_code" "run_code" (top 34) (ga K "run_code") dRunCode := fun_of DRunCode
  have bRunCode : Binds K dRunCode ["definitions", "code", "most"] [] := FRunCode.binds fun _ _ _ _ _ _ us hl => match us, hl with | [_, _, _], _ => rfl
  obtain ⟨dBoundNumbers, DBoundNumbers⟩ := d.def_ 40 (d := dd 36 "bound_numbers") rfl
  have FBoundNumbers : Fun K "bound_numbers" "bound_numbers" (top 36) (ga K "bound_numbers") dBoundNumbers := fun_of DBoundNumbers
  have bBoundNumbers : Binds K dBoundNumbers ["core"] [] := FBoundNumbers.binds fun _ _ _ _ _ _ us hl => match us, hl with | [_], _ => rfl
  obtain ⟨dInnerTrees, DInnerTrees⟩ := d.def_ 41 (d := dd 37 "inner_trees") rfl
  have FInnerTrees : Fun K "inner_trees" "inner_trees" (top 37) (ga K "inner_trees") dInnerTrees := fun_of DInnerTrees
  have bInnerTrees : Binds K dInnerTrees ["core", "known"] [] := FInnerTrees.binds fun _ _ _ _ _ _ us hl => match us, hl with | [_, _], _ => rfl
  obtain ⟨dOuterNumbers, DOuterNumbers⟩ := d.def_ 42 (d := dd 40 "outer_numbers") rfl
  have FOuterNumbers : Fun K "outer_numbers" "outer_numbers" (top 40) (ga K "outer_numbers") dOuterNumbers := fun_of DOuterNumbers
  have bOuterNumbers : Binds K dOuterNumbers ["core"] [] := FOuterNumbers.binds fun _ _ _ _ _ _ us hl => match us, hl with | [_], _ => rfl
  obtain ⟨dDraftFunction, DDraftFunction⟩ := d.def_ 43 (d := dd 41 "draft_function") rfl
  have FDraftFunction : Fun K "draft_function" "draft_function" (top 41) (ga K "draft_function") dDraftFunction := fun_of DDraftFunction
  have bDraftFunction : Binds K dDraftFunction ["drafts", "core", "scope"] [] := FDraftFunction.binds fun _ _ _ _ _ _ us hl => match us, hl with | [_, _, _], _ => rfl
  obtain ⟨dLeafPieces, DLeafPieces⟩ := d.def_ 44 (d := dd 42 "leaf_pieces") rfl
  have FLeafPieces : Fun K "leaf_pieces" "leaf_pieces" (top 42) (ga K "leaf_pieces") dLeafPieces := fun_of DLeafPieces
  have bLeafPieces : Binds K dLeafPieces ["instruction", "last"] [] := FLeafPieces.binds fun _ _ _ _ _ _ us hl => match us, hl with | [_, _], _ => rfl
  obtain ⟨dLetPieces, DLetPieces⟩ := d.def_ 45 (d := dd 43 "let_pieces") rfl
  have FLetPieces : Fun K "let_pieces" "let_pieces" (top 43) (ga K "let_pieces") dLetPieces := fun_of DLetPieces
  have bLetPieces : Binds K dLetPieces ["draft", "core", "scope", "last"] [] := FLetPieces.binds fun _ _ _ _ _ _ us hl => match us, hl with | [_, _, _, _], _ => rfl
  obtain ⟨dIfPieces, DIfPieces⟩ := d.def_ 46 (d := dd 44 "if_pieces") rfl
  have FIfPieces : Fun K "if_pieces" "if_pieces" (top 44) (ga K "if_pieces") dIfPieces := fun_of DIfPieces
  have bIfPieces : Binds K dIfPieces ["draft", "core", "scope", "last"] [] := FIfPieces.binds fun _ _ _ _ _ _ us hl => match us, hl with | [_, _, _, _], _ => rfl
  obtain ⟨dCallPieces, DCallPieces⟩ := d.def_ 47 (d := dd 45 "call_pieces") rfl
  have FCallPieces : Fun K "call_pieces" "call_pieces" (top 45) (ga K "call_pieces") dCallPieces := fun_of DCallPieces
  have bCallPieces : Binds K dCallPieces ["core", "scope", "last"] [] := FCallPieces.binds fun _ _ _ _ _ _ us hl => match us, hl with | [_, _, _], _ => rfl
  obtain ⟨dTreePieces, DTreePieces⟩ := d.def_ 48 (d := dd 46 "tree_pieces") rfl
  have FTreePieces : Fun K "tree_pieces" "tree_pieces" (top 46) (ga K "tree_pieces") dTreePieces := fun_of DTreePieces
  have bTreePieces : Binds K dTreePieces ["drafts", "draft", "core", "scope", "last"] [] := FTreePieces.binds fun _ _ _ _ _ _ us hl => match us, hl with | [_, _, _, _, _], _ => rfl
  obtain ⟨dWriteDraft, DWriteDraft⟩ := d.def_ 49 (d := dd 47 "write_draft") rfl
  have FWriteDraft : Fun K "write_draft" "write_draft" (top 47) (ga K "write_draft") dWriteDraft := fun_of DWriteDraft
  have bWriteDraft : Binds K dWriteDraft ["drafts", "draft"] [] := FWriteDraft.binds fun _ _ _ _ _ _ us hl => match us, hl with | [_, _], _ => rfl
  obtain ⟨dFinalInstruction, DFinalInstruction⟩ := d.def_ 50 (d := dd 48 "final_instruction") rfl
  have FFinalInstruction : Fun K "final_instruction" "final_instruction" (top 48) (ga K "final_instruction") dFinalInstruction := fun_of DFinalInstruction
  have bFinalInstruction : Binds K dFinalInstruction ["draft", "codes", "instruction"] [] := FFinalInstruction.binds fun _ _ _ _ _ _ us hl => match us, hl with | [_, _, _], _ => rfl
  obtain ⟨dFinalCode, DFinalCode⟩ := d.def_ 51 (d := dd 49 "final_code") rfl
  have FFinalCode : Fun K "final_code" "final_code" (top 49) (ga K "final_code") dFinalCode := fun_of DFinalCode
  have bFinalCode : Binds K dFinalCode ["draft", "codes"] [] := FFinalCode.binds fun _ _ _ _ _ _ us hl => match us, hl with | [_, _], _ => rfl
  obtain ⟨dCompileCore, DCompileCore⟩ := d.def_ 52 (d := dd 50 "compile_core") rfl
  have FCompileCore : Fun K "compile_core" "compile_core" (top 50) (ga K "compile_core") dCompileCore := fun_of DCompileCore
  have bCompileCore : Binds K dCompileCore ["core"] [] := FCompileCore.binds fun _ _ _ _ _ _ us hl => match us, hl with | [_], _ => rfl
  obtain ⟨dWithVariables, DWithVariables⟩ := d.def_ 53 (d := dd 52 "with_variables") rfl
  have FWithVariables : Fun K "with_variables" "with_variables" (top 52) (ga K "with_variables") dWithVariables := fun_of DWithVariables
  have bWithVariables : Binds K dWithVariables ["variables", "numbers", "results"] [] := FWithVariables.binds fun _ _ _ _ _ _ us hl => match us, hl with | [_, _, _], _ => rfl
  obtain ⟨dBeginInt, DBeginInt⟩ := d.def_ 54 (d := dd 53 "begin_int") rfl
  have FBeginInt : Fun K "begin_int" "begin_int" (top 53) (ga K "begin_int") dBeginInt := fun_of DBeginInt
  have bBeginInt : Binds K dBeginInt ["run", "core", "_"] [] := FBeginInt.binds fun _ _ _ _ _ _ us hl => match us, hl with | [_, _, _], _ => rfl
  obtain ⟨dBeginLocal, DBeginLocal⟩ := d.def_ 55 (d := dd 54 "begin_local") rfl
  have FBeginLocal : Fun K "begin_local" "begin_local" (top 54) (ga K "begin_local") dBeginLocal := fun_of DBeginLocal
  have bBeginLocal : Binds K dBeginLocal ["run", "core", "variables"] [] := FBeginLocal.binds fun _ _ _ _ _ _ us hl => match us, hl with | [_, _, _], _ => rfl
  obtain ⟨dBeginGlobal, DBeginGlobal⟩ := d.def_ 56 (d := dd 55 "begin_global") rfl
  have FBeginGlobal : Fun K "begin_global" "begin_global" (top 55) (ga K "begin_global") dBeginGlobal := fun_of DBeginGlobal
  have bBeginGlobal : Binds K dBeginGlobal ["run", "core", "_"] [] := FBeginGlobal.binds fun _ _ _ _ _ _ us hl => match us, hl with | [_, _, _], _ => rfl
  obtain ⟨dBeginPrim, DBeginPrim⟩ := d.def_ 57 (d := dd 56 "begin_prim") rfl
  have FBeginPrim : Fun K "begin_prim" "begin_prim" (top 56) (ga K "begin_prim") dBeginPrim := fun_of DBeginPrim
  have bBeginPrim : Binds K dBeginPrim ["run", "core", "_"] [] := FBeginPrim.binds fun _ _ _ _ _ _ us hl => match us, hl with | [_, _, _], _ => rfl
  obtain ⟨dBeginFn, DBeginFn⟩ := d.def_ 58 (d := dd 57 "begin_fn") rfl
  have FBeginFn : Fun K "begin_fn" "begin_fn" (top 57) (ga K "begin_fn") dBeginFn := fun_of DBeginFn
  have bBeginFn : Binds K dBeginFn ["run", "core", "variables"] [] := FBeginFn.binds fun _ _ _ _ _ _ us hl => match us, hl with | [_, _, _], _ => rfl
  obtain ⟨dBeginLet, DBeginLet⟩ := d.def_ 59 (d := dd 58 "begin_let") rfl
  have FBeginLet : Fun K "begin_let" "begin_let" (top 58) (ga K "begin_let") dBeginLet := fun_of DBeginLet
  have bBeginLet : Binds K dBeginLet ["run", "core", "variables"] [] := FBeginLet.binds fun _ _ _ _ _ _ us hl => match us, hl with | [_, _, _], _ => rfl
  obtain ⟨dEndLet, DEndLet⟩ := d.def_ 60 (d := dd 59 "end_let") rfl
  have FEndLet : Fun K "end_let" "end_let" (top 59) (ga K "end_let") dEndLet := fun_of DEndLet
  have bEndLet : Binds K dEndLet ["run", "core", "variables"] [] := FEndLet.binds fun _ _ _ _ _ _ us hl => match us, hl with | [_, _, _], _ => rfl
  obtain ⟨dBeginIf, DBeginIf⟩ := d.def_ 61 (d := dd 60 "begin_if") rfl
  have FBeginIf : Fun K "begin_if" "begin_if" (top 60) (ga K "begin_if") dBeginIf := fun_of DBeginIf
  have bBeginIf : Binds K dBeginIf ["run", "core", "variables"] [] := FBeginIf.binds fun _ _ _ _ _ _ us hl => match us, hl with | [_, _, _], _ => rfl
  obtain ⟨dEndIf, DEndIf⟩ := d.def_ 62 (d := dd 61 "end_if") rfl
  have FEndIf : Fun K "end_if" "end_if" (top 61) (ga K "end_if") dEndIf := fun_of DEndIf
  have bEndIf : Binds K dEndIf ["run", "core", "variables"] [] := FEndIf.binds fun _ _ _ _ _ _ us hl => match us, hl with | [_, _, _], _ => rfl
  obtain ⟨dBeginCall, DBeginCall⟩ := d.def_ 63 (d := dd 62 "begin_call") rfl
  have FBeginCall : Fun K "begin_call" "begin_call" (top 62) (ga K "begin_call") dBeginCall := fun_of DBeginCall
  have bBeginCall : Binds K dBeginCall ["run", "core", "variables"] [] := FBeginCall.binds fun _ _ _ _ _ _ us hl => match us, hl with | [_, _, _], _ => rfl
  obtain ⟨dEndCall, DEndCall⟩ := d.def_ 64 (d := dd 63 "end_call") rfl
  have FEndCall : Fun K "end_call" "end_call" (top 63) (ga K "end_call") dEndCall := fun_of DEndCall
  have bEndCall : Binds K dEndCall ["run", "core", "_"] [] := FEndCall.binds fun _ _ _ _ _ _ us hl => match us, hl with | [_, _, _], _ => rfl
  obtain ⟨dBegin, DBegin⟩ := d.def_ 65 (d := dd 65 "begin") rfl
  have FBegin : Fun K "begin" "begin" (top 65) (ga K "begin") dBegin := fun_of DBegin
  have bBegin : Binds K dBegin ["run", "core", "variables"] [] := FBegin.binds fun _ _ _ _ _ _ us hl => match us, hl with | [_, _, _], _ => rfl
  obtain ⟨dRunPlain, DRunPlain⟩ := d.def_ 66 (d := dd 67 "run_plain") rfl
  have FRunPlain : Fun K "run_plain" "run_plain" (top 67) (ga K "run_plain") dRunPlain := fun_of DRunPlain
  have bRunPlain : Binds K dRunPlain ["definitions", "core", "most"] [] := FRunPlain.binds fun _ _ _ _ _ _ us hl => match us, hl with | [_, _, _], _ => rfl
  obtain ⟨dLMixed, DLMixed⟩ := d.def_ 67 (d := dd 69 "_law_mixed") rfl
  have FLMixed : Fun K "_law_mixed" "_law_mixed" (top 69) (ga K "_law_mixed") dLMixed := fun_of DLMixed
  have bLMixed : Binds K dLMixed ["cell"] [] := FLMixed.binds fun _ _ _ _ _ _ us hl => match us, hl with | [_], _ => rfl
  obtain ⟨dLTake, DLTake⟩ := d.def_ 68 (d := dd 70 "_law_take") rfl
  have FLTake : Fun K "_law_take" "_law_take" (top 70) (ga K "_law_take") dLTake := fun_of DLTake
  have bLTake : Binds K dLTake ["state", "limit"] [] := FLTake.binds fun _ _ _ _ _ _ us hl => match us, hl with | [_, _], _ => rfl
  obtain ⟨dLState, DLState⟩ := d.def_ 69 (d := dd 71 "_law_state") rfl
  have FLState : Fun K "_law_state" "_law_state" (top 71) (ga K "_law_state") dLState := fun_of DLState
  have bLState : Binds K dLState ["script"] [] := FLState.binds fun _ _ _ _ _ _ us hl => match us, hl with | [_], _ => rfl
  obtain ⟨dLSame, DLSame⟩ := d.def_ 70 (d := dd 72 "_law_same") rfl
  have FLSame : Fun K "_law_same" "_law_same" (top 72) (ga K "_law_same") dLSame := fun_of DLSame
  have bLSame : Binds K dLSame ["one", "two"] [] := FLSame.binds fun _ _ _ _ _ _ us hl => match us, hl with | [_, _], _ => rfl
  obtain ⟨dLLast, DLLast⟩ := d.def_ 71 (d := dd 73 "_law_last") rfl
  have FLLast : Fun K "_law_last" "_law_last" (top 73) (ga K "_law_last") dLLast := fun_of DLLast
  have bLLast : Binds K dLLast ["state", "call_v"] [] := FLLast.binds fun _ _ _ _ _ _ us hl => match us, hl with | [_, _], _ => rfl
  obtain ⟨dLaw, DLaw⟩ := d.def_ 72 (d := dd 74 "law") rfl
  have FLaw : Fun K "law" "law" (top 74) (ga K "law") dLaw := fun_of DLaw
  have bLaw : Binds K dLaw ["script"] [] := FLaw.binds fun _ _ _ _ _ _ us hl => match us, hl with | [_], _ => rfl
  have gShown := glo "shown" (mem_at 11 rfl)
  have gTakeLast := glo "take_last" (mem_at 12 rfl)
  have gCheckCall := glo "check_call" (mem_at 13 rfl)
  have gHalf := glo "half" (mem_at 14 rfl)
  have gReckon := glo "reckon" (mem_at 15 rfl)
  have gCallPrimitive := glo "call_primitive" (mem_at 16 rfl)
  have gPutInt := glo "put_int" (mem_at 17 rfl)
  have gPutPrim := glo "put_prim" (mem_at 18 rfl)
  have gPutGlobal := glo "put_global" (mem_at 19 rfl)
  have gPutSource := glo "put_source" (mem_at 20 rfl)
  have gPutFunction := glo "put_function" (mem_at 21 rfl)
  have gFillPlace := glo "fill_place" (mem_at 22 rfl)
  have gJump := glo "jump" (mem_at 23 rfl)
  have gJumpUnless := glo "jump_unless" (mem_at 24 rfl)
  have gCall := glo "call" (mem_at 25 rfl)
  have gTailCall := glo "tail_call" (mem_at 26 rfl)
  have gLeave := glo "leave" (mem_at 27 rfl)
  have gRunCode := glo "run_code" (mem_at 28 rfl)
  have gBoundNumbers := glo "bound_numbers" (mem_at 29 rfl)
  have gInnerTrees := glo "inner_trees" (mem_at 30 rfl)
  have gOuterNumbers := glo "outer_numbers" (mem_at 31 rfl)
  have gDraftFunction := glo "draft_function" (mem_at 32 rfl)
  have gLeafPieces := glo "leaf_pieces" (mem_at 33 rfl)
  have gLetPieces := glo "let_pieces" (mem_at 34 rfl)
  have gIfPieces := glo "if_pieces" (mem_at 35 rfl)
  have gCallPieces := glo "call_pieces" (mem_at 36 rfl)
  have gTreePieces := glo "tree_pieces" (mem_at 37 rfl)
  have gWriteDraft := glo "write_draft" (mem_at 38 rfl)
  have gFinalInstruction := glo "final_instruction" (mem_at 39 rfl)
  have gFinalCode := glo "final_code" (mem_at 40 rfl)
  have gCompileCore := glo "compile_core" (mem_at 41 rfl)
  have gWithVariables := glo "with_variables" (mem_at 42 rfl)
  have gBeginInt := glo "begin_int" (mem_at 43 rfl)
  have gBeginLocal := glo "begin_local" (mem_at 44 rfl)
  have gBeginGlobal := glo "begin_global" (mem_at 45 rfl)
  have gBeginPrim := glo "begin_prim" (mem_at 46 rfl)
  have gBeginFn := glo "begin_fn" (mem_at 47 rfl)
  have gBeginLet := glo "begin_let" (mem_at 48 rfl)
  have gEndLet := glo "end_let" (mem_at 49 rfl)
  have gBeginIf := glo "begin_if" (mem_at 50 rfl)
  have gEndIf := glo "end_if" (mem_at 51 rfl)
  have gBeginCall := glo "begin_call" (mem_at 52 rfl)
  have gEndCall := glo "end_call" (mem_at 53 rfl)
  have gBegin := glo "begin" (mem_at 54 rfl)
  have gRunPlain := glo "run_plain" (mem_at 55 rfl)
  have gLMixed := glo "_law_mixed" (mem_at 56 rfl)
  have gLTake := glo "_law_take" (mem_at 57 rfl)
  have gLState := glo "_law_state" (mem_at 58 rfl)
  have gLSame := glo "_law_same" (mem_at 59 rfl)
  have gLLast := glo "_law_last" (mem_at 60 rfl)
  have gLaw := glo "law" (mem_at 61 rfl)
  let AF : Acts := ⟨(ga K "begin"), (ga K "end_let"), (ga K "end_if"), (ga K "end_call")⟩
  have AG : ActG mg AF := ⟨gBegin, gEndLet, gEndIf, gEndCall⟩
  cases hfa.symm.trans gLaw
  refine ⟨dLaw, tfK.map (cT K), spLaw K (cT K ("call_primitive", none)).2, ?_, ?_, ?_, fun s u => FunD.bindsA (ps := ["script"]) DLaw (fun _ _ _ _ _ _ us hl => match us, hl with | [_], _ => rfl) s [u] rfl, ?_, fun base KX GX hT => ?_⟩
  · intro p hp
    obtain ⟨t, ht, rfl⟩ := List.mem_map.mp hp
    exact c.empty t ht
  · intro p hp
    obtain ⟨t, ht, rfl⟩ := List.mem_map.mp hp
    exact c.out t ht
  · intro p hp
    obtain ⟨t, ht, rfl⟩ := List.mem_map.mp hp
    exact PySem.W.codeHd_of_K X (c.hd t ht)
  · intro H a ns hl _ hH hS
    have tg : ∀ t ∈ tfK, GxR.TabG H (cT K t).2 := fun t ht => ⟨#[], hH _ (List.mem_map.mpr ⟨t, ht, rfl⟩), trivial⟩
    exact ⟨a, ns, rfl, hS, hl, tg _ (by simp [tfK]), fun _ => rfl⟩
  have tb : ∀ t ∈ tfK, GxR.TabB base mg (cT K t).1 (cT K t).2 := fun t ht => by
    have z := hT (cT K t) (List.mem_map.mpr ⟨t, ht, rfl⟩)
    exact ⟨z.code, z.bm, z.gP⟩
  have TB1 : GxR.TabB base mg (codeOf K ("call_primitive", none)) (cT K ("call_primitive", none)).2 := tb _ (by simp [tfK])
  generalize (cT K ("call_primitive", none)).2 = P1 at TB1
  have XE : ErrO row55.prog w K mg base (ga K "Ended") _ dEnded_Init := ⟨xx.o, gEnded, iE.1, iE.2, ok_iniE FEnded_Init BC xx.o xx.no, bEnded_Init⟩
  have mPa : MkC row55.prog w K mg base 1 "Pair" ["self", "first", "second"] (spIni VS.pa 2 (two "first" "second")) (ga K "Pair") _ _ := ⟨mkr_ok (d.facts (f := .mkr "Pair") (mem_at 63 rfl)), ok_pai FPair_Init uPair, gPair, bPair_Init⟩
  have mFu : MkC row55.prog w K mg base 1 "Function" ["self", "parameters", "body", "kept"] (spIni VS.fu 3 (three "parameters" "body" "kept")) (ga K "Function") _ _ := ⟨mkr_ok (d.facts (f := .mkr "Function") (mem_at 67 rfl)), ok_fun FFunction_Init uFunction, gFunction, bFunction_Init⟩
  have mPr : MkC row55.prog w K mg base 1 "Primitive" ["self", "name"] (spPri VS.pr) (ga K "Primitive") _ _ := ⟨mkr_ok (d.facts (f := .mkr "Primitive") (mem_at 72 rfl)), ok_pri FPrimitive_Init uPrimitive, gPrimitive, bPrimitive_Init⟩
  have cBn : Cal row55.prog w K mg base CX0 1 "bound_numbers" ["core"] spBn _ _ := ⟨ok_bn (P := row55.prog) (w := w) (base := base) FBoundNumbers B, FBoundNumbers.kp, gBoundNumbers, bBoundNumbers⟩
  have cIn : Cal row55.prog w K mg base CX0 2 "inner_trees" ["core", "known"] spInner _ _ := ⟨ok_inner FInnerTrees B cBn, FInnerTrees.kp, gInnerTrees, bInnerTrees⟩
  have cTl : Cal row55.prog w K mg base CX0 1 "take_last" ["stack", "many"] spTak _ _ := ⟨ok_tak (P := row55.prog) (w := w) (base := base) FTakeLast B, FTakeLast.kp, gTakeLast, bTakeLast⟩
  have cCh : Cal row55.prog w K mg base (L2.CX row55.prog w) 3 "check_call" ["called", "parts"] (spChk VS (ga K "Ended")) _ _ := ⟨ok_chk FCheckCall B VC XE, FCheckCall.kp, gCheckCall, bCheckCall⟩
  have cHa : Cal row55.prog w K mg base (L2.CX row55.prog w) 3 "half" ["name", "value"] (spHal VS (ga K "Ended")) _ _ := ⟨ok_hal FHalf B VC XE, FHalf.kp, gHalf, bHalf⟩
  have cRk : Cal row55.prog w K mg base (L2.CX row55.prog w) 3 "reckon" ["name", "left", "right"] (spRck (ga K "Ended")) _ _ := ⟨ok_rck FReckon B gG XE, FReckon.kp, gReckon, bReckon⟩
  have cPm : Cal row55.prog w K mg base (L2.CX row55.prog w) 4 "call_primitive" ["name", "parts"] (spPrm VS (ga K "Ended") P1) _ _ := ⟨ok_prm (func_of FCallPrimitive) B VC XE mPa cHa cRk TB1, FCallPrimitive.kp, gCallPrimitive, bCallPrimitive⟩
  have mSh : MkC row55.prog w K mg base 1 "Showing" ["self"] (spShI (ga K "Showing")) (ga K "Showing") _ _ := ⟨mkr_ok (d.facts (f := .mkr "Showing") (mem_at 76 rfl)), ok_shI FShowing_Init uShowing, gShowing, bShowing_Init⟩
  have cSh : Cal row55.prog w K mg base CX0 62 "shown" ["value"] (spShn VS) _ _ := ⟨ok_shn FShown mSh uShowing (meth_ok (d.facts (f := .meth "Showing" "show") (mem_at 108 rfl))) bShowing_Show (ok_sho FShowing_Show B VC uShowing (meth_ok (d.facts (f := .meth "Showing" "show") (mem_at 108 rfl))) bShowing_Show gA gP 61), FShown.kp, gShown, bShown⟩
  have cWv : Cal row55.prog w K mg base CX0 1 "with_variables" ["variables", "numbers", "results"] (spWv VS) _ _ := ⟨ok_wv FWithVariables B2, FWithVariables.kp, gWithVariables, bWithVariables⟩
  have kP : MCal row55.prog w K mg base (L2.CX row55.prog w) 3 (ga K "PlainRun") "count_step" ["self"] (spCnt (ga K "PlainRun") (ga K "Ended")) _ _ := ⟨ok_cnt FRun_CountStep uP2 XE, uPlainRun.c, methI_ok cMPlainRuncount_step, bRun_CountStep⟩
  have kDp : MCal row55.prog w K mg base (L2.CX row55.prog w) 3 (ga K "PlainRun") "definition" ["self", "module", "name"] (spDfn (ga K "PlainRun") VS (ga K "Ended")) _ _ := ⟨ok_dfn FRun_Definition uPd XE, uPlainRun.c, methI_ok cMPlainRundefinition, bRun_Definition⟩
  have TBp : ∀ wd ∈ begW, ∃ g, PySem.W.nsIn K (ga K "BEGINNINGS") wd = some (some (.ref g)) ∧ HeldX row55.prog w K mg base 4 g (spA (ga K "PlainRun") AF VS (ga K "Ended") P1 (fun t => word t = wd) goP) := by
    intro wd hw
    simp only [begW, List.mem_cons, List.not_mem_nil, or_false] at hw
    rcases hw with rfl | rfl | rfl | rfl | rfl | rfl | rfl | rfl
    · exact ⟨_, eqO_ok cTBint, ⟨⟨_, ["run", "core", "_"], FnOk.mono (ok_bi FBeginInt uPlainRun) (by decide), FBeginInt.kp, bBeginInt⟩⟩⟩
    · exact ⟨_, eqO_ok cTBlocal, ⟨⟨_, ["run", "core", "variables"], FnOk.mono (ok_bl FBeginLocal uPlainRun) (by decide), FBeginLocal.kp, bBeginLocal⟩⟩⟩
    · exact ⟨_, eqO_ok cTBglobal, ⟨⟨_, ["run", "core", "_"], FnOk.mono (ok_bg FBeginGlobal uPlainRun kDp) (by decide), FBeginGlobal.kp, bBeginGlobal⟩⟩⟩
    · exact ⟨_, eqO_ok cTBprim, ⟨⟨_, ["run", "core", "_"], FnOk.mono (ok_bp FBeginPrim uPlainRun mPr) (by decide), FBeginPrim.kp, bBeginPrim⟩⟩⟩
    · exact ⟨_, eqO_ok cTBfn, ⟨⟨_, ["run", "core", "variables"], FnOk.mono (ok_bf FBeginFn B uPlainRun mFu) (by decide), FBeginFn.kp, bBeginFn⟩⟩⟩
    · exact ⟨_, eqO_ok cTBlet, ⟨⟨_, ["run", "core", "variables"], FnOk.mono (ok_bt FBeginLet uPlainRun AG) (by decide), FBeginLet.kp, bBeginLet⟩⟩⟩
    · exact ⟨_, eqO_ok cTBif, ⟨⟨_, ["run", "core", "variables"], FnOk.mono (ok_bif FBeginIf uPlainRun AG) (by decide), FBeginIf.kp, bBeginIf⟩⟩⟩
    · exact ⟨_, eqO_ok cTBcall, ⟨⟨_, ["run", "core", "variables"], FnOk.mono (ok_bc FBeginCall uPlainRun AG) (by decide), FBeginCall.kp, bBeginCall⟩⟩⟩
  have H1 : HeldX row55.prog w K mg base 5 (ga K "begin") (spA (ga K "PlainRun") AF VS (ga K "Ended") P1 (fun _ => True) goB) := ⟨_, ["run", "core", "variables"], FnOk.mono (ok_beg FBegin uPlainRun gBEG kdB kP TBp) (by decide), FBegin.kp, bBegin⟩
  have H2 : HeldX row55.prog w K mg base 5 (ga K "end_let") (spA (ga K "PlainRun") AF VS (ga K "Ended") P1 (fun t => word t = "let") goEl) := ⟨_, ["run", "core", "variables"], FnOk.mono (ok_el FEndLet B uPlainRun AG cTl cBn cWv) (by decide), FEndLet.kp, bEndLet⟩
  have H3 : HeldX row55.prog w K mg base 5 (ga K "end_if") (spA (ga K "PlainRun") AF VS (ga K "Ended") P1 (fun t => word t = "if") goEi) := ⟨_, ["run", "core", "variables"], FnOk.mono (ok_eif FEndIf uPlainRun AG) (by decide), FEndIf.kp, bEndIf⟩
  have H4 : HeldX row55.prog w K mg base 5 (ga K "end_call") (spA (ga K "PlainRun") AF VS (ga K "Ended") P1 (fun t => word t = "call") goEc) := ⟨_, ["run", "core", "_"], FnOk.mono (ok_ec FEndCall B VC uPlainRun AG cTl cBn cWv cCh cPm) (by decide), FEndCall.kp, bEndCall⟩
  have pCa : MCal row55.prog w K mg base (L2.CX row55.prog w) 70 (ga K "PlainRun") "carry_out" ["self", "core"] (spCo (ga K "Ended") P1 (cdP (ga K "PlainRun") AF VS)) _ _ := ⟨FnOk.imp (FnOk.mono (ok_car (fE := ga K "begin") (dE := dPlainrun_CarryOut) FPlainrun_CarryOut uPlainRun AG H1 H2 H3 H4) (by decide)) car_co, uPlainRun.c, meth_ok (d.facts (f := .meth "PlainRun" "carry_out") (mem_at 109 rfl)), bPlainrun_CarryOut⟩
  have pCo : MCal row55.prog w K mg base CX0 71 (ga K "PlainRun") "carry_out_program" ["self", "definitions", "last"] (spCop (ga K "Ended") P1 (cdP (ga K "PlainRun") AF VS)) _ _ := ⟨ok_cop FRun_CarryOutProgram uPd EC pCa cSh, uPlainRun.c, methI_ok cMPlainRuncarry_out_program, bRun_CarryOutProgram⟩
  have grP : InitC row55.prog w K mg base 1 "Run" ["self", "most"] (spRin (ga K "PlainRun")) (ga K "Run") _ _ := ⟨gRun, cR1, eqO_ok cR2, refB_ok cR3, ok_rin FRun_Init uPr, FRun_Init.kp, bRun_Init⟩
  have mPR : MkC row55.prog w K mg base 2 "PlainRun" ["self", "most"] (spPin (ga K "PlainRun")) (ga K "PlainRun") _ _ := ⟨mkr_ok (d.facts (f := .mkr "PlainRun") (mem_at 79 rfl)), ok_pin FPlainrun_Init uPlainRun grP, gPlainRun, bPlainrun_Init⟩
  have cRp : Cal row55.prog w K mg base CX0 72 "run_plain" ["definitions", "core", "most"] (spRp P1) _ _ := ⟨ok_rp FRunPlain uPlainRun mPR pCo, FRunPlain.kp, gRunPlain, bRunPlain⟩
  have mDr : MkC row55.prog w K mg base 1 "Draft" ["self", "parameters", "body", "scope"] (spDrI (ga K "Draft")) (ga K "Draft") _ _ := ⟨mkr_ok (d.facts (f := .mkr "Draft") (mem_at 86 rfl)), ok_drI FDraft_Init uDraft, gDraft, bDraft_Init⟩
  have dPl : MCal row55.prog w K mg base CX0 1 (ga K "Draft") "new_places" ["self", "many"] (spDrP (ga K "Draft")) _ _ := ⟨ok_drP FDraft_NewPlaces uDraft, uDraft.c, meth_ok (d.facts (f := .meth "Draft" "new_places") (mem_at 110 rfl)), bDraft_NewPlaces⟩
  have dLb : MCal row55.prog w K mg base CX0 1 (ga K "Draft") "new_label" ["self"] (spDrL (ga K "Draft")) _ _ := ⟨ok_drL FDraft_NewLabel B uDraft, uDraft.c, meth_ok (d.facts (f := .meth "Draft" "new_label") (mem_at 111 rfl)), bDraft_NewLabel⟩
  have cOu : Cal row55.prog w K mg base CX0 3 "outer_numbers" ["core"] spOut _ _ := ⟨ok_out FOuterNumbers B cIn, FOuterNumbers.kp, gOuterNumbers, bOuterNumbers⟩
  have cDf : Cal row55.prog w K mg base CX0 4 "draft_function" ["drafts", "core", "scope"] (spDf (ga K "Draft")) _ _ := ⟨ok_df FDraftFunction B B2 cOu mDr, FDraftFunction.kp, gDraftFunction, bDraftFunction⟩
  have cLp : Cal row55.prog w K mg base CX0 1 "leaf_pieces" ["instruction", "last"] spLea _ _ := ⟨ok_lea (P := row55.prog) (w := w) (base := base) FLeafPieces, FLeafPieces.kp, gLeafPieces, bLeafPieces⟩
  have cLt : Cal row55.prog w K mg base CX0 2 "let_pieces" ["draft", "core", "scope", "last"] (spLet (ga K "Draft")) _ _ := ⟨ok_let FLetPieces B B2 dPl, FLetPieces.kp, gLetPieces, bLetPieces⟩
  have cIf : Cal row55.prog w K mg base CX0 2 "if_pieces" ["draft", "core", "scope", "last"] (spIf (ga K "Draft")) _ _ := ⟨ok_if FIfPieces B dLb, FIfPieces.kp, gIfPieces, bIfPieces⟩
  have cCp : Cal row55.prog w K mg base CX0 1 "call_pieces" ["core", "scope", "last"] spCp _ _ := ⟨ok_cp (P := row55.prog) (w := w) (base := base) FCallPieces B, FCallPieces.kp, gCallPieces, bCallPieces⟩
  have cTp : Cal row55.prog w K mg base CX0 5 "tree_pieces" ["drafts", "draft", "core", "scope", "last"] (spTp (ga K "Draft")) _ _ := ⟨ok_tp FTreePieces cLt cIf cCp cDf cLp, FTreePieces.kp, gTreePieces, bTreePieces⟩
  have cWd : Cal row55.prog w K mg base CX0 6 "write_draft" ["drafts", "draft"] (spWd (ga K "Draft")) _ _ := ⟨ok_wd FWriteDraft B uDraft cTp, FWriteDraft.kp, gWriteDraft, bWriteDraft⟩
  have cFi : Cal row55.prog w K mg base CX0 1 "final_instruction" ["draft", "codes", "instruction"] (spFi (ga K "Draft")) _ _ := ⟨ok_fi (P := row55.prog) (w := w) (base := base) FFinalInstruction uDraft, FFinalInstruction.kp, gFinalInstruction, bFinalInstruction⟩
  have cFc : Cal row55.prog w K mg base CX0 2 "final_code" ["draft", "codes"] (spFc (ga K "Draft")) _ _ := ⟨ok_fc FFinalCode B uDraft cFi, FFinalCode.kp, gFinalCode, bFinalCode⟩
  have cCc : Cal row55.prog w K mg base CX0 7 "compile_core" ["core"] spCc _ _ := ⟨ok_cc FCompileCore B B2 uDraft mDr cWd cFc, FCompileCore.kp, gCompileCore, bCompileCore⟩
  have mFr : MkC row55.prog w K mg base 1 "Frame" ["self", "code", "parts", "kept"] (spFri (ga K "Frame")) (ga K "Frame") _ _ := ⟨mkr_ok (d.facts (f := .mkr "Frame") (mem_at 94 rfl)), ok_fri FFrame_Init B uFrame, gFrame, bFrame_Init⟩
  have fRd : MCal row55.prog w K mg base CX0 1 (ga K "Frame") "read" ["self", "source"] (spFrd (ga K "Frame") VS) _ _ := ⟨ok_frd FFrame_Read uFrame, uFrame.c, meth_ok (d.facts (f := .meth "Frame" "read") (mem_at 112 rfl)), bFrame_Read⟩
  have kM : MCal row55.prog w K mg base (L2.CX row55.prog w) 3 (ga K "Machine") "count_step" ["self"] (spCnt (ga K "Machine") (ga K "Ended")) _ _ := ⟨ok_cnt FRun_CountStep uM2 XE, uMachine.c, methI_ok cMMachinecount_step, bRun_CountStep⟩
  have mGi : MCal row55.prog w K mg base (L2.CX row55.prog w) 1 (ga K "Machine") "give" ["self", "value"] (spGi (ga K "Machine") (ga K "Frame") VS (ga K "Ended")) _ _ := ⟨ok_mgi FMachine_Give uMachine uFrame, uMachine.c, meth_ok (d.facts (f := .meth "Machine" "give") (mem_at 116 rfl)), bMachine_Give⟩
  have mAf : MCal row55.prog w K mg base (L2.CX row55.prog w) 3 (ga K "Machine") "add_frame" ["self", "code", "parts", "kept"] (spAf (ga K "Machine") (ga K "Frame") VS (ga K "Ended")) _ _ := ⟨ok_maf FMachine_AddFrame B B2 uMachine mFr, uMachine.c, meth_ok (d.facts (f := .meth "Machine" "add_frame") (mem_at 114 rfl)), bMachine_AddFrame⟩
  have mEn : MCal row55.prog w K mg base (L2.CX row55.prog w) 5 (ga K "Machine") "enter" ["self", "called", "parts"] (spEn (ga K "Machine") (ga K "Frame") VS (ga K "Ended") P1) _ _ := ⟨ok_men FMachine_Enter B VC uMachine mGi mAf cCh cPm, uMachine.c, meth_ok (d.facts (f := .meth "Machine" "enter") (mem_at 115 rfl)), bMachine_Enter⟩
  have kDm : MCal row55.prog w K mg base (L2.CX row55.prog w) 3 (ga K "Machine") "definition" ["self", "module", "name"] (spDfn (ga K "Machine") VS (ga K "Ended")) _ _ := ⟨ok_dfn FRun_Definition uMd XE, uMachine.c, methI_ok cMMachinedefinition, bRun_Definition⟩
  have TBm : ∀ wd : AW, ∃ g, PySem.W.nsIn K (ga K "ACTIONS") wd.word = some (some (.ref g)) ∧ HeldX row55.prog w K mg base 6 g (wd.sp (ga K "Machine") (ga K "Frame") VS (ga K "Ended") P1) := by
    intro wd
    cases wd
    · exact ⟨_, eqO_ok cTAint, ⟨_, ["_", "frame", "instruction"], FnOk.mono (ok_mi FPutInt uFrame) (by decide), FPutInt.kp, bPutInt⟩⟩
    · exact ⟨_, eqO_ok cTAprim, ⟨_, ["_", "frame", "instruction"], FnOk.mono (ok_mp FPutPrim uFrame mPr) (by decide), FPutPrim.kp, bPutPrim⟩⟩
    · exact ⟨_, eqO_ok cTAglobal, ⟨_, ["machine", "frame", "instruction"], FnOk.mono (ok_mpg FPutGlobal uMachine uFrame kDm) (by decide), FPutGlobal.kp, bPutGlobal⟩⟩
    · exact ⟨_, eqO_ok cTAplace, ⟨_, ["_", "frame", "instruction"], FnOk.mono (ok_ms FPutSource uFrame fRd) (by decide), FPutSource.kp, bPutSource⟩⟩
    · exact ⟨_, eqO_ok cTAkept, ⟨_, ["_", "frame", "instruction"], FnOk.mono (ok_ms FPutSource uFrame fRd) (by decide), FPutSource.kp, bPutSource⟩⟩
    · exact ⟨_, eqO_ok cTAfn, ⟨_, ["_", "frame", "instruction"], FnOk.mono (ok_mf FPutFunction uFrame fRd mFu) (by decide), FPutFunction.kp, bPutFunction⟩⟩
    · exact ⟨_, eqO_ok cTAput, ⟨_, ["_", "frame", "instruction"], FnOk.mono (ok_mt FFillPlace uFrame) (by decide), FFillPlace.kp, bFillPlace⟩⟩
    · exact ⟨_, eqO_ok cTAjump, ⟨_, ["_", "frame", "instruction"], FnOk.mono (ok_mj FJump uFrame) (by decide), FJump.kp, bJump⟩⟩
    · exact ⟨_, eqO_ok cTAunless, ⟨_, ["_", "frame", "instruction"], FnOk.mono (ok_mu FJumpUnless uFrame) (by decide), FJumpUnless.kp, bJumpUnless⟩⟩
    · exact ⟨_, eqO_ok cTAcall, ⟨_, ["machine", "frame", "instruction"], FnOk.mono (ok_mc FCall uMachine uFrame mEn cTl) (by decide), FCall.kp, bCall⟩⟩
    · exact ⟨_, eqO_ok cTAtail, ⟨_, ["machine", "frame", "instruction"], FnOk.mono (ok_mtl FTailCall uMachine uFrame mEn cTl) (by decide), FTailCall.kp, bTailCall⟩⟩
    · exact ⟨_, eqO_ok cTAend, ⟨_, ["machine", "frame", "_"], FnOk.mono (ok_mlv FLeave uMachine uFrame mGi) (by decide), FLeave.kp, bLeave⟩⟩
  have mCa : MCal row55.prog w K mg base (L2.CX row55.prog w) 70 (ga K "Machine") "carry_out" ["self", "code"] (spCo (ga K "Ended") P1 (cdM (ga K "Machine") (ga K "Frame") VS)) _ _ := ⟨FnOk.imp (FnOk.mono (ok_mca FMachine_CarryOut uMachine uFrame gACT kdA kM mAf TBm) (by decide)) mca_co, uMachine.c, meth_ok (d.facts (f := .meth "Machine" "carry_out") (mem_at 113 rfl)), bMachine_CarryOut⟩
  have mCo : MCal row55.prog w K mg base CX0 71 (ga K "Machine") "carry_out_program" ["self", "definitions", "last"] (spCop (ga K "Ended") P1 (cdM (ga K "Machine") (ga K "Frame") VS)) _ _ := ⟨ok_cop FRun_CarryOutProgram uMd EC mCa cSh, uMachine.c, methI_ok cMMachinecarry_out_program, bRun_CarryOutProgram⟩
  have grM : InitC row55.prog w K mg base 1 "Run" ["self", "most"] (spRin (ga K "Machine")) (ga K "Run") _ _ := ⟨gRun, cR1, eqO_ok cR2, refB_ok cR3, ok_rin FRun_Init uMr, FRun_Init.kp, bRun_Init⟩
  have mMM : MkC row55.prog w K mg base 2 "Machine" ["self", "most"] (spMin (ga K "Machine")) (ga K "Machine") _ _ := ⟨mkr_ok (d.facts (f := .mkr "Machine") (mem_at 101 rfl)), ok_min FMachine_Init uMachine grM, gMachine, bMachine_Init⟩
  have cRc : Cal row55.prog w K mg base CX0 72 "run_code" ["definitions", "code", "most"] (spRc P1) _ _ := ⟨ok_rc FRunCode uMachine mMM mCo, FRunCode.kp, gRunCode, bRunCode⟩
  have cTk : Cal row55.prog w K mg base CX0 2 "_law_take" ["state", "limit"] spTake _ _ := ⟨ok_take (P := row55.prog) (w := w) (base := base) FLTake B FLMixed gLMixed bLMixed, FLTake.kp, gLTake, bLTake⟩
  have cSt : Cal row55.prog w K mg base CX0 1 "_law_state" ["script"] (spState K) _ _ := ⟨ok_state FLState B, FLState.kp, gLState, bLState⟩
  have cLa : Cal row55.prog w K mg base CX0 3 "_law_last" ["state", "call_v"] spLst _ _ := ⟨ok_lst FLLast cTk, FLLast.kp, gLLast, bLLast⟩
  have cSa : Cal row55.prog w K mg base CX0 4 "_law_same" ["one", "two"] (spSam 4) _ _ := ⟨ok_sam FLSame B gLSame FLSame.kp bLSame 4, FLSame.kp, gLSame, bLSame⟩
  exact ok_law FLaw B cSt cTk cLa cSa cRp cRc cCc
end My
open PySem PySem.W PySem.Calls PyProof.Rows
theorem PySem.Challenge.cw_aliasfold_k55_whole_last_calls_holds : PySem.Challenge.rw_aliasfold_k55_whole_last_calls.Holds := by
  w_on; o_law
  refine HandSHeadRun.head_any (r := OpenLaw.row PySem.Challenge.rw_aliasfold_k55_whole_last_calls) (q := view (OpenLaw.row PySem.Challenge.rw_aliasfold_k55_whole_last_calls).prog [74]) (H := My.hk) (ob := My.ob) (M := 9000) (loose := My.loose) (d := HandSHeadRun.topDef (OpenLaw.row PySem.Challenge.rw_aliasfold_k55_whole_last_calls).prog 74) (kwd := []) My.ob_eq
    (by kernel_rfl) (fun s => by kernel_rfl) My.headRun (by kernel_rfl) (by kernel_rfl) (by kernel_rfl) (by rfl) (by first | assumption | decide +kernel) (by decide +kernel) ⟨rfl, rfl, rfl, rfl, rfl, by decide +kernel⟩ ?hw ?hc
  case hw => w_witness2
  case hc =>
    refine LamX.walk_ofTsE (l := PySem.Challenge.rw_aliasfold_k55_whole_last_calls) (n := 63) (k := 73) (x := "script") (CX := fun _ => L2.CX0) rfl (by decide) (by kernel_rfl) ⟨rfl, by decide, by decide⟩ ?F (fun _ _ _ _ _ z => z)
    intro w mg fa h Y G hmg0
    obtain ⟨K, KX, c⟩ := Y
    have hmg : mg ("law" : PySem.Str) = some (.ref fa) := by
      have e : (HandSHeadRun.topDef (OpenLaw.row PySem.Challenge.rw_aliasfold_k55_whole_last_calls).prog 74).name = ("law" : PySem.Str) := by kernel_rfl
      rw [← e]
      exact hmg0
    exact ⟨K, KX, My.facts c KX G hmg⟩
