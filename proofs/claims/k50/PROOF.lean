import PyProof.Rows.All
import Wide.All
import OpenK.AllK
import Wide.FinOn
import HandS.ForMost
import HandS.ForExc
import HandS.Wide
import HandS.Codes
import HandS.AnyAll
import HandS.StrMore
import HandS.FStr
import HandS.IsInst
import HandS.ExcInit
import HandS.ExcIs
import HandS.ExcField
import HandS.Replace
import HandS.ReplaceLit
import HandS.Flow
import HandS.NoneIn
import HandS.Style
import PySem.Challenge.RW_aliasfold_k50_whole_plain_meaning
import Wide.Once
import HandS.Head0
import HandS.Head1
import HandS.Head2
import HandS.HeadEnd
import HandS.HeadHook1
import HandS.HeadHook2
import HandS.HeadHook3
import HandS.HeadHook4
import HandS.HeadNt
import HandS.HeadWalk
import PyProof.DictUpdate
import HandS.DictComp
import HandS.ExcCtx
import HandS.TryMany
import HandS.More
import HandS.Dict
import HandS.Rev
import HandS.CallLocal
import HandS.WordsDict
import HandS.Deep
import HandS.Star
import HandS.Iter
import HandS.Zip
import PyProof.InstEq
import PyProof.EqKinds
import HandS.Text
import HandS.TryOnly
set_option Elab.async false
set_option linter.all false
set_option maxRecDepth 100000
set_option maxHeartbeats 0
namespace My
open PySem L2

/-! ### heaps -/
def isTbl : HO → Bool
  | .tbl _ => true
  | _ => false
/-- what was tracked stays, but for what X names; tables stay tables; nothing is forgotten -/
structure Sm (X : Addr → Prop) (H H' : Hp) : Prop where
  keep : ∀ b o, ¬ X b → isTbl o = false → H b = some o → H' b = some o
  tab : ∀ P, GxR.TabG H P → GxR.TabG H' P
  dom : ∀ b, H' b = none → H b = none
abbrev No : Addr → Prop := fun _ => False
abbrev Two (S L : Addr) : Addr → Prop := fun b => b = S ∨ b = L
theorem Sm.refl (X : Addr → Prop) (H : Hp) : Sm X H H := ⟨fun _ _ _ _ h => h, fun _ h => h, fun _ h => h⟩
theorem Sm.trans {X : Addr → Prop} {H H1 H2 : Hp} (a : Sm X H H1) (b : Sm X H1 H2) : Sm X H H2 :=
  ⟨fun c o n t h => b.keep c o n t (a.keep c o n t h), fun P h => b.tab P (a.tab P h), fun c h => a.dom c (b.dom c h)⟩
theorem Sm.wide {X Y : Addr → Prop} {H H' : Hp} (a : Sm X H H') (h : ∀ b, X b → Y b) : Sm Y H H' :=
  ⟨fun c o n t q => a.keep c o (fun z => n (h c z)) t q, a.tab, a.dom⟩
theorem Sm.no {Y : Addr → Prop} {H H' : Hp} (a : Sm No H H') : Sm Y H H' := a.wide fun _ z => z.elim
theorem tab_upd {H : Hp} {p : Addr} {o : HO} (h : ∀ ps, H p ≠ some (.tbl ps)) : ∀ P, GxR.TabG H P → GxR.TabG (upd H p o) P := fun P ⟨ps, h1, h2⟩ =>
  ⟨ps, by rw [upd_ne (fun z => h ps (by rw [← z]; exact h1))]; exact h1, h2⟩
theorem upd_dom {H : Hp} {p : Addr} {o : HO} : ∀ b, upd H p o b = none → H b = none := fun b h => by
  by_cases hb : b = p
  · rw [hb, upd_same] at h; cases h
  · rw [upd_ne hb] at h; exact h
theorem Sm.new {X : Addr → Prop} {H : Hp} {p : Addr} {o : HO} (h : H p = none) : Sm X H (upd H p o) :=
  ⟨fun b u _ _ e => by rw [upd_ne (ne_of_none e h)]; exact e, tab_upd (fun ps z => by rw [h] at z; cases z), upd_dom⟩
theorem Sm.set {X : Addr → Prop} {H : Hp} {p : Addr} {o : HO} (h : X p) (ht : ∀ ps, H p ≠ some (.tbl ps)) : Sm X H (upd H p o) :=
  ⟨fun b u n _ e => by rw [upd_ne (fun z => n (by rw [z]; exact h))]; exact e, tab_upd ht, upd_dom⟩
theorem Sm.tabbed {X : Addr → Prop} {H H' : Hp} {P : Addr} (h0 : GxR.TabG H P) (h : GxR.Tabbed P H H') : Sm X H H' := by
  obtain ⟨ht, hk⟩ := h
  refine ⟨fun b o _ n e => ?_, fun Z hz => ?_, fun b h => ?_⟩
  · by_cases hb : b = P
    · obtain ⟨ps, h1, _⟩ := h0
      rw [hb, h1] at e
      cases e
      cases n
    · rw [hk b hb]; exact e
  · by_cases hb : Z = P
    · rw [hb]; exact ht
    · obtain ⟨ps, h1, h2⟩ := hz
      exact ⟨ps, by rw [hk Z hb]; exact h1, h2⟩
  · by_cases hb : b = P
    · obtain ⟨ps, h1, _⟩ := ht
      rw [hb, h1] at h
      cases h
    · rw [← hk b hb]; exact h
theorem Sm.seq {X : Addr → Prop} {K : PySem.W.Frag} {H H' : Hp} {a : Addr} {xs : List V} (e : Sm X H H') (n : ¬ X a) (h : SqL K H a xs) : SqL K H' a xs := by
  rcases h with (h | ⟨o, h⟩) | h
  · exact .inl (.inl (e.keep _ _ n rfl h))
  · exact .inl (.inr ⟨o, e.keep _ _ n rfl h⟩)
  · exact .inr h
theorem Sm.lst {X : Addr → Prop} {H H' : Hp} {a : Addr} {xs : List V} (e : Sm X H H') (n : ¬ X a) (h : H a = some (.lst xs)) : H' a = some (.lst xs) := e.keep _ _ n rfl h
theorem Sm.lst0 {H H' : Hp} {a : Addr} {xs : List V} (e : Sm No H H') (h : H a = some (.lst xs)) : H' a = some (.lst xs) := e.keep _ _ (fun z => z) rfl h
/-- what H did not know may change -/
theorem Sm.mut {X : Addr → Prop} {H H' : Hp} {p : Addr} {o : HO} (e : Sm X H H') (h : H p = none) (ht : ∀ ps, H' p ≠ some (.tbl ps)) : Sm X H (upd H' p o) :=
  ⟨fun b u n t q => by rw [upd_ne (ne_of_none q h)]; exact e.keep b u n t q, fun P h => tab_upd ht P (e.tab P h), fun b q => e.dom b (upd_dom b q)⟩
theorem ntbl_l {H : Hp} {a : Addr} {xs : List V} (h : H a = some (.lst xs)) : ∀ ps, H a ≠ some (.tbl ps) := fun ps z => by rw [h] at z; cases z

/-! ### the state of the draws -/
/-- at S: the rest of the script, at L, and what is left of the cell -/
def LS (H : Hp) (S L : Addr) : Prop := ∃ (cs : List Int) (d : Int), H S = some (.lst [.ref L, .int d]) ∧ H L = some (.lst (cs.map V.int)) ∧ 0 ≤ d ∧ cs.length ≤ 63
theorem LS.ne {H : Hp} {S L : Addr} (h : LS H S L) : S ≠ L := by
  obtain ⟨cs, d, h1, h2, _⟩ := h
  refine ne_of h1 h2 fun z => ?_
  cases cs with
  | nil => cases z
  | cons c r => cases z
theorem LS.sm {H H' : Hp} {S L : Addr} (h : LS H S L) (e : Sm No H H') : LS H' S L := by
  obtain ⟨cs, d, h1, h2, h3⟩ := h
  exact ⟨cs, d, e.lst0 h1, e.lst0 h2, h3⟩
theorem LS.some {H : Hp} {S L : Addr} (h : LS H S L) : H S ≠ none ∧ H L ≠ none := by
  obtain ⟨cs, d, h1, h2, h3⟩ := h
  exact ⟨by rw [h1]; simp, by rw [h2]; simp⟩
/-! ### the draws, as functions -/
def spMixed : Sp := fun vs H Q _ => ∃ c : Int, vs = [.int c] ∧ ∀ n : Int, 0 ≤ n → Q (.int n) H
def spTake : Sp := fun vs H Q _ => ∃ (S L : Addr) (n : Int), vs = [.ref S, .int n] ∧ LS H S L ∧ 0 < n ∧ n.natAbs < 2 ^ 8000 ∧
  ∀ (g : Int) (H' : Hp), 0 ≤ g → g < n → LS H' S L → Sm (Two S L) H H' → Q (.int g) H'
def spState (K : PySem.W.Frag) : Sp := fun vs H Q _ => ∃ (a : Addr) (ns : List Int), vs = [.ref a] ∧ SqL K H a (ns.map V.int) ∧ ns.length ≤ 63 ∧
  ∀ (S L : Addr) (H' : Hp), H S = none → H L = none → LS H' S L → Sm No H H' → Q (.ref S) H'
end My
namespace My
open PySem L2
def top (i : Nat) : Stmt := PySem.Challenge.pw_aliasfold_k50_whole_plain_meaning.main.body.getD i (.Pass ⟨0, 0, 0, 0⟩)
abbrev sMixed : Stmt := top 39
abbrev sTake : Stmt := top 40
abbrev sState : Stmt := top 41
/-- names of builtins that no module name hides -/
structure Blt (mg : Str → Option Value) : Prop where
  int : mg "int" = none
  abs : mg "abs" = none
  len : mg "len" = none
  range : mg "range" = none
  str : mg "str" = none
  isinstance : mg "isinstance" = none
  all : mg "all" = none
  list : mg "list" = none
  tuple : mg "tuple" = none
  bool : mg "bool" = none
section
variable {P : Program} {w : World} {K : PySem.W.Frag} {mg : Str → Option Value} {base : Heap}
theorem scMixed : FnScope ["cell", "seed", "number", "k"] ["cell"] (defScope sMixed) := ⟨rfl, rfl, rfl, by decide +kernel, rfl, by decide +kernel, by decide +kernel⟩
theorem ok_mixed {f : Addr} {fd : FuncData} (F : Fun K "_law_mixed" "_law_mixed" sMixed f fd) (B : Blt mg) : FnOk P w K mg base CX0 1 f fd ["cell"] spMixed := by
  refine F.ok scMixed (fun vs H Q E h => ?_) (fun cdv A outer s H vs Q E hr h => ?_)
  · obtain ⟨c, rfl, _⟩ := h
    rfl
  obtain ⟨c, rfl, q⟩ := h
  have M : (0 : Int) < 1000000007 := by decide
  refine ⟨_, pss_cons (ps_set (i := 1) scMixed.nd rfl (Or.inl rfl) (pe_op op_mod (pe_callTy call_int1 (by rfl) B.int (by decide +kernel) (pa_cons (pv 0) pa_nil)) pe_int))
    (pss_cons (ps_set (i := 2) scMixed.nd rfl (Or.inl rfl) pe_int)
    (pss_cons (ps_for PassesOwn.never rfl (pi_range1 (by rfl) B.range (pa_cons pe_int pa_nil)) (pg_name (i := 3) scMixed.nd rfl (Or.inl rfl))
      (pss_cons (ps_set (i := 1) scMixed.nd rfl (Or.inl rfl) (pe_op op_mod (pe_callTy call_int1 (by rfl) B.int (by decide +kernel)
          (pa_cons (pe_op op_add (pe_op op_add (pe_op op_mul (pv 1) pe_int) pe_int) (pe_op op_mul pe_int (pv 3))) pa_nil)) pe_int))
      (pss_one (ps_set (i := 2) scMixed.nd rfl (Or.inl rfl) (pe_op op_add (pe_op op_mul (pv 2) pe_int) (pv 1))))))
    (pss_one (ps_ret (pv 2))))), ?_⟩
  refine ⟨_, rfl, .inl ⟨_, rfl, _, _, rfl, rfl, M, ?_⟩⟩
  refine ⟨6, rfl, by decide, by decide, for_range (n := 6) (fun i σ H' => ∃ (sd nb : Int) (v : Option V), σ = [some (.int c), some (.int sd), some (.int nb), v] ∧ 0 ≤ nb ∧ H' = H)
    ⟨_, 0, none, rfl, by omega, rfl⟩ ?_ ?_⟩
  · rintro i σ H' hi ⟨sd, nb, v, rfl, h0, rfl⟩
    refine ⟨_, rfl, _, _, rfl, rfl, .inr ⟨by decide, by decide⟩, _, _, rfl, rfl, _, rfl, _, _, rfl, rfl, .inl ⟨by decide, by decide⟩, _, _, rfl, rfl, .inl ⟨_, rfl, _, _, rfl, rfl, M, ?_⟩⟩
    refine ⟨_, rfl, _, _, rfl, rfl, .inr ⟨by decide, by decide⟩, _, rfl, _, _, rfl, rfl, _, _, _, rfl, ?_, rfl⟩
    have := Int.emod_nonneg (sd * 48271 + 12820163 + 7 * (0 + (i : Int))) (b := 1000000007) (by decide)
    omega
  · rintro σ H' ⟨sd, nb, v, rfl, h0, rfl⟩
    exact ⟨_, rfl, q nb h0⟩
end
end My
namespace My
open PySem PySem.Spec PyProof.Rows L2 He
abbrev dd (i : Nat) (x : Str) : DefD := ⟨(x, none), x, x, defArgs (top i), defBody (top i), defScope (top i), [], []⟩
abbrev dc (i j : Nat) (x m q : Str) : DefD := ⟨(x, some m), m, q, defArgs (inClass (top i) j), defBody (inClass (top i) j), defScope (inClass (top i) j), [], []⟩
def fnK : List DefD := [dc 7 0 "Pair" "__init__" "Pair.__init__", dc 8 0 "Function" "__init__" "Function.__init__", dc 9 0 "Primitive" "__init__" "Primitive.__init__", dc 10 0 "Showing" "__init__" "Showing.__init__", dc 10 1 "Showing" "show" "Showing.show", dc 14 0 "Ended" "__init__" "Ended.__init__",
  dc 15 0 "Run" "__init__" "Run.__init__", dc 15 1 "Run" "count_step" "Run.count_step", dc 15 2 "Run" "definition" "Run.definition", dc 15 3 "Run" "carry_out_program" "Run.carry_out_program", dc 36 0 "PlainRun" "__init__" "PlainRun.__init__", dc 36 1 "PlainRun" "carry_out" "PlainRun.carry_out",
  dd 3 "bound_numbers", dd 11 "shown", dd 16 "take_last", dd 17 "check_call", dd 18 "half", dd 19 "reckon",
  dd 20 "call_primitive", dd 22 "with_variables", dd 23 "begin_int", dd 24 "begin_local", dd 25 "begin_global", dd 26 "begin_prim",
  dd 27 "begin_fn", dd 28 "begin_let", dd 29 "end_let", dd 30 "begin_if", dd 31 "end_if", dd 32 "begin_call",
  dd 33 "end_call", dd 35 "begin", dd 37 "run_plain", dd 39 "_law_mixed", dd 40 "_law_take", dd 41 "_law_state",
  dd 42 "_law_same", dd 43 "_law_locals", dd 44 "_law_numbers", dd 45 "_law_small", dd 46 "_law_function", dd 47 "_law_strange",
  dd 48 "_law_let", dd 49 "_law_part", dd 50 "_law_program", dd 51 "_law_prim", dd 52 "_law_with", dd 53 "_law_all",
  dd 54 "_law_call", dd 55 "_law_run", dd 56 "_law_shown", dd 57 "_law_due", dd 58 "law"]
def faK : List Fa := [.glo "FoldError", .glo "Pair", .glo "Function", .glo "Primitive", .glo "Showing", .glo "Ended",
  .glo "Run", .glo "PlainRun", .glo "bound_numbers", .glo "shown", .glo "take_last", .glo "check_call",
  .glo "half", .glo "reckon", .glo "call_primitive", .glo "with_variables", .glo "begin_int", .glo "begin_local",
  .glo "begin_global", .glo "begin_prim", .glo "begin_fn", .glo "begin_let", .glo "end_let", .glo "begin_if",
  .glo "end_if", .glo "begin_call", .glo "end_call", .glo "begin", .glo "run_plain", .glo "_law_mixed",
  .glo "_law_take", .glo "_law_state", .glo "_law_same", .glo "_law_locals", .glo "_law_numbers", .glo "_law_small",
  .glo "_law_function", .glo "_law_strange", .glo "_law_let", .glo "_law_part", .glo "_law_program", .glo "_law_prim",
  .glo "_law_with", .glo "_law_all", .glo "_law_call", .glo "_law_run", .glo "_law_shown", .glo "_law_due",
  .glo "law", .cls "Pair", .mkr "Pair", .noat "Pair" "first", .noat "Pair" "second", .cls "Function",
  .mkr "Function", .noat "Function" "parameters", .noat "Function" "body", .noat "Function" "kept", .cls "Primitive", .mkr "Primitive",
  .noat "Primitive" "parameters", .noat "Primitive" "name", .cls "Showing", .mkr "Showing", .noat "Showing" "pairs", .cls "PlainRun",
  .mkr "PlainRun", .noat "PlainRun" "most", .noat "PlainRun" "steps", .noat "PlainRun" "defined", .noat "PlainRun" "todo", .noat "PlainRun" "results",
  .meth "Showing" "show", .meth "PlainRun" "carry_out", .exm "Ended" "Ended" true, .int "GREATEST_RESULT" 1000000000000000000000000000000000000000000000000000000000000, .glo "BEGINNINGS", .int "MOST_PAIRS" 300,
  .int "MOST_AROUND" 59, .free "ValueError", .free "abs", .free "all", .free "bool", .free "dict",
  .free "enumerate", .free "int", .free "isinstance", .free "len", .free "list", .free "max",
  .free "range", .free "reversed", .free "sorted", .free "str", .free "tuple", .free "zip"]
def tfK : List Defn := [("call_primitive", none)]
def tsK : List Tab := [(fun K => ga K "BEGINNINGS", ["int", "local", "global", "prim", "fn", "let", "if", "call"])]
/-- an exception's class over own ones and ValueError -/
def excB (K : PySem.W.Frag) (C : Addr) : Bool := match K.lookup C with
  | some ⟨.type "type", _, .cls cd, sl⟩ => (match cd.mro, sl.toList with
    | .ref C' :: bm, [_, _, _, _, some (.builtin n), _] => C' == C && (n == "ValueError.__new__" && (!cd.hasDel && (cd.hasDict && PySem.HandSPX.refsVE bm)))
    | _, _ => false)
  | _ => false
/-- all that is asked of one exception class with fields at -/
def excAll (K : PySem.W.Frag) (x : Str) : Bool :=
  excB K (ga K x) && (eqO (PySem.W.findIn K (.ref (ga K x)) "__setattr__") (some (some (.builtin "object.__setattr__"))) &&
  (decide (PySem.W.subIn K (.ref (ga K x)) (.type "BaseException") = some true) && (decide (PySem.W.typeIn K (.ref (ga K x)) = some (.type "type")) && (PySem.W.keepIn K (.ref (ga K x)) &&
  (eqO (PySem.W.findIn K (.ref (ga K x)) "__getattribute__") (some (some (.builtin "BaseException.__getattribute__"))) && (eqO (PySem.W.findIn K (.ref (ga K x)) "__getattr__") (some none) &&
  (PySem.W.hasDictIn K (ga K x) && (eqO (PySem.W.findIn K (.ref (ga K x)) "__class__") (some (some (.builtin "object.__class__"))) && (decide (PySem.W.mroIn K (ga K x) (.type "object") = some true) &&
  eqO (PySem.W.findIn K (.ref (ga K x)) "outcome") (some none))))))))))
def iniB (K : PySem.W.Frag) (x : Str) : Bool := eqO (PySem.W.findIn K (.ref (ga K x)) "__init__") (some (some (.ref (ma K (ga K x) "__init__")))) && decide (PySem.W.typeIn K (.ref (ma K (ga K x) "__init__")) = some (.type "function"))
def valB (r : Option PySem.W.CFound) (n : String) : Bool := match r with
  | some (.val (.builtin m)) => m == n
  | _ => false
theorem valB_ok {r : Option PySem.W.CFound} {n : String} (h : valB r n = true) : r = some (.val (.builtin n)) := by
  unfold valB at h
  split at h
  · rw [eq_of_beq h]
  · cases h
def refB (r : Option PySem.W.CFound) (f : Addr) : Bool := match r with
  | some (.val (.ref g)) => g == f
  | _ => false
theorem refB_ok {r : Option PySem.W.CFound} {f : Addr} (h : refB r f = true) : r = some (.val (.ref f)) := by
  unfold refB at h
  split at h
  · rw [eq_of_beq h]
  · cases h
def methI (K : PySem.W.Frag) (x y m : Str) : Bool := eqO (PySem.W.findIn K (.ref (ga K x)) m) (some (some (.ref (ma K (ga K y) m)))) && (PySem.W.isFn K (.ref (ma K (ga K y) m)) && PySem.W.keepIn K (.ref (ma K (ga K y) m)))
theorem methI_ok {K : PySem.W.Frag} {x y m : Str} (h : methI K x y m = true) : Meth K (ga K x) m (ma K (ga K y) m) := by
  obtain ⟨a, h⟩ := ba h
  obtain ⟨b, c⟩ := ba h
  exact ⟨eqO_ok a, b, c⟩
def exL (K : PySem.W.Frag) : List Bool := [excAll K "Ended",
  iniB K "Ended",
  eqO (PySem.W.specialIn K (.builtin "object.__class__") "__get__") (some (some (.builtin "getset_descriptor.__get__"))),
  decide (PySem.W.takesIn K (.builtin "object.__class__") = some true),
  PySem.W.readsIn K (ga K "FoldError") (.type "type"),
  eqO (PySem.W.specialIn K (.ref (ga K "FoldError")) "__getattribute__") (some (some (.builtin "type.__getattribute__"))),
  valB (PySem.W.findCls K (.ref (ga K "FoldError")) (.type "type") "__init__") "ValueError.__init__",
  eqO (PySem.W.findIn K (.ref (ga K "Pair")) "__class__") (some (some (.builtin "object.__class__"))),
  decide (PySem.W.mroIn K (ga K "Pair") (.type "object") = some true),
  eqO (PySem.W.findIn K (.ref (ga K "Function")) "__class__") (some (some (.builtin "object.__class__"))),
  decide (PySem.W.mroIn K (ga K "Function") (.type "object") = some true),
  eqO (PySem.W.findIn K (.ref (ga K "Primitive")) "__class__") (some (some (.builtin "object.__class__"))),
  decide (PySem.W.mroIn K (ga K "Primitive") (.type "object") = some true),
  eqO (PySem.W.findIn K (.ref (ga K "Pair")) "__eq__") (some (some (.builtin "object.__eq__"))),
  decide (PySem.W.subIn K (.type "int") (.ref (ga K "Pair")) = some false),
  decide (PySem.W.subIn K (.ref (ga K "Pair")) (.type "int") = some false),
  eqO (PySem.W.findIn K (.ref (ga K "Function")) "__eq__") (some (some (.builtin "object.__eq__"))),
  decide (PySem.W.subIn K (.type "int") (.ref (ga K "Function")) = some false),
  decide (PySem.W.subIn K (.ref (ga K "Function")) (.type "int") = some false),
  eqO (PySem.W.findIn K (.ref (ga K "Primitive")) "__eq__") (some (some (.builtin "object.__eq__"))),
  decide (PySem.W.subIn K (.type "int") (.ref (ga K "Primitive")) = some false),
  decide (PySem.W.subIn K (.ref (ga K "Primitive")) (.type "int") = some false),
  decide (PySem.W.kitOne K (.type "int") (.ref (ga K "Pair")) = some false),
  decide (PySem.W.kitOne K (.type "int") (.ref (ga K "Function")) = some false),
  decide (PySem.W.kitOne K (.type "int") (.ref (ga K "Primitive")) = some false),
  decide (PySem.W.kitOne K (.ref (ga K "Pair")) (.type "int") = some false),
  decide (PySem.W.kitOne K (.ref (ga K "Function")) (.type "int") = some false),
  decide (PySem.W.kitOne K (.ref (ga K "Primitive")) (.type "int") = some false),
  decide (PySem.W.kitOne K (.ref (ga K "Pair")) (.ref (ga K "Pair")) = some true),
  decide (PySem.W.kitOne K (.ref (ga K "Pair")) (.ref (ga K "Function")) = some false),
  decide (PySem.W.kitOne K (.ref (ga K "Pair")) (.ref (ga K "Primitive")) = some false),
  decide (PySem.W.kitOne K (.ref (ga K "Function")) (.ref (ga K "Pair")) = some false),
  decide (PySem.W.kitOne K (.ref (ga K "Function")) (.ref (ga K "Function")) = some true),
  decide (PySem.W.kitOne K (.ref (ga K "Function")) (.ref (ga K "Primitive")) = some false),
  decide (PySem.W.kitOne K (.ref (ga K "Primitive")) (.ref (ga K "Pair")) = some false),
  decide (PySem.W.kitOne K (.ref (ga K "Primitive")) (.ref (ga K "Function")) = some false),
  decide (PySem.W.kitOne K (.ref (ga K "Primitive")) (.ref (ga K "Primitive")) = some true),
  PySem.W.readsIn K (ga K "Run") (.type "type"),
  eqO (PySem.W.specialIn K (.ref (ga K "Run")) "__getattribute__") (some (some (.builtin "type.__getattribute__"))),
  refB (PySem.W.findCls K (.ref (ga K "Run")) (.type "type") "__init__") (ma K (ga K "Run") "__init__"),
  methI K "PlainRun" "Run" "count_step",
  methI K "PlainRun" "Run" "carry_out_program",
  methI K "PlainRun" "Run" "definition",
  eqO (PySem.W.nsIn K (ga K "BEGINNINGS") "int") (some (some (.ref (ga K "begin_int")))),
  eqO (PySem.W.nsIn K (ga K "BEGINNINGS") "local") (some (some (.ref (ga K "begin_local")))),
  eqO (PySem.W.nsIn K (ga K "BEGINNINGS") "global") (some (some (.ref (ga K "begin_global")))),
  eqO (PySem.W.nsIn K (ga K "BEGINNINGS") "prim") (some (some (.ref (ga K "begin_prim")))),
  eqO (PySem.W.nsIn K (ga K "BEGINNINGS") "fn") (some (some (.ref (ga K "begin_fn")))),
  eqO (PySem.W.nsIn K (ga K "BEGINNINGS") "let") (some (some (.ref (ga K "begin_let")))),
  eqO (PySem.W.nsIn K (ga K "BEGINNINGS") "if") (some (some (.ref (ga K "begin_if")))),
  eqO (PySem.W.nsIn K (ga K "BEGINNINGS") "call") (some (some (.ref (ga K "begin_call"))))]
def exK (K : PySem.W.Frag) : Bool := (exL K).all fun b => b
theorem ex_at {K : PySem.W.Frag} {b : Bool} (h : exK K = true) (i : Nat) (e : (exL K)[i]? = some b) : b = true := List.all_eq_true.mp h b (List.mem_of_getElem? e)
theorem mem_at {α : Type} {l : List α} {x : α} (i : Nat) (e : l[i]? = some x) : x ∈ l := List.mem_of_getElem? e
/-! ### the hook: what the module's names reach, and the statics -/
def reach (g : Addr → Option Obj) : List Addr := He.asD g 4 ++ [cStatics]
theorem says_of {fa : List Fa} {fn : List DefD} {ts : List Tab} {tf : List Defn} {ex : PySem.W.Frag → Bool} {w : World} {h : Heap} {as : List Addr} (e1 : obsT fa fn ts (frT h.get? as) = valT fn ts w)
    (e2 : (ex (frT h.get? as) && tabsB h.get? tf (frT h.get? as)) = true) : SaysX fa fn ts tf ex w h (frT h.get? as) := by
  obtain ⟨x1, x2⟩ := ba e2
  have key : ∀ p ∈ tf, PySem.W.codeHdIn (frT h.get? as) (cT (frT h.get? as) p).1 (cT (frT h.get? as) p).2 = true ∧ ∃ o, h.get? (cT (frT h.get? as) p).2 = some o ∧ emptyTab o = true := by
    intro p hp
    obtain ⟨y1, y2⟩ := ba (List.all_eq_true.mp x2 p hp)
    cases q : h.get? (cT (frT h.get? as) p).2 with
    | none => rw [q] at y2; cases y2
    | some o => rw [q] at y2; exact ⟨y1, o, rfl, y2⟩
  refine ⟨e1, x1, fun p hp => (key p hp).1, fun p hp => ?_, fun p hp => ?_⟩
  · obtain ⟨_, o, q, z⟩ := key p hp
    exact frT_none q z
  · obtain ⟨_, o, q, z⟩ := key p hp
    rw [q, emptyTab_eq z]
abbrev AlY : Type := AlT × Bool
def obsY (fa : List Fa) (fn : List DefD) (tf : List Defn) (ex : PySem.W.Frag → Bool) (g : Addr → Option Obj) : AlY := (obsT fa fn tsK (frT g (reach g)), ex (frT g (reach g)) && tabsB g tf (frT g (reach g)))
def hookY (fa : List Fa) (fn : List DefD) (tf : List Defn) (ex : PySem.W.Frag → Bool) : PySem.W.Hook where
  α := AlY
  obs := fun s => obsY fa fn tf ex s.heap.get?
  val := fun w => (valT fn tsK w, true)
  says := fun w h => ∃ K : PySem.W.Frag, K.In h ∧ SaysX fa fn tsK tf ex w h K
  of := fun _ _ e => ⟨_, frT_in, says_of (congrArg (fun z : AlY => z.1) e) (congrArg (fun z : AlY => z.2) e)⟩
  keeps := fun _ _ _ ⟨K, hK, c⟩ k => ⟨K, PySem.W.Frag.In.keeps hK k, ⟨c.t, c.more, c.hd, c.out, fun p hp => k _ _ (c.empty p hp)⟩⟩
abbrev R : PySem.W.OpenRow := PySem.W.OpenLaw.row PySem.Challenge.rw_aliasfold_k50_whole_plain_meaning
abbrev hk : PySem.W.Hook := hookY faK fnK tfK exK
def ob (s : PySem.W.SharedT) : AlY := obsY faK fnK tfK exK (HandSHeadRun.getT s)
theorem ob_eq (s : PySem.W.SharedT) : ob s = hk.obs s.abs := by
  have e : HandSHeadRun.getT s = s.abs.heap.get? := funext (HandSHeadRun.getT_eq s)
  unfold ob
  rw [e] <;> rfl
def loose : List Str := [("FoldError" : Str), ("Pair" : Str), ("Function" : Str), ("Primitive" : Str), ("Showing" : Str), ("Ended" : Str),
  ("Run" : Str), ("PlainRun" : Str), ("MOST_PAIRS" : Str), ("MOST_AROUND" : Str), ("GREATEST_RESULT" : Str), ("BEGINNINGS" : Str),
  ("bound_numbers" : Str), ("shown" : Str), ("take_last" : Str), ("check_call" : Str), ("half" : Str), ("reckon" : Str),
  ("call_primitive" : Str), ("with_variables" : Str), ("begin_int" : Str), ("begin_local" : Str), ("begin_global" : Str), ("begin_prim" : Str),
  ("begin_fn" : Str), ("begin_let" : Str), ("end_let" : Str), ("begin_if" : Str), ("end_if" : Str), ("begin_call" : Str),
  ("end_call" : Str), ("begin" : Str), ("run_plain" : Str), ("_law_mixed" : Str), ("_law_take" : Str), ("_law_state" : Str),
  ("_law_same" : Str), ("_law_locals" : Str), ("_law_numbers" : Str), ("_law_small" : Str), ("_law_function" : Str), ("_law_strange" : Str),
  ("_law_let" : Str), ("_law_part" : Str), ("_law_program" : Str), ("_law_prim" : Str), ("_law_with" : Str), ("_law_all" : Str),
  ("_law_call" : Str), ("_law_run" : Str), ("_law_shown" : Str), ("_law_due" : Str)]
theorem headRunF (w : World) : HandSHeadRun.RunEq R (PySem.W.view R.prog [58]) hk ob 9000 loose (w.withFollow "special-get-raises" false) := by
  intro os
  kernel_rfl
theorem headRunT (w : World) : HandSHeadRun.RunEq R (PySem.W.view R.prog [58]) hk ob 9000 loose (w.withFollow "special-get-raises" true) := by
  intro os
  kernel_rfl
theorem headRun (w : World) : HandSHeadRun.RunEq R (PySem.W.view R.prog [58]) hk ob 9000 loose w := PySem.W.byRow2 "special-get-raises" (P := fun w => HandSHeadRun.RunEq R (PySem.W.view R.prog [58]) hk ob 9000 loose w) headRunF headRunT w
end My
namespace My
open PySem PySem.Spec PyProof.Rows L2
/-! ### {**a, **b} -/
section
variable {prog : Program} {w : World} {Kk : Type} [DecidableEq Kk] {knd : KeyKind prog w Kk} {A : Around} {E : Value → Shared → Prop} {s : Shared}
theorem wpAny_dictPut_pairs {d : Addr} {kvs : List (Kk × Value)} {k : Kk} {key v : Value} {Q : Unit → Shared → Prop} (hkey : knd.is k key = true) (hm : s.heap.DictOf knd d kvs)
    (hQ : ∀ h', h'.DictOf knd d (stored kvs k v) → Heap.SameBut d s.heap h' → Q () { s with heap := h' })
    (hsz : kvs.length ≤ sizeLine) : wpAny (model prog w) A (dictPut d (knd.hash k) key v) Q E s := by
  obtain ⟨o, es, ep, ho, hc, hd, hk, hp, hn⟩ := hm
  have hes : es.size ≤ sizeLine := by have e1 := hp.length; have e2 : es.toList.length = es.size := by simp
                                      omega
  unfold dictPut
  refine wpAny_bind (wpAny_dictFind_of hkey ho hd hk ?_)
  have hidx : (es.findIdx? fun e => knd.is k e.key) = kvs.findIdx? fun kv => decide (kv.1 = k) := by
    rw [← hp.findIdx k]; obtain ⟨l⟩ := es; simp
  cases hi : es.findIdx? fun e => knd.is k e.key with
  | some i =>
    refine wpAny_updateDict ho hd (hQ _ ⟨_, _, ep, Heap.get?_update_self _ ho (Obj.isFreed_of_dict (Obj.data_mapDict hd _)),
      hc.mapDict _, Obj.data_mapDict hd _, hk.modify _ _, ?_, ?_⟩ (Heap.SameBut.update ..))
    · rw [stored, if_pos (any_of_findIdx_some (hidx ▸ hi))]
      have hl : (es.toList.findIdx? fun e => knd.is k e.key) = some i := by rw [← hi]; obtain ⟨l⟩ := es; simp
      have := hp.modify hn hl v
      obtain ⟨l⟩ := es
      simpa using this
    · rw [stored, if_pos (any_of_findIdx_some (hidx ▸ hi)), keys_map_store]; exact hn
  | none =>
    have hnot : k ∉ kvs.map (·.1) := not_mem_of_findIdx_none (hidx ▸ hi)
    have hany : ¬ (kvs.any fun kv => decide (kv.1 = k)) = true := by
      rw [List.any_eq_true]; rintro ⟨kv, hkv, he⟩
      exact hnot (List.mem_map.mpr ⟨kv, hkv, of_decide_eq_true he⟩)
    refine wpAny_updateDictKeys (hz := hes) ho hd (hQ _ ⟨_, _, ep + 1, Heap.get?_update_self _ ho (Obj.isFreed_of_dict (Obj.data_mapDictKeys hd _)),
      hc.mapDictKeys _, Obj.data_mapDictKeys hd _, hk.push hkey _, ?_, ?_⟩ (Heap.SameBut.update ..))
    · rw [stored, if_neg hany]
      have := hp.append hkey (knd.hash k) v
      obtain ⟨l⟩ := es
      simpa using this
    · rw [stored, if_neg hany, List.map_append, List.nodup_append]
      refine ⟨hn, by simp, ?_⟩
      intro a ha b hb
      simp only [List.map_cons, List.map_nil, List.mem_singleton] at hb
      subst hb
      exact fun e => hnot (e ▸ ha)
theorem wpAny_mergeMapping {d o : Addr} {kvs more : List (Kk × Value)} {Q : Unit → Shared → Prop} (hdo : d ≠ o) (hoS : (o == sysModules) = false)
    (hd : s.heap.DictOf knd d kvs) (ho : s.heap.DictOf knd o more)
    (hQ : ∀ h', h'.DictOf knd d (merged kvs more) → h'.DictOf knd o more → Heap.SameBut d s.heap h' → Q () { s with heap := h' })
    (hsz : kvs.length + more.length ≤ sizeLine) :
    wpAny (model prog w) A (mergeMapping d (.ref o) false) Q E s := by
  obtain ⟨od, esd, epd, hod, hcd, hdd, hkd, hpd, hnd⟩ := id hd
  obtain ⟨oo, eso, epo, hoo, hco, hdo', hko, hpo, hno⟩ := id ho
  have hlen : more.length = eso.size := by rw [← hpo.length]; simp
  unfold mergeMapping
  refine wpAny_bind (wpAny_isInstance (U := "dict") (b := true) ho.typeIs (by kernel_rfl) ?_)
  dsimp only
  rw [if_pos rfl]
  refine wpAny_bind (wpAny_specialOf ho.typeIs PySem.F.slot_dict_iter.lookup ?_)
  rw [show (some (Value.builtin "dict.__iter__") == some (Value.builtin "dict.__iter__")) = true from by decide +kernel]
  refine wpAny_bind (wpAny_pure ?_)
  dsimp only
  rw [if_neg (by rw [hoS]; exact Bool.false_ne_true)]
  refine wpAny_bind (wpAny_dictEntries hod hdd ?_)
  have loop : wpAny (model prog w) A (do
      let l ← dictEntries o
      let epoch ← dictEpoch o
      forIn (List.range l.size) PUnit.unit fun i (_ : PUnit) => (do
          let l' ← dictEntries o
          match l'[i]? with
            | some e => do
              holding [e.key, e.val] (dictPut d e.hash e.key e.val)
              let ep' ← dictEpoch o
              if (ep' != epoch) = true then do
                  (unsupported "dict.changed-during-merge" : Sem PUnit)
                  pure (ForInStep.yield PUnit.unit)
                else pure (ForInStep.yield PUnit.unit)
            | _ => do
              (unsupported "dict.changed-during-merge" : Sem PUnit)
              pure (ForInStep.yield PUnit.unit) : Sem (ForInStep PUnit))
      pure ()) Q E s := by
    refine wpAny_bind (wpAny_dictEntries hoo hdo' ?_)
    refine wpAny_bind (wpAny_dictEpoch hoo hdo' ?_)
    refine wpAny_bind ?_
    rw [List.range_eq_range']
    refine wpAny_forIn_list _
      (fun rest _ s' => ∃ h' i, s' = { s with heap := h' } ∧ rest = List.range' i (eso.size - i) ∧ i ≤ eso.size ∧ h'.DictOf knd d (merged kvs (more.take i)) ∧ h'.get? o = some oo ∧ Heap.SameBut d s.heap h')
      _ ?_ ?_ _ _ ⟨s.heap, 0, rfl, by simp, Nat.zero_le _, by simpa [merged] using hd, hoo, Heap.SameBut.refl _ _⟩
    · rintro x rest b s' ⟨h', i, rfl, hr, hi, hd', hoo', hs'⟩
      have hlt : i < eso.size := by
        rcases Nat.lt_or_ge i eso.size with h | h
        · exact h
        · rw [Nat.sub_eq_zero_of_le h] at hr; simp at hr
      obtain ⟨rfl, hrest⟩ : x = i ∧ rest = List.range' (i + 1) (eso.size - (i + 1)) := by
        have e : eso.size - i = (eso.size - (i + 1)) + 1 := by omega
        rw [e, List.range'_succ] at hr
        injection hr with h1 h2
        exact ⟨h1, h2⟩
      refine wpAny_bind (wpAny_dictEntries hoo' hdo' ?_)
      rw [Array.getElem?_eq_getElem hlt]
      obtain ⟨kv, hkv⟩ : ∃ kv, more[x]? = some kv := ⟨more[x]'(by rw [hlen]; exact hlt), List.getElem?_eq_getElem _⟩
      obtain ⟨k, v⟩ := kv
      obtain ⟨hkey, hval⟩ := hpo.get? (e := eso[x]) (by simp [hlt]) hkv
      obtain ⟨k', hkey', hhash⟩ := hko eso[x] (Array.getElem_mem hlt)
      obtain rfl : k' = k := knd.inj _ _ _ hkey' hkey
      show wpAny _ _ (holding [eso[x].key, eso[x].val] (dictPut d eso[x].hash eso[x].key eso[x].val) >>= _) _ _ _
      rw [hhash, hval]
      have hmx : (merged kvs (more.take x)).length ≤ sizeLine := by
        have e1 := merged_length_le kvs (more.take x)
        have e2 : (more.take x).length ≤ more.length := by rw [List.length_take]; omega
        omega
      refine wpAny_bind (wpAny_holding (wpAny_dictPut_pairs (hsz := hmx) hkey hd' fun h'' hd'' hs'' => ?_))
      have hoo'' : h''.get? o = some oo := (hs''.2 o (Ne.symm hdo)).trans hoo'
      refine wpAny_bind (wpAny_dictEpoch hoo'' hdo' ?_)
      rw [if_neg (by simp)]
      exact wpAny_pure ⟨h'', x + 1, rfl, hrest, hlt, by rw [merged_take_succ kvs more x (k', v) hkv]; exact hd'', hoo'', hs'.trans hs''⟩
    · rintro b s' ⟨h', i, rfl, hr, hi, hd', hoo', hs'⟩
      have hin : i = eso.size := by
        rcases Nat.lt_or_ge i eso.size with h | h
        · have e : eso.size - i = (eso.size - (i + 1)) + 1 := by omega
          rw [e, List.range'_succ] at hr; exact nomatch hr
        · exact Nat.le_antisymm hi h
      refine wpAny_pure (hQ h' ?_ ⟨oo, eso, epo, hoo', hco, hdo', hko, hpo, hno⟩ hs')
      rw [hin, ← hlen, List.take_length] at hd'; exact hd'
  split
  · refine wpAny_bind (wpAny_dictEntries hoo hdo' ?_)
    refine wpAny_bind ?_
    rw [← Array.forIn_toList]
    refine wpAny_of_eq (a := PUnit.unit) (forIn_yield_id _ fun e he c => ?_) ?_
    · obtain ⟨k, hkey, _⟩ := hko e (Array.mem_toList_iff.mp he)
      have bv := knd.byValue k _ hkey
      split
      · rename_i heq
        rw [heq] at bv
        cases bv
      · rfl
    · exact loop
  · exact loop
end
end My
namespace My
open PySem PySem.Spec PyProof.Rows L2
section
variable {X : Cx}
def tMrg (ta tb : TE) : TE := fun σ H Q => ∀ d, H d = none → ta σ (upd H d (.dK [])) fun x H1 => ∃ a ks, x = .ref a ∧ a ≠ d ∧ H1 a = some (.dK ks) ∧ H1 d = some (.dK []) ∧
  tb σ (upd H1 d (.dK (mergeK [] ks))) fun y H2 => ∃ b ls ks1, y = .ref b ∧ b ≠ d ∧ H2 b = some (.dK ls) ∧ H2 d = some (.dK ks1) ∧ ks1.length + ls.length ≤ sizeLine ∧ Q (.ref d) (upd H2 d (.dK (mergeK ks1 ls)))
/-- one dict put into another -/
theorem merge_run {pins : List (Addr × Obj)} {σ : L2.St} {H : Hp} {s : Shared} {A : Around} {E : Value → Shared → Prop} {Q : Unit → Shared → Prop} {d a : Addr} {ks ls : List (Key × V)} (I : Inv X pins σ H s) (had : a ≠ d) (hd : H d = some (.dK ks)) (ha : H a = some (.dK ls))
    (hz : ks.length + ls.length ≤ sizeLine) (q : ∀ s', Inv X pins σ (upd H d (.dK (mergeK ks ls))) s' → Q () s') : wpAny (model X.prog X.w) A (mergeMapping d (.ref a) false) Q E s := by
  obtain ⟨zd, sd, vd, rd, dd⟩ := dk_of I.hok hd
  obtain ⟨za, sa, va, ra, da⟩ := dk_of I.hok ha
  refine wpAny_mergeMapping (Ne.symm had) sa dd da (fun h' hd' _ hs => q _ ?_) (by rw [← rd.length, ← ra.length]; exact hz)
  have he : ∃ q, h'.get? d = some q := let ⟨q, _, _, hq, _⟩ := hd'; ⟨q, hq⟩
  have hl : (mergeK ks ls).length ≤ sizeLine := Nat.le_trans (length_mergeK ls ks) hz
  exact d_write (t' := s.toks) I (by rw [hd]; exact True.intro) hs he (dk_new hl sd (KV.merge ra rd) hd')
theorem pe_dmerge {a b : Expr} {ta tb : TE} {pos : Pos} (ha : PE X a ta) (hb : PE X b tb) : PE X (.Dict [none, none] [a, b] pos) (tMrg ta tb) := by
  refine ⟨fun pins s σ H Q I h => ?_⟩
  rw [arm_eval_Dict]
  refine wpAny_bind (wpAny_standAt ?_)
  show wpAny _ _ (dictDisplay [(none, do let x ← eval a X.env; standAt pos; pure x), (none, do let x ← eval b X.env; standAt pos; pure x)]) _ _ _
  unfold dictDisplay
  simp only [List.forIn_cons, List.forIn_nil, List.isEmpty_nil, if_true, pure_bind]
  refine wpAny_bind (wpAny_bind (wpAny_bind (wpAny_alloc ?_)))
  have I1 : Inv X pins σ (upd H s.heap.objs.size (.dK [])) { s with heap := s.heap.push { cls := .type "dict", data := .dict #[] }, toks := s.toks } :=
    I.laid (a := s.heap.objs.size) (o := .dK []) (t' := s.toks) (fun _ _ q => Heap.get?_push_of_some _ q) (Nat.le_refl _) (dk_empty s.heap I.big)
  have hd0 : H s.heap.objs.size = none := I.hok.fresh (Nat.le_refl _)
  have h1 := h s.heap.objs.size hd0
  generalize s.heap.objs.size = d at I1 hd0 h1 ⊢
  refine wpAny_bind (wpAny_holding (wpAny_bind (thn (ha.run pins _ σ _ _ I1 h1) fun v s2 h2 => ?_)))
  obtain ⟨x, H2, I2, r2, p, ks, rfl, npd, hp, hd, h2⟩ := h2
  obtain rfl : v = Value.ref p := r2
  refine wpAny_bind (wpAny_standAt (wpAny_pure ?_))
  refine wpAny_bind (wpAny_onRaise (wpAny_tryCatch (wpAny_onRaise (wpAny_holding (merge_run I2 npd hd hp (by have := (dk_of I2.hok hp).1; simpa using this) fun s3 I3 => ?_)))))
  refine wpAny_pure ?_
  dsimp only
  refine wpAny_bind (wpAny_bind ?_)
  rw [if_pos (show ([] : List (Sem Value × Sem Value)).isEmpty = true from rfl)]
  refine wpAny_pure ?_
  dsimp only
  refine wpAny_bind (wpAny_holding (wpAny_bind (thn (hb.run pins _ σ _ _ I3 h2) fun v s4 h4 => ?_)))
  obtain ⟨y, H4, I4, r4, p2, ls, ks1, rfl, npd2, hp2, hd2, hz, h4⟩ := h4
  obtain rfl : v = Value.ref p2 := r4
  refine wpAny_bind (wpAny_standAt (wpAny_pure ?_))
  refine wpAny_bind (wpAny_onRaise (wpAny_tryCatch (wpAny_onRaise (wpAny_holding (merge_run I4 npd2 hd2 hp2 hz fun s5 I5 => ?_)))))
  refine wpAny_pure ?_
  dsimp only
  refine wpAny_pure ?_
  refine wpAny_bind ?_
  rw [if_pos (show ([] : List (Sem Value × Sem Value)).isEmpty = true from rfl)]
  refine wpAny_pure ?_
  exact wpAny_pure ⟨.ref d, _, I5, rfl, h4⟩
end
end My
namespace My
open PySem L2
section
variable {P : Program} {w : World} {K : PySem.W.Frag} {mg : Str → Option Value} {base : Heap}
theorem scTake : FnScope ["state", "limit", "cell", "digit"] ["state", "limit"] (defScope sTake) := ⟨rfl, rfl, rfl, by decide +kernel, rfl, by decide +kernel, by decide +kernel⟩
theorem at0 {α : Type} (x : α) (r : List α) : atI (x :: r) 0 = some x := atI_nat (xs := x :: r) (j := 0) rfl
theorem at1 {α : Type} (x y : α) (r : List α) : atI (x :: y :: r) 1 = some y := atI_nat (xs := x :: y :: r) (j := 1) rfl
theorem ok_take {f fM : Addr} {fd fdM : FuncData} (F : Fun K "_law_take" "_law_take" sTake f fd) (B : Blt mg) (FM : Fun K "_law_mixed" "_law_mixed" sMixed fM fdM) (gM : mg "_law_mixed" = some (.ref fM))
    (bM : Binds K fdM ["cell"] []) : FnOk P w K mg base CX0 2 f fd ["state", "limit"] spTake := by
  have GM : FnOk P w K mg base CX0 1 fM fdM ["cell"] spMixed := ok_mixed FM B
  refine F.ok scTake (fun vs H Q E h => ?_) (fun cdv A outer s H vs Q E hr h => ?_)
  · obtain ⟨S, L, n, rfl, _⟩ := h
    rfl
  obtain ⟨S, L, n, rfl, hL, n0, nb, q⟩ := h
  have hSL := hL.ne
  obtain ⟨cs, d, hS, hL', d0, l63⟩ := hL
  refine ⟨_, C8.pss_cut (ps_if (PW.pt (pw_and (pt_cmpR op_lt (pe_ix ix_list (pv 0) pe_int (fun _ _ => rfl)) (pv 1) (nomark _))
        (pw_and1 (pt_cmpR op_gt (pe_callB call_len_seq (by rfl) B.len PySem.boot_len (pa_cons (pe_ix ix_list (pv 0) pe_int (fun _ _ => rfl)) pa_nil)) pe_int (nomark _)))))
      (pss_cons (ps_set (i := 2) scTake.nd rfl (Or.inl rfl) (pe_callB call_abs (by rfl) B.abs (by decide +kernel) (pa_cons (pe_callTy call_int1 (by rfl) B.int (by decide +kernel)
          (pa_cons (pe_bm PySem.F.plainAttrs_list PySem.F.slot_list_pop PySem.F.type_list_pop mt_popAt (pe_ix ix_list (pv 0) pe_int (fun _ _ => rfl)) (pa_cons pe_int pa_nil)) pa_nil)) pa_nil)))
      (C8.pss_cut (ps_if (pt_cmpR op_lt (pv 2) (pe_op op_pow pe_int pe_int) (nomark _)) (pss_one (ps_set (i := 2) scTake.nd rfl (Or.inl rfl) (pe_call GM (hr.mono (by decide)) rfl gM FM.kp bM .nil pass0 (pa_cons (pv 2) pa_nil)))) pss_nil)
      (pss_one (ps_asg (pv 2) (pg_sub (pv 0) pe_int set_list))))) pss_nil)
    (pss_cons (ps_set (i := 3) scTake.nd rfl (Or.inl rfl) (pe_op op_mod (pe_callTy call_int1 (by rfl) B.int (by decide +kernel) (pa_cons (pe_ix ix_list (pv 0) pe_int (fun _ _ => rfl)) pa_nil)) (pv 1)))
    (pss_cons (ps_asg (pe_op op_fdivW (pe_ix ix_list (pv 0) pe_int (fun _ _ => rfl)) (pv 1)) (pg_sub (pv 0) pe_int set_list))
    (pss_one (ps_ret (pv 3))))), ?_⟩
  -- behind the first if
  refine ⟨fun σ H' => ∃ (v : Option V), σ = [some (.ref S), some (.int n), v, none] ∧ LS H' S L ∧ Sm (Two S L) H H', ?_, ?_⟩
  · refine ⟨_, rfl, S, _, _, _, rfl, rfl, SqL.of hS, at1 _ _ _, _, rfl, _, _, rfl, rfl, _, rfl, ?_⟩
    refine ite2 (fun c => ?_) (fun c => ?_)
    · refine ⟨_, rfl, S, _, _, _, rfl, rfl, SqL.of hS, at0 _ _, L, _, rfl, .inl (SqL.of hL'), _, _, rfl, rfl, _, rfl, ?_⟩
      refine ite2 (fun c2 => ?_) (fun c2 => ?_)
      · have c2' := of_decide_eq_true c2
        rw [List.length_map] at c2'
        cases cs with
        | nil => exact absurd c2' (by decide)
        | cons c0 cr =>
          refine ⟨_, rfl, S, _, _, _, rfl, rfl, SqL.of hS, at0 _ _, .inl ⟨rfl, _, SqL.of hL'⟩, L, _, 0, 0, _, rfl, rfl, hL', by decide, by decide, ?_, rfl, ?_⟩
          · unfold seqIndex?
            simp
          refine .inl ⟨_, rfl, _, rfl, ?_⟩
          refine ⟨fun σ H' => ∃ (m : Int), σ = [some (.ref S), some (.int n), some (.int m), none] ∧ 0 ≤ m ∧ H' = upd H L (.lst (cr.map V.int)), ?_, ?_⟩
          · refine ⟨_, rfl, _, _, rfl, rfl, ⟨by decide, by decide, by decide⟩, _, _, rfl, rfl, _, rfl, ?_⟩
            refine ite2 (fun _ => ?_) (fun _ => ?_)
            · exact ⟨_, rfl, _, rfl, fun m m0 => ⟨m, rfl, m0, rfl⟩⟩
            · refine ⟨_, rfl, ?_, rfl⟩
              by_cases hc : c0 < 0
              · rw [if_pos hc]; omega
              · rw [if_neg hc]; omega
          · rintro σ H' ⟨m, rfl, m0, rfl⟩
            have hS1 : upd H L (.lst (cr.map V.int)) S = some (.lst [.ref L, .int d]) := by rw [upd_ne hSL]; exact hS
            refine ⟨_, rfl, _, rfl, S, _, _, 1, rfl, rfl, hS1, rfl, ?_⟩
            refine ⟨_, rfl, ⟨cr, m, upd_same, by rw [upd_ne hSL.symm, upd_same], m0, by simp at l63; omega⟩, ?_⟩
            exact (Sm.set (.inr rfl) (ntbl_l hL')).trans (Sm.set (.inl rfl) (ntbl_l hS1))
      · exact ⟨_, rfl, ⟨_, d, hS, hL', d0, l63⟩, Sm.refl _ _⟩
    · exact ⟨_, rfl, ⟨_, d, hS, hL', d0, l63⟩, Sm.refl _ _⟩
  · rintro σ H' ⟨v, rfl, ⟨cs', d', h1, h2, d1, l1⟩, sm⟩
    refine ⟨_, rfl, S, _, _, _, rfl, rfl, SqL.of h1, at1 _ _ _, .inl ⟨_, rfl, _, rfl, _, _, rfl, rfl, n0, ?_⟩⟩
    refine ⟨_, rfl, S, _, _, _, rfl, rfl, SqL.of h1, at1 _ _ _, _, rfl, _, _, rfl, rfl, wide_div n0 nb (by decide) (by decide), ?_⟩
    refine ⟨_, rfl, S, _, _, 1, rfl, rfl, h1, rfl, _, rfl, ?_⟩
    refine q (d' % n) _ (Int.emod_nonneg _ (by omega)) (Int.emod_lt_of_pos _ n0) ⟨cs', d' / n, upd_same, by rw [upd_ne hSL.symm]; exact h2, Int.ediv_nonneg d1 (by omega), l1⟩ (sm.trans (Sm.set (.inl rfl) (ntbl_l h1)))
end
end My
namespace My
open PySem L2
section
variable {P : Program} {w : World} {K : PySem.W.Frag} {mg : Str → Option Value} {base : Heap}
theorem scState : FnScope ["script", "cell"] ["script"] (defScope sState) := ⟨rfl, rfl, rfl, by decide +kernel, rfl, by decide +kernel, by decide +kernel⟩
theorem map_at {xs : List Int} {i : Nat} {y : V} (h : (xs.map V.int)[i]? = some y) : ∃ z, xs[i]? = some z ∧ y = .int z := by
  rw [List.getElem?_map] at h
  cases e : xs[i]? with
  | none => rw [e] at h; cases h
  | some z => rw [e] at h; exact ⟨z, rfl, (Option.some.inj h).symm⟩
theorem take_more {α : Type} {l : List α} {i : Nat} {x : α} (h : l[i]? = some x) : l.take (i + 1) = l.take i ++ [x] := by
  rw [List.take_add_one, h]; rfl
theorem cutV_ints (ns : List Int) (k : Nat) : cutV (ns.map V.int) none (some (k : Int)) = ((ns.take k).map V.int) := by
  unfold cutV
  rw [HT.sIx_none, HT.sIx_nat, List.drop_zero, List.length_map, ← List.map_take]
  congr 1
  rw [show min k ns.length - 0 = min k ns.length by omega, List.take_eq_take_iff.mpr]
  omega
theorem line_of {n : Nat} (h : n ≤ 1000) : n < sizeLine := small1000 h
theorem ok_state {f : Addr} {fd : FuncData} (F : Fun K "_law_state" "_law_state" sState f fd) (B : Blt mg) : FnOk P w K mg base CX0 1 f fd ["script"] (spState K) := by
  refine F.ok scState (fun vs H Q E h => ?_) (fun cdv A outer s H vs Q E hr h => ?_)
  · obtain ⟨a, ns, rfl, _⟩ := h
    rfl
  obtain ⟨a, ns, rfl, hS, h63, q⟩ := h
  refine ⟨_, pss_one (ps_ret (pe_lst (pa_cons (pe_lc (own := [("cell", 1)]) (g := gName 1) (tt := tYes) rfl scState.nd (pi_list (pe_slice sl_list (pv 0) po_none (po_some pe_int)))
      (blkOk_by (N := ["script", "cell"]) (sc := defScope sState) (by decide +kernel)) (fun _ _ _ _ _ => pg_name (i := 1) scState.nd rfl (Or.inl rfl)) (fun _ _ _ _ _ => pts_nil)
      (fun _ _ _ _ _ => pe_callTy call_int1 (by rfl) B.int (by decide +kernel) (pa_cons (pv 1) pa_nil))) (pa_cons pe_int pa_nil)))), ?_⟩
  refine ⟨_, rfl, _, rfl, a, _, rfl, hS, fun p hp => ?_⟩
  have ec := cutV_ints ns 63
  rw [show ((63 : Nat) : Int) = 63 from rfl] at ec
  rw [ec]
  have len63 : (ns.take 63).length ≤ 63 := by rw [List.length_take]; omega
  refine ⟨p, rfl, ⟨_, SqL.of upd_same⟩, fun D hD => ?_⟩
  have npD : p ≠ D := ne_of_none upd_same hD
  have hD0 : H D = none := upd_dom _ hD
  refine lc_list (xs := (ns.take 63).map V.int) (fun i H' => H' D = some (.lst (((ns.take 63).take i).map V.int)) ∧ H' p = some (.lst ((ns.take 63).map V.int)) ∧ Sm No H H') ⟨?_, ?_, ?_⟩ (fun i H' _ h => SqL.of h.2.1) ?_ ?_
  · rw [List.take_zero]; exact upd_same
  · rw [upd_ne npD]; exact upd_same
  · exact ((Sm.refl No H).mut hp (fun ps z => by rw [hp] at z; cases z)).mut hD0 (fun ps z => by rw [hD] at z; cases z)
  · rintro i x H' hi ⟨h1, h2, sm⟩
    obtain ⟨z, hz, rfl⟩ := map_at hi
    have ln : i < 64 := by
      have := (List.getElem?_eq_some_iff.mp hz).1
      omega
    refine ⟨rfl, ?_⟩
    refine ⟨_, rfl, .inl ⟨_, rfl, _, h1, ?_, ?_, ?_, ?_⟩⟩
    · rw [List.length_map, List.length_take]
      exact line_of (by omega)
    · rw [upd_same, take_more hz, List.map_append]; rfl
    · rw [upd_ne npD]; exact h2
    · exact sm.mut hD0 (ntbl_l h1)
  · rintro H' ⟨h1, h2, sm⟩
    rw [List.length_map, List.take_length] at h1
    refine ⟨by show 2 ≤ sizeLine; decide, fun S hSn => ?_⟩
    have hS0 := sm.dom S hSn
    have nSD : D ≠ S := ne_of_none h1 hSn
    exact q S D _ hS0 hD0 ⟨_, 0, upd_same, by rw [upd_ne nSD]; exact h1, by decide, len63⟩ (sm.mut hS0 fun ps z => by rw [hSn] at z; cases z)
end
end My
namespace My
open PySem PySem.Spec PyProof.Rows L2 TL
def big : Nat := 1000000
/-! ### core trees -/
inductive Tr where
  | int (i : Int)
  | loc (n : Int)
  | glob (m x : Str)
  | prim (p : Str)
  | fn (ns : List Int) (b : Tr)
  | let_ (ns : List Int) (ts : List Tr) (b : Tr)
  | if_ (a b c : Tr)
  | call (f : Tr) (ts : List Tr)
/-! in the heap, where tuples never change -/
mutual
inductive RT (H : Hp) : V → Tr → Prop
  | int {a : Addr} {i : Int} (h : H a = some (.tup [.str "int", .int i])) : RT H (.ref a) (.int i)
  | loc {a : Addr} {n : Int} (h : H a = some (.tup [.str "local", .int n])) : RT H (.ref a) (.loc n)
  | glob {a : Addr} {m x : Str} (h : H a = some (.tup [.str "global", .str m, .str x])) : RT H (.ref a) (.glob m x)
  | prim {a : Addr} {p : Str} (h : H a = some (.tup [.str "prim", .str p])) : RT H (.ref a) (.prim p)
  | fn {a q : Addr} {v : V} {ns : List Int} {b : Tr} (h : H a = some (.tup [.str "fn", .ref q, v])) (hq : H q = some (.tup (ns.map V.int))) (r : RT H v b) : RT H (.ref a) (.fn ns b)
  | let_ {a q : Addr} {v : V} {vs : List V} {ns : List Int} {ts : List Tr} {b : Tr} (h : H a = some (.tup [.str "let", .ref q, v])) (hq : H q = some (.tup vs)) (rp : RTp H vs ns ts) (r : RT H v b) : RT H (.ref a) (.let_ ns ts b)
  | if_ {a : Addr} {x y z : V} {p q r : Tr} (h : H a = some (.tup [.str "if", x, y, z])) (rx : RT H x p) (ry : RT H y q) (rz : RT H z r) : RT H (.ref a) (.if_ p q r)
  | call {a q : Addr} {v : V} {vs : List V} {f : Tr} {ts : List Tr} (h : H a = some (.tup [.str "call", v, .ref q])) (hq : H q = some (.tup vs)) (r : RT H v f) (rs : RTs H vs ts) : RT H (.ref a) (.call f ts)
inductive RTs (H : Hp) : List V → List Tr → Prop
  | nil : RTs H [] []
  | cons {v : V} {t : Tr} {vs : List V} {ts : List Tr} (r : RT H v t) (rs : RTs H vs ts) : RTs H (v :: vs) (t :: ts)
inductive RTp (H : Hp) : List V → List Int → List Tr → Prop
  | nil : RTp H [] [] []
  | cons {q : Addr} {v : V} {n : Int} {t : Tr} {vs : List V} {ns : List Int} {ts : List Tr} (h : H q = some (.tup [.int n, v])) (r : RT H v t) (rs : RTp H vs ns ts) : RTp H (.ref q :: vs) (n :: ns) (t :: ts)
end
/-- tuples stay -/
def KpT (H H' : Hp) : Prop := ∀ a xs, H a = some (.tup xs) → H' a = some (.tup xs)
theorem KpT.trans {H H1 H2 : Hp} (a : KpT H H1) (b : KpT H1 H2) : KpT H H2 := fun c xs h => b c xs (a c xs h)
mutual
theorem RT.keep {H H' : Hp} (k : KpT H H') : ∀ {v : V} {t : Tr}, RT H v t → RT H' v t
  | _, _, .int h => .int (k _ _ h)
  | _, _, .loc h => .loc (k _ _ h)
  | _, _, .glob h => .glob (k _ _ h)
  | _, _, .prim h => .prim (k _ _ h)
  | _, _, .fn h hq r => .fn (k _ _ h) (k _ _ hq) (RT.keep k r)
  | _, _, .let_ h hq rp r => .let_ (k _ _ h) (k _ _ hq) (RTp.keep k rp) (RT.keep k r)
  | _, _, .if_ h rx ry rz => .if_ (k _ _ h) (RT.keep k rx) (RT.keep k ry) (RT.keep k rz)
  | _, _, .call h hq r rs => .call (k _ _ h) (k _ _ hq) (RT.keep k r) (RTs.keep k rs)
theorem RTs.keep {H H' : Hp} (k : KpT H H') : ∀ {vs : List V} {ts : List Tr}, RTs H vs ts → RTs H' vs ts
  | _, _, .nil => .nil
  | _, _, .cons r rs => .cons (RT.keep k r) (RTs.keep k rs)
theorem RTp.keep {H H' : Hp} (k : KpT H H') : ∀ {vs : List V} {ns : List Int} {ts : List Tr}, RTp H vs ns ts → RTp H' vs ns ts
  | _, _, _, .nil => .nil
  | _, _, _, .cons h r rs => .cons (k _ _ h) (RT.keep k r) (RTp.keep k rs)
end
theorem Sm.kpT {H H' : Hp} (s : Sm No H H') : KpT H H' := fun a xs h => s.keep a _ (fun z => z) rfl h
theorem RTs.len {H : Hp} : ∀ {vs : List V} {ts : List Tr}, RTs H vs ts → vs.length = ts.length
  | _, _, .nil => rfl
  | _, _, .cons _ r => congrArg (· + 1) (RTs.len r)
theorem RTs.get {H : Hp} : ∀ {vs : List V} {ts : List Tr} {i : Nat} {v : V}, RTs H vs ts → vs[i]? = some v → ∃ t, ts[i]? = some t ∧ RT H v t
  | _, _, _, _, .nil, e => by simp at e
  | _, _, 0, _, .cons r _, e => by cases e; exact ⟨_, rfl, r⟩
  | _, _, i + 1, _, .cons _ rs, e => by
    obtain ⟨t, h1, h2⟩ := RTs.get (i := i) rs (by simpa using e)
    exact ⟨t, by simpa using h1, h2⟩
theorem RTs.snoc {H : Hp} : ∀ {vs : List V} {ts : List Tr} {v : V} {t : Tr}, RTs H vs ts → RT H v t → RTs H (vs ++ [v]) (ts ++ [t])
  | _, _, _, _, .nil, h => .cons h .nil
  | _, _, _, _, .cons g r, h => .cons g (RTs.snoc r h)
theorem RTp.len {H : Hp} : ∀ {vs : List V} {ns : List Int} {ts : List Tr}, RTp H vs ns ts → vs.length = ns.length ∧ ts.length = ns.length
  | _, _, _, .nil => ⟨rfl, rfl⟩
  | _, _, _, .cons _ _ r => ⟨congrArg (· + 1) (RTp.len r).1, congrArg (· + 1) (RTp.len r).2⟩
theorem RTp.get {H : Hp} : ∀ {vs : List V} {ns : List Int} {ts : List Tr} {i : Nat} {v : V}, RTp H vs ns ts → vs[i]? = some v → ∃ q x n t, v = .ref q ∧ H q = some (.tup [.int n, x]) ∧ ns[i]? = some n ∧ ts[i]? = some t ∧ RT H x t
  | _, _, _, _, _, .nil, e => by simp at e
  | _, _, _, 0, _, .cons h r _, e => by cases e; exact ⟨_, _, _, _, rfl, h, rfl, rfl, r⟩
  | _, _, _, i + 1, _, .cons _ _ rs, e => by
    obtain ⟨q, x, n, t, h1, h2, h3, h4, h5⟩ := RTp.get (i := i) rs (by simpa using e)
    exact ⟨q, x, n, t, h1, h2, by simpa using h3, by simpa using h4, h5⟩
theorem RTp.snoc {H : Hp} : ∀ {vs : List V} {ns : List Int} {ts : List Tr} {q : Addr} {v : V} {n : Int} {t : Tr}, RTp H vs ns ts → H q = some (.tup [.int n, v]) → RT H v t → RTp H (vs ++ [.ref q]) (ns ++ [n]) (ts ++ [t])
  | _, _, _, _, _, _, _, .nil, h, r => .cons h r .nil
  | _, _, _, _, _, _, _, .cons g r rs, h, k => .cons g r (RTp.snoc rs h k)
/-- the word of a tree -/
def word : Tr → Str
  | .int _ => "int"
  | .loc _ => "local"
  | .glob _ _ => "global"
  | .prim _ => "prim"
  | .fn _ _ => "fn"
  | .let_ _ _ _ => "let"
  | .if_ _ _ _ => "if"
  | .call _ _ => "call"
theorem RT.head {H : Hp} {v : V} {t : Tr} (r : RT H v t) : ∃ (a : Addr) (xs : List V), v = .ref a ∧ H a = some (.tup (.str (word t) :: xs)) ∧ xs.length ≤ 3 := by
  cases r with
  | int h => exact ⟨_, _, rfl, h, by simp⟩
  | loc h => exact ⟨_, _, rfl, h, by simp⟩
  | glob h => exact ⟨_, _, rfl, h, by simp⟩
  | prim h => exact ⟨_, _, rfl, h, by simp⟩
  | fn h => exact ⟨_, _, rfl, h, by simp⟩
  | let_ h => exact ⟨_, _, rfl, h, by simp⟩
  | if_ h => exact ⟨_, _, rfl, h, by simp⟩
  | call h => exact ⟨_, _, rfl, h, by simp⟩
def bnd : Tr → List Int
  | .fn ns _ => ns
  | .let_ ns _ _ => ns
  | _ => []
def kids : Tr → List Int → List (Tr × List Int)
  | .if_ a b c, kn => [(a, kn), (b, kn), (c, kn)]
  | .call f ts, kn => (f, kn) :: ts.map fun t => (t, kn)
  | .fn ns b, kn => [(b, ns ++ kn)]
  | .let_ ns ts b, kn => (ts.map fun t => (t, kn)) ++ [(b, ns ++ kn)]
  | _, _ => []
/-! how many parts, and no row of more than 1000 -/
mutual
def szT : Tr → Nat
  | .fn _ b => szT b + 1
  | .let_ _ ts b => szTs ts + szT b + 1
  | .if_ a b c => szT a + szT b + szT c + 1
  | .call f ts => szT f + szTs ts + 1
  | _ => 1
def szTs : List Tr → Nat
  | [] => 0
  | t :: ts => szT t + szTs ts
end
mutual
def widT : Tr → Prop
  | .fn ns b => ns.length ≤ 1000 ∧ widT b
  | .let_ ns ts b => ns.length ≤ 1000 ∧ widTs ts ∧ widT b
  | .if_ a b c => widT a ∧ widT b ∧ widT c
  | .call f ts => ts.length ≤ 900 ∧ widT f ∧ widTs ts
  | .glob m x => m.length ≤ big ∧ x.length ≤ big
  | _ => True
def widTs : List Tr → Prop
  | [] => True
  | t :: ts => widT t ∧ widTs ts
end
theorem szT_pos (t : Tr) : 1 ≤ szT t := by
  cases t <;> (unfold szT; omega)
theorem widTs_mem : ∀ {ts : List Tr}, widTs ts → ∀ t ∈ ts, widT t
  | [], _, _, h => by cases h
  | x :: r, h, t, m => by
    unfold widTs at h
    rcases List.mem_cons.mp m with e | e
    · rw [e]; exact h.1
    · exact widTs_mem h.2 t e
def szK (l : List (Tr × List Int)) : Nat := (l.map fun p => szT p.1).sum
theorem szTs_sum (kn : List Int) : ∀ ts : List Tr, szK (ts.map fun t => (t, kn)) = szTs ts
  | [] => by unfold szTs szK; rfl
  | t :: ts => by
    have ih := szTs_sum kn ts
    unfold szTs
    unfold szK at ih ⊢
    rw [List.map_cons, List.map_cons, List.sum_cons, ih]
theorem szK_kids (t : Tr) (kn : List Int) : szK (kids t kn) + 1 = szT t := by
  cases t with
  | int i => unfold szT; rfl
  | loc i => unfold szT; rfl
  | glob i j => unfold szT; rfl
  | prim i => unfold szT; rfl
  | fn ns b => unfold szT; simp [kids, szK]
  | let_ ns ts b =>
    have := szTs_sum kn ts
    unfold szT kids
    unfold szK at this ⊢
    rw [List.map_append, List.sum_append, this]
    simp
  | if_ a b c => unfold szT; simp [kids, szK]; omega
  | call f ts =>
    have := szTs_sum kn ts
    unfold szT kids
    unfold szK at this ⊢
    rw [List.map_cons, List.sum_cons, this]
theorem wid_kids {t : Tr} {kn : List Int} (h : widT t) : ∀ p ∈ kids t kn, widT p.1 := by
  intro p hp
  cases t with
  | int i => cases hp
  | loc i => cases hp
  | glob i j => cases hp
  | prim i => cases hp
  | fn ns b =>
    unfold widT at h
    rw [List.mem_singleton.mp hp]
    exact h.2
  | let_ ns ts b =>
    unfold widT at h
    rcases List.mem_append.mp hp with m | m
    · obtain ⟨t, ht, e⟩ := List.mem_map.mp m
      rw [← e]
      exact widTs_mem h.2.1 t ht
    · rw [List.mem_singleton.mp m]
      exact h.2.2
  | if_ a b c =>
    unfold widT at h
    simp only [kids, List.mem_cons, List.mem_nil_iff, or_false] at hp
    rcases hp with e | e | e <;> rw [e]
    · exact h.1
    · exact h.2.1
    · exact h.2.2
  | call f ts =>
    unfold widT at h
    rcases List.mem_cons.mp hp with e | m
    · rw [e]; exact h.2.1
    · obtain ⟨t, ht, e⟩ := List.mem_map.mp m
      rw [← e]
      exact widTs_mem h.2.2 t ht
end My
namespace My
open PySem PySem.Spec PyProof.Rows L2 TL
structure Bl2 (mg : Str → Option Value) : Prop where
  dict : mg "dict" = none
  zip : mg "zip" = none
  enumerate : mg "enumerate" = none
  reversed : mg "reversed" = none
  max : mg "max" = none
structure Cal (P : Program) (w : World) (K : PySem.W.Frag) (mg : Str → Option Value) (base : Heap) (CX : CXT) (k : Nat) (x : Str) (ps : List Str) (sp : Sp) (f : Addr) (fd : FuncData) : Prop where
  ok : FnOk P w K mg base CX k f fd ps sp
  k : PySem.W.keepIn K (.ref f) = true
  g : mg x = some (.ref f)
  b : Binds K fd ps []
/-- a method: its class, where it stands, what it promises -/
structure MCal (P : Program) (w : World) (K : PySem.W.Frag) (mg : Str → Option Value) (base : Heap) (CX : CXT) (k : Nat) (C : Addr) (m : Str) (ps : List Str) (sp : Sp) (f : Addr) (fd : FuncData) : Prop where
  ok : FnOk P w K mg base CX k f fd ps sp
  c : Cls K C
  m : Meth K C m f
  b : Binds K fd ps []
/-! ### del xs[a:] -/
theorem keep_take {f : Nat → Bool} {a : Nat} : ∀ {xs : List Value} {i : Nat}, (∀ k, k < i + xs.length → f k = decide (a ≤ k)) → ((xs.zipIdx i).filterMap fun p => if f p.2 then none else some p.1) = xs.take (a - i)
  | [], i, h => by simp
  | x :: xs, i, h => by
    rw [List.zipIdx_cons, List.filterMap_cons]
    have ih := keep_take (f := f) (a := a) (xs := xs) (i := i + 1) fun k hk => h k (by rw [List.length_cons]; omega)
    rw [ih]
    have e := h i (by rw [List.length_cons]; omega)
    by_cases c : a ≤ i
    · rw [decide_eq_true c] at e
      simp only [e, if_true]
      rw [show a - (i + 1) = 0 by omega, show a - i = 0 by omega]
      rfl
    · rw [decide_eq_false c] at e
      simp only [e, Bool.false_eq_true, if_false]
      rw [show a - i = (a - (i + 1)) + 1 by omega, List.take_succ_cons]
theorem bounds_from {a n : Nat} (h : a ≤ n) : sliceBounds (some (a : Int)) none none n = ((a : Int), (n : Int), 1) := by
  simp only [sliceBounds, Option.getD_none]
  have h1 : ¬ ((a : Int) < 0) := by omega
  simp only [h1, if_false, show (1 : Int) > 0 by decide, if_true]
  congr 1
  omega
section
variable {prog : Program} {w : World} {A : Around} {E : Value → Shared → Prop} {s : Shared}
theorem delItem_from {l sl : Addr} {items : List Value} {n : Nat} {vl vu : Value} {a : Nat} {Q : Unit → Shared → Prop}
    (e : s.heap.get? l = some { cls := .type "list", data := .seq items.toArray n }) (hs : s.heap.IsSliceOf sl vl vu .none) (pl : IsPart vl (some (a : Int))) (pu : IsPart vu none) (ha : a ≤ items.length) (hsz : items.length ≤ sizeLine)
    (h : ∀ F : Array Value → Array Value, F items.toArray = (items.take a).toArray → Q () { s with heap := s.heap.update l (Obj.mapSeq F) }) :
    wpAny (model prog w) A (delItem (.ref l) (.ref sl)) Q E s := by
  have hl : s.heap.IsList l items.toArray := PySem.IsL.isList e
  obtain ⟨os, hos, hcs, hds⟩ := id hs
  have hTs : s.TypeIs (.ref sl) "slice" := ⟨os, hos, hcs⟩
  have hstep : ¬ ((rawPart none == rawInt 0) = true) := Bool.false_ne_true
  unfold delItem
  try with_reducible refine wpAny_holding ?_
  refine wpAny_bind (wpAny_sequenceKey hl.typeIs (by decide) ?_)
  refine wpAny_bind (wpAny_callSpecial?_slot (name := Str.ofString "__delitem__") hl.typeIs PySem.F.slot_list_delitem
    (wpAny_call_entry PySem.F.slot_list_delitem hl.typeIs PySem.F.entry_list_delitem ?_ (PySem.F.args_list_delitem_2 _ _)))
  show wpAny _ _ (Builtin.List.listSubscript? (.ref sl) >>= _) _ _ s
  refine wpAny_bind ?_
  unfold Builtin.List.listSubscript?
  refine wpAny_bind (wpAny_specialOf hTs slice_no_index ?_)
  simp only [Option.isNone_none, if_true]
  refine wpAny_pure ?_
  show wpAny _ _ (typeOf (.ref sl) >>= _) _ _ s
  refine wpAny_bind (wpAny_typeOf hTs ?_)
  first
    | rw [if_neg (by decide)]
    | refine PySem.W.KFB.if_not (by decide) ?_
  rw [listSliceParts_eq]
  refine wpAny_bind (wpAny_bind (wpAny_field hos hds (x := .none) rfl (wpAny_bind (wpAny_listPart .none ?_))))
  rw [if_neg hstep]
  refine wpAny_bind (wpAny_field hos hds (x := vl) rfl (wpAny_bind (wpAny_listPart pl ?_)))
  refine wpAny_bind (wpAny_field hos hds (x := vu) rfl (wpAny_bind (wpAny_listPart pu (wpAny_pure ?_))))
  unfold Builtin.List.listItems
  refine wpAny_bind (wpAny_bind (wpAny_seqItems e rfl (wpAny_pure ?_)))
  refine wpAny_bind (wpAny_of_eq ((sliceIndices_raw (some (a : Int)) none none items.toArray.size (by simp)).trans (congrArg (pure : Int × Int × Int → Sem (Int × Int × Int)) (bounds_from (by rw [List.size_toArray]; exact ha)))) ?_)
  refine wpAny_bind (wpAny_rule ?_)
  refine wpAny_bind (wpAny_updateSeq (hz := by rw [List.size_toArray]; exact hsz) (_hz' := ?hz) e rfl ?mn)
  case hz =>
    rw [List.size_toArray]
    refine Nat.le_trans (List.length_filterMap_le _ _) ?_
    rw [List.length_zipIdx, Array.length_toList, List.size_toArray]
    omega
  case mn =>
  refine wpAny_bind (wpAny_letGo ?_)
  have hF : ∀ F : Array Value → Array Value, F items.toArray = (items.take a).toArray → Q () { s with heap := s.heap.update l (Obj.mapSeq F) } := h
  refine (fun q => by
    first
      | exact wpAny_bind (wpAny_pure (wpAny_pure ⟨.none, rfl, wpAny_pure q⟩))
      | exact wpAny_pure ⟨.none, rfl, wpAny_pure q⟩) (hF _ ?_)
  apply congrArg List.toArray
  refine (keep_take (a := a) (i := 0) fun k hk => ?_).trans (by simp)
  have hk2 : k < items.length := by simpa using hk
  change (if (1 : Int) > 0 then ((decide ((a : Int) ≤ (k : Int)) && decide ((k : Int) < (items.toArray.size : Int))) && (((k : Int) - (a : Int)) % 1 == 0)) else ((decide ((items.toArray.size : Int) < (k : Int)) && decide ((k : Int) ≤ (a : Int))) && (((a : Int) - (k : Int)) % (-1) == 0))) = decide (a ≤ k)
  rw [if_pos (by decide), List.size_toArray, decide_eq_true (show (k : Int) < (items.length : Int) by omega), Bool.and_true, Int.emod_one]
  by_cases c : a ≤ k
  · rw [decide_eq_true c, decide_eq_true (show (a : Int) ≤ (k : Int) by omega)]; rfl
  · rw [decide_eq_false c, decide_eq_false (show ¬ (a : Int) ≤ (k : Int) by omega)]; rfl
end
/-- del xs[a:] -/
def tDelF (to : TE) (tl : TO) : TS := fun D σ H => to σ H fun x H1 => tl σ H1 fun o H2 => ∃ (l : Addr) (xs : List V) (a : Nat), x = .ref l ∧ o = some (a : Int) ∧ H2 l = some (.lst xs) ∧ a ≤ xs.length ∧ D.nx σ (upd H2 l (.lst (xs.take a)))
section
variable {X : Cx}
theorem ps_delF {o lo : Expr} {to ti : TE} {tpos p2 pos : Pos} (ho : PE X o to) (hl : PE X lo ti) : PS X (.Delete [.Subscript o (.Slice (some lo) none none p2) tpos] pos) (tDelF to (tPart ti)) := by
  refine ⟨fun pins s σ H D I h => ?_⟩
  refine wpAny_Delete (wpAny_deleteEach_cons (wpAny_delete_Subscript (thn (ho.run pins s σ H _ I h) fun u s1 ⟨x, H1, I1, rx, q1⟩ => ?_)))
  refine wpAny_Slice (thn ((po_some hl).run pins s1 σ H1 _ I1 q1) fun vl s2 ⟨y, H2, I2, pl, q2⟩ => ?_)
  rw [evalPart_none]
  refine wpAny_pure (wpAny_pure ?_)
  obtain ⟨l, xs, a, ex, ey, hH, ha, q⟩ := q2
  subst ex
  subst ey
  cases (show u = Value.ref l from rx)
  have I4 : Inv X pins σ H2 { s2 with heap := s2.heap.push { cls := .type "slice", data := .fields #[vl, .none, .none] } } := I2.kept (t' := s2.toks) fun b ob q => Heap.get?_push_of_some _ q
  obtain ⟨z, its, n, r, hln, e⟩ := I4.lstM hH
  refine delItem_from e (Heap.IsSliceOf.new ..) pl .none (by rw [← hln]; exact ha) (by omega) fun F hF => ?_
  refine wpAny_deleteEach_nil ⟨σ, _, I4.lset (its' := its.take a) (ys := xs.take a) (t' := s2.toks) hH e hF (r.take a) ?_, q⟩
  rw [List.length_take]
  omega
end
end My
namespace My
open PySem PySem.Spec PyProof.Rows L2 TL
/-! ### code, values -/
inductive Src where
  | place (n : Nat) | kept (n : Nat)
mutual
inductive Code where
  | mk (params places : Nat) (is : List Ins)
inductive Ins where
  | int (i : Int) | prim (p : Str) | glob (m x : Str) | src (s : Src) | fn (c : Code) (ss : List Src) | put (n : Nat) | jump (n : Nat) | unless (n : Nat) | call (n : Nat) | tail (n : Nat) | end_
end
def Code.params : Code → Nat
  | .mk p _ _ => p
def Code.places : Code → Nat
  | .mk _ p _ => p
def Code.is : Code → List Ins
  | .mk _ _ i => i
inductive Vl where
  | int (i : Int)
  | pair (a b : Vl)
  | prim (p : Str)
  | fnP (ns : List Int) (b : Tr) (env : List (Int × Vl))
  | fnM (c : Code) (kept : List Vl)
/-! in the heap -/
def srcV : Src → List V
  | .place n => [.str "place", .int n]
  | .kept n => [.str "kept", .int n]
def RSr (H : Hp) (v : V) (s : Src) : Prop := ∃ a, v = .ref a ∧ H a = some (.tup (srcV s))
inductive RSs (H : Hp) : List V → List Src → Prop
  | nil : RSs H [] []
  | cons {v : V} {s : Src} {vs : List V} {ss : List Src} (r : RSr H v s) (rs : RSs H vs ss) : RSs H (v :: vs) (s :: ss)
mutual
inductive RC (H : Hp) : V → Code → Prop
  | mk {a q : Addr} {p l : Nat} {vs : List V} {is : List Ins} (h : H a = some (.tup [.str "code", .int p, .int l, .ref q])) (hq : H q = some (.tup vs)) (rs : RIs H vs is) : RC H (.ref a) (.mk p l is)
inductive RI (H : Hp) : V → Ins → Prop
  | int {a : Addr} {i : Int} (h : H a = some (.tup [.str "int", .int i])) : RI H (.ref a) (.int i)
  | prim {a : Addr} {p : Str} (h : H a = some (.tup [.str "prim", .str p])) : RI H (.ref a) (.prim p)
  | glob {a : Addr} {m x : Str} (h : H a = some (.tup [.str "global", .str m, .str x])) : RI H (.ref a) (.glob m x)
  | src {a : Addr} {s : Src} (h : H a = some (.tup (srcV s))) : RI H (.ref a) (.src s)
  | fn {a q : Addr} {v : V} {vs : List V} {c : Code} {ss : List Src} (h : H a = some (.tup [.str "fn", v, .ref q])) (hq : H q = some (.tup vs)) (r : RC H v c) (rs : RSs H vs ss) : RI H (.ref a) (.fn c ss)
  | put {a : Addr} {n : Nat} (h : H a = some (.tup [.str "put", .int n])) : RI H (.ref a) (.put n)
  | jump {a : Addr} {n : Nat} (h : H a = some (.tup [.str "jump", .int n])) : RI H (.ref a) (.jump n)
  | unless {a : Addr} {n : Nat} (h : H a = some (.tup [.str "unless", .int n])) : RI H (.ref a) (.unless n)
  | call {a : Addr} {n : Nat} (h : H a = some (.tup [.str "call", .int n])) : RI H (.ref a) (.call n)
  | tail {a : Addr} {n : Nat} (h : H a = some (.tup [.str "tail", .int n])) : RI H (.ref a) (.tail n)
  | end_ {a : Addr} (h : H a = some (.tup [.str "end"])) : RI H (.ref a) .end_
inductive RIs (H : Hp) : List V → List Ins → Prop
  | nil : RIs H [] []
  | cons {v : V} {i : Ins} {vs : List V} {is : List Ins} (r : RI H v i) (rs : RIs H vs is) : RIs H (v :: vs) (i :: is)
end
theorem RSr.keep {H H' : Hp} (k : KpT H H') {v : V} {s : Src} (r : RSr H v s) : RSr H' v s := let ⟨a, e, h⟩ := r; ⟨a, e, k _ _ h⟩
theorem RSs.keep {H H' : Hp} (k : KpT H H') : ∀ {vs : List V} {ss : List Src}, RSs H vs ss → RSs H' vs ss
  | _, _, .nil => .nil
  | _, _, .cons r rs => .cons (r.keep k) (RSs.keep k rs)
mutual
theorem RC.keep {H H' : Hp} (k : KpT H H') : ∀ {v : V} {c : Code}, RC H v c → RC H' v c
  | _, _, .mk h hq rs => .mk (k _ _ h) (k _ _ hq) (RIs.keep k rs)
theorem RI.keep {H H' : Hp} (k : KpT H H') : ∀ {v : V} {i : Ins}, RI H v i → RI H' v i
  | _, _, .int h => .int (k _ _ h)
  | _, _, .prim h => .prim (k _ _ h)
  | _, _, .glob h => .glob (k _ _ h)
  | _, _, .src h => .src (k _ _ h)
  | _, _, .fn h hq r rs => .fn (k _ _ h) (k _ _ hq) (RC.keep k r) (rs.keep k)
  | _, _, .put h => .put (k _ _ h)
  | _, _, .jump h => .jump (k _ _ h)
  | _, _, .unless h => .unless (k _ _ h)
  | _, _, .call h => .call (k _ _ h)
  | _, _, .tail h => .tail (k _ _ h)
  | _, _, .end_ h => .end_ (k _ _ h)
theorem RIs.keep {H H' : Hp} (k : KpT H H') : ∀ {vs : List V} {is : List Ins}, RIs H vs is → RIs H' vs is
  | _, _, .nil => .nil
  | _, _, .cons r rs => .cons (RI.keep k r) (RIs.keep k rs)
end
/-- what one argument a primitive has -/
def arP (p : Str) : Int := if p = "first" ∨ p = "second" then 1 else 2
/-- where the classes of values stand -/
structure Cs where
  pa : Addr
  fu : Addr
  pr : Addr
/-- what stays but for the objects of X, and every tuple -/
structure Fr (X : Addr → Prop) (H H' : Hp) : Prop where
  sm : Sm X H H'
  tup : KpT H H'
theorem Fr.refl (X : Addr → Prop) (H : Hp) : Fr X H H := ⟨Sm.refl _ _, fun _ _ h => h⟩
theorem Fr.trans {X : Addr → Prop} {H H1 H2 : Hp} (a : Fr X H H1) (b : Fr X H1 H2) : Fr X H H2 := ⟨a.sm.trans b.sm, a.tup.trans b.tup⟩
theorem Fr.new {X : Addr → Prop} {H : Hp} {p : Addr} {o : HO} (h : H p = none) : Fr X H (upd H p o) := ⟨Sm.new h, fun a xs e => by rw [upd_ne (ne_of_none e h)]; exact e⟩
def isMut : HO → Bool
  | .tbl _ => false
  | .tup _ => false
  | _ => true
theorem Fr.set {X : Addr → Prop} {H : Hp} {p : Addr} {o u : HO} (h : X p) (e : H p = some u) (m : isMut u = true) : Fr X H (upd H p o) :=
  ⟨Sm.set h (fun ps z => by rw [e] at z; cases z; cases m), fun a xs q => by rw [upd_ne (fun z => by rw [z, e] at q; cases q; cases m)]; exact q⟩
/-- what H did not know may change -/
theorem Fr.mut {X : Addr → Prop} {H H' : Hp} {p : Addr} {o u : HO} (f : Fr X H H') (h : H p = none) (e : H' p = some u) (m : isMut u = true) : Fr X H (upd H' p o) :=
  ⟨f.sm.mut h (fun ps z => by rw [e] at z; cases z; cases m), fun a xs q => by rw [upd_ne (ne_of_none q h)]; exact f.tup _ _ q⟩
theorem Fr.wide {X Y : Addr → Prop} {H H' : Hp} (f : Fr X H H') (h : ∀ b, X b → Y b) : Fr Y H H' := ⟨f.sm.wide h, f.tup⟩
theorem Fr.keep {X : Addr → Prop} {H H' : Hp} {b : Addr} {o : HO} (f : Fr X H H') (n : ¬ X b) (t : isTbl o = false) (e : H b = some o) : H' b = some o := f.sm.keep b o n t e
theorem Fr.dom {X : Addr → Prop} {H H' : Hp} (f : Fr X H H') {b : Addr} (e : H' b = none) : H b = none := f.sm.dom b e
theorem Fr.no {X : Addr → Prop} {H H' : Hp} (f : Fr No H H') : Fr X H H' := f.wide fun _ z => z.elim
theorem Fr.of {H H' : Hp} (s : Sm No H H') : Fr No H H' := ⟨s, fun a xs h => s.keep a _ (fun z => z) rfl h⟩
mutual
inductive RV (C : Cs) (X : Addr → Prop) (H : Hp) : V → Vl → Prop
  | int (i : Int) (h : i.natAbs ≤ 10 ^ 60) : RV C X H (.int i) (.int i)
  | pair {a dx : Addr} {x y : V} {u v : Vl} (h : H a = some (.ins C.pa dx [("first", x), ("second", y)])) (n : ¬ X a) (r : RV C X H x u) (s : RV C X H y v) : RV C X H (.ref a) (.pair u v)
  | prim {a dx : Addr} {p : Str} (h : H a = some (.ins C.pr dx [("parameters", .int (arP p)), ("name", .str p)])) (n : ¬ X a) : RV C X H (.ref a) (.prim p)
  | fnP {a dx e : Addr} {c : V} {ns : List Int} {b : Tr} {kvs : List (Key × V)} {env : List (Int × Vl)} (h : H a = some (.ins C.fu dx [("parameters", .int ns.length), ("body", c), ("kept", .ref e)])) (n : ¬ X a) (rt : RT H c (.fn ns b)) (wt : widT (.fn ns b))
      (he : H e = some (.dK kvs)) (ne : ¬ X e) (re : REv C X H kvs env) : RV C X H (.ref a) (.fnP ns b env)
  | fnM {a dx e : Addr} {cv : V} {c : Code} {vs : List V} {ks : List Vl} (h : H a = some (.ins C.fu dx [("parameters", .int c.params), ("body", cv), ("kept", .ref e)])) (n : ¬ X a) (rc : RC H cv c)
      (he : H e = some (.lst vs)) (ne : ¬ X e) (rs : RVs C X H vs ks) : RV C X H (.ref a) (.fnM c ks)
inductive RVs (C : Cs) (X : Addr → Prop) (H : Hp) : List V → List Vl → Prop
  | nil : RVs C X H [] []
  | cons {v : V} {x : Vl} {vs : List V} {xs : List Vl} (r : RV C X H v x) (rs : RVs C X H vs xs) : RVs C X H (v :: vs) (x :: xs)
inductive REv (C : Cs) (X : Addr → Prop) (H : Hp) : List (Key × V) → List (Int × Vl) → Prop
  | nil : REv C X H [] []
  | cons {n : Int} {v : V} {x : Vl} {kvs : List (Key × V)} {env : List (Int × Vl)} (r : RV C X H v x) (rs : REv C X H kvs env) : REv C X H ((.inl n, v) :: kvs) ((n, x) :: env)
end
section
variable {C : Cs}
mutual
/-- another heap, another X: what a value is made of must stand there and be outside -/
theorem RV.mv {X Y : Addr → Prop} {H H' : Hp} (k : ∀ a o, isTbl o = false → H a = some o → ¬ X a → H' a = some o ∧ ¬ Y a) (t : KpT H H') : ∀ {v : V} {x : Vl}, RV C X H v x → RV C Y H' v x
  | _, _, .int i h => .int i h
  | _, _, .pair h n r s => .pair (k _ _ rfl h n).1 (k _ _ rfl h n).2 (RV.mv k t r) (RV.mv k t s)
  | _, _, .prim h n => .prim (k _ _ rfl h n).1 (k _ _ rfl h n).2
  | _, _, .fnP h n rt wt he ne re => .fnP (k _ _ rfl h n).1 (k _ _ rfl h n).2 (rt.keep t) wt (k _ _ rfl he ne).1 (k _ _ rfl he ne).2 (REv.mv k t re)
  | _, _, .fnM h n rc he ne rs => .fnM (k _ _ rfl h n).1 (k _ _ rfl h n).2 (rc.keep t) (k _ _ rfl he ne).1 (k _ _ rfl he ne).2 (RVs.mv k t rs)
theorem RVs.mv {X Y : Addr → Prop} {H H' : Hp} (k : ∀ a o, isTbl o = false → H a = some o → ¬ X a → H' a = some o ∧ ¬ Y a) (t : KpT H H') : ∀ {vs : List V} {xs : List Vl}, RVs C X H vs xs → RVs C Y H' vs xs
  | _, _, .nil => .nil
  | _, _, .cons r rs => .cons (RV.mv k t r) (RVs.mv k t rs)
theorem REv.mv {X Y : Addr → Prop} {H H' : Hp} (k : ∀ a o, isTbl o = false → H a = some o → ¬ X a → H' a = some o ∧ ¬ Y a) (t : KpT H H') : ∀ {kvs : List (Key × V)} {env : List (Int × Vl)}, REv C X H kvs env → REv C Y H' kvs env
  | _, _, .nil => .nil
  | _, _, .cons r rs => .cons (RV.mv k t r) (REv.mv k t rs)
end
variable {X Y : Addr → Prop} {H H' : Hp}
theorem Fr.kk (f : Fr X H H') : ∀ a o, isTbl o = false → H a = some o → ¬ X a → H' a = some o ∧ ¬ X a := fun a o t e n => ⟨f.keep n t e, n⟩
theorem RV.fr (f : Fr X H H') {v : V} {x : Vl} (r : RV C X H v x) : RV C X H' v x := r.mv f.kk f.tup
theorem RVs.fr (f : Fr X H H') {vs : List V} {xs : List Vl} (r : RVs C X H vs xs) : RVs C X H' vs xs := r.mv f.kk f.tup
theorem REv.fr (f : Fr X H H') {kvs : List (Key × V)} {env : List (Int × Vl)} (r : REv C X H kvs env) : REv C X H' kvs env := r.mv f.kk f.tup
/-- more may change, if it was not there -/
theorem grow_kk (g : ∀ a, Y a → X a ∨ H a = none) : ∀ a o, isTbl o = false → H a = some o → ¬ X a → H a = some o ∧ ¬ Y a := fun a o _ e n => ⟨e, fun z => (g a z).elim n fun q => by rw [e] at q; cases q⟩
theorem RV.grow (g : ∀ a, Y a → X a ∨ H a = none) {v : V} {x : Vl} (r : RV C X H v x) : RV C Y H v x := r.mv (grow_kk g) fun _ _ h => h
theorem RVs.grow (g : ∀ a, Y a → X a ∨ H a = none) {vs : List V} {xs : List Vl} (r : RVs C X H vs xs) : RVs C Y H vs xs := r.mv (grow_kk g) fun _ _ h => h
theorem RVs.len : ∀ {vs : List V} {xs : List Vl}, RVs C X H vs xs → vs.length = xs.length
  | _, _, .nil => rfl
  | _, _, .cons _ r => congrArg (· + 1) (RVs.len r)
theorem RVs.app : ∀ {vs ws : List V} {xs ys : List Vl}, RVs C X H vs xs → RVs C X H ws ys → RVs C X H (vs ++ ws) (xs ++ ys)
  | _, _, _, _, .nil, s => s
  | _, _, _, _, .cons r rs, s => .cons r (RVs.app rs s)
theorem RVs.one {v : V} {x : Vl} (r : RV C X H v x) : RVs C X H [v] [x] := .cons r .nil
theorem RVs.get : ∀ {vs : List V} {xs : List Vl} {i : Nat} {v : V}, RVs C X H vs xs → vs[i]? = some v → ∃ x, xs[i]? = some x ∧ RV C X H v x
  | _, _, _, _, .nil, e => by simp at e
  | _, _, 0, _, .cons r _, e => by cases e; exact ⟨_, rfl, r⟩
  | _, _, i + 1, _, .cons _ rs, e => by
    obtain ⟨t, h1, h2⟩ := RVs.get (i := i) rs (by simpa using e)
    exact ⟨t, by simpa using h1, h2⟩
theorem RVs.get2 : ∀ {vs : List V} {xs : List Vl} {i : Nat} {x : Vl}, RVs C X H vs xs → xs[i]? = some x → ∃ v, vs[i]? = some v ∧ RV C X H v x
  | _, _, _, _, .nil, e => by simp at e
  | _, _, 0, _, .cons r _, e => by cases e; exact ⟨_, rfl, r⟩
  | _, _, i + 1, _, .cons _ rs, e => by
    obtain ⟨t, h1, h2⟩ := RVs.get2 (i := i) rs (by simpa using e)
    exact ⟨t, by simpa using h1, h2⟩
theorem RVs.take : ∀ {vs : List V} {xs : List Vl} (n : Nat), RVs C X H vs xs → RVs C X H (vs.take n) (xs.take n)
  | _, _, 0, _ => .nil
  | _, _, _ + 1, .nil => .nil
  | _, _, n + 1, .cons r rs => .cons r (RVs.take n rs)
theorem RVs.drop : ∀ {vs : List V} {xs : List Vl} (n : Nat), RVs C X H vs xs → RVs C X H (vs.drop n) (xs.drop n)
  | _, _, 0, r => r
  | _, _, _ + 1, .nil => .nil
  | _, _, n + 1, .cons _ rs => RVs.drop n rs
theorem RVs.rev {vs : List V} {xs : List Vl} (r : RVs C X H vs xs) : RVs C X H vs.reverse xs.reverse := by
  induction vs generalizing xs with
  | nil => cases r; exact .nil
  | cons v vs ih =>
    cases r with
    | cons r rs =>
      rw [List.reverse_cons, List.reverse_cons]
      exact (ih rs).app (.one r)
theorem REv.len : ∀ {kvs : List (Key × V)} {env : List (Int × Vl)}, REv C X H kvs env → kvs.length = env.length
  | _, _, .nil => rfl
  | _, _, .cons _ r => congrArg (· + 1) (REv.len r)
/-- a name's value -/
def evGet (n : Int) : List (Int × Vl) → Option Vl
  | [] => none
  | (m, x) :: r => if m = n then some x else evGet n r
def evHas (n : Int) (env : List (Int × Vl)) : Bool := env.any fun p => decide (p.1 = n)
def evPut (n : Int) (y : Vl) (env : List (Int × Vl)) : List (Int × Vl) := if evHas n env = true then env.map (fun p => if p.1 = n then (p.1, y) else p) else env ++ [(n, y)]
def evPuts : List Int → List Vl → List (Int × Vl) → List (Int × Vl)
  | n :: ns, y :: ys, env => evPuts ns ys (evPut n y env)
  | _, _, env => env
theorem REv.app : ∀ {kvs lvs : List (Key × V)} {env env' : List (Int × Vl)}, REv C X H kvs env → REv C X H lvs env' → REv C X H (kvs ++ lvs) (env ++ env')
  | _, _, _, _, .nil, s => s
  | _, _, _, _, .cons r rs, s => .cons r (REv.app rs s)
theorem REv.get {n : Int} : ∀ {kvs : List (Key × V)} {env : List (Int × Vl)} {x : Vl}, REv C X H kvs env → evGet n env = some x → ∃ v, valV kvs (.inl n) = some v ∧ RV C X H v x
  | _, _, _, .nil, e => by cases e
  | _, _, x, .cons (n := m) (v := v) (x := x') (kvs := kvs) (env := env) r rs, e => by
    unfold evGet at e
    by_cases c : m = n
    · rw [if_pos c] at e
      cases e
      exact ⟨v, valV_pos (by rw [c]), r⟩
    · rw [if_neg c] at e
      obtain ⟨u, h1, h2⟩ := REv.get rs e
      exact ⟨u, by rw [valV_neg (fun z => c (Sum.inl.inj z))]; exact h1, h2⟩
theorem REv.has {n : Int} : ∀ {kvs : List (Key × V)} {env : List (Int × Vl)}, REv C X H kvs env → (kvs.any fun kv => decide (kv.1 = .inl n)) = evHas n env
  | _, _, .nil => rfl
  | _, _, .cons (n := m) (v := v) (x := x') (kvs := kvs) (env := env) r rs => by
    unfold evHas
    rw [List.any_cons, List.any_cons, REv.has rs]
    show (decide ((Sum.inl m : Key) = Sum.inl n) || evHas n env) = (decide (m = n) || evHas n env)
    rw [decide_eq_decide.mpr (show (Sum.inl m : Key) = Sum.inl n ↔ m = n from ⟨Sum.inl.inj, fun h => by rw [h]⟩)]
theorem REv.map {n : Int} {w : V} {y : Vl} (rw' : RV C X H w y) : ∀ {kvs : List (Key × V)} {env : List (Int × Vl)}, REv C X H kvs env → REv C X H (kvs.map fun kv => if kv.1 = .inl n then (kv.1, w) else kv) (env.map fun p => if p.1 = n then (p.1, y) else p)
  | _, _, .nil => .nil
  | _, _, .cons (n := m) (v := v) (x := x') (kvs := kvs) (env := env) r rs => by
    rw [List.map_cons, List.map_cons]
    by_cases c : m = n
    · have c2 : (Sum.inl m : Key) = .inl n := by rw [c]
      simp only [c2, c, if_true]
      exact .cons rw' (REv.map rw' rs)
    · have c2 : ¬ (Sum.inl m : Key) = .inl n := fun z => c (Sum.inl.inj z)
      simp only [c2, c, if_false]
      exact .cons r (REv.map rw' rs)
theorem REv.put {n : Int} {w : V} {y : Vl} {kvs : List (Key × V)} {env : List (Int × Vl)} (r : REv C X H kvs env) (rw' : RV C X H w y) : REv C X H (putK kvs (.inl n) w) (evPut n y env) := by
  unfold putK evPut
  rw [r.has]
  by_cases c : evHas n env = true
  · rw [if_pos c, if_pos c]; exact r.map rw'
  · rw [if_neg c, if_neg c]; exact r.app (.cons rw' .nil)
theorem evPut_len (n : Int) (y : Vl) (env : List (Int × Vl)) : (evPut n y env).length ≤ env.length + 1 := by
  unfold evPut
  split
  · rw [List.length_map]; omega
  · rw [List.length_append]; exact Nat.le_refl _
theorem evPuts_snoc : ∀ (ns : List Int) (ys : List Vl) (n : Int) (y : Vl) (env : List (Int × Vl)), ns.length = ys.length → evPuts (ns ++ [n]) (ys ++ [y]) env = evPut n y (evPuts ns ys env)
  | [], [], n, y, env, _ => rfl
  | a :: ns, b :: ys, n, y, env, e => by
    show evPuts (ns ++ [n]) (ys ++ [y]) (evPut a b env) = evPut n y (evPuts ns ys (evPut a b env))
    exact evPuts_snoc ns ys n y _ (by simpa using e)
theorem evPuts_len : ∀ (ns : List Int) (ys : List Vl) (env : List (Int × Vl)), (evPuts ns ys env).length ≤ env.length + ns.length
  | [], _, env => by cases ‹List Vl› <;> exact Nat.le_refl _
  | n :: ns, [], env => by unfold evPuts; omega
  | n :: ns, y :: ys, env => by
    have h1 := evPuts_len ns ys (evPut n y env)
    have h2 := evPut_len n y env
    unfold evPuts
    rw [List.length_cons]
    omega
end
end My
namespace My
open PySem PySem.Spec PyProof.Rows L2 TL
/-! ### the error that ends a program -/
structure BaseC (K : PySem.W.Frag) (mg : Str → Option Value) (F : Addr) : Prop where
  g : mg "FoldError" = some (.ref F)
  rd : PySem.W.readsIn K F (.type "type") = true
  ga : PySem.W.specialIn K (.ref F) "__getattribute__" = some (some (.builtin "type.__getattribute__"))
  ini : PySem.W.findCls K (.ref F) (.type "type") "__init__" = some (.val (.builtin "ValueError.__init__"))
theorem pe_baseInit {X : Cx} {e : Expr} {es : List Expr} {ta : TA} {p1 p2 pos : Pos} {F : Addr} {pl : Sem Bool} (B : BaseC X.K X.mg F) (hg : Gl X "FoldError") (ha : PA X (e :: es) ta)
    (hc : eval (.Call (.Attribute (.Name "FoldError" p1) "__init__" p2) (e :: es) [] pos) X.env = (do
      let ov ← eval (.Name "FoldError" p1) X.env
      standAt p2.atName
      let (f, first) ← holding [ov] (getMethod ov "__init__" pl)
      callWith pos f first (backTo pos (starEach (e :: es) X.env)) (backToKw pos (keywordEach [] X.env))) := by rfl)
    (he : starEach (e :: es) X.env = (false, eval e X.env) :: starEach es X.env := by rfl) (hpl : (backTo pos (starEach es X.env)).any (·.1) = false := by rfl) :
    PE X (.Call (.Attribute (.Name "FoldError" p1) "__init__" p2) (e :: es) [] pos) (tVeI X.K ta) := by
  refine ⟨fun pins s σ H Q I h => PySem.W.methodCall_KW (ld_glob I hg B.g ?_) hc⟩
  refine PySem.W.method_cls I.kIn B.ga (PySem.W.cls_value I.kIn B.rd B.ini rfl ?_)
  show wpAny _ _ (callWith pos (Value.builtin "ValueError.__init__") [] (backTo pos (starEach (e :: es) X.env)) []) _ _ _
  refine PyProof.Rows.callWith_method1 (thn (ha.run pos pins _ σ H _ (I.tok _) h) fun us s1 hh => ?_) he hpl
  obtain ⟨vs, H1, J, rv, a, C, ws, ev, hl, T, ea, q⟩ := hh
  subst ev
  cases rv with
  | @cons _ u0 _ ur r0 rr =>
    have eu : u0 = Value.ref a := r0
    subst eu
    refine oinit_ok T J ea ?_ fun s' J' => ⟨.non, H1, J', rfl, q⟩
    rw [← Paired.length rr]
    exact Nat.le_of_lt (small1000 hl)
/-- Cls.__init__(..) of a class of the program's own -/
structure InitC (P : Program) (w : World) (K : PySem.W.Frag) (mg : Str → Option Value) (base : Heap) (k : Nat) (x : Str) (ps : List Str) (sp : Sp) (R f : Addr) (fd : FuncData) : Prop where
  g : mg x = some (.ref R)
  rd : PySem.W.readsIn K R (.type "type") = true
  ga : PySem.W.specialIn K (.ref R) "__getattribute__" = some (some (.builtin "type.__getattribute__"))
  ini : PySem.W.findCls K (.ref R) (.type "type") "__init__" = some (.val (.ref f))
  ok : FnOk P w K mg base CX0 k f fd ps sp
  k : PySem.W.keepIn K (.ref f) = true
  b : Binds K fd ps []
def tInitC (sp : Sp) (ta : TA) : TE := fun σ H Q => ta σ H fun vs H1 => sp vs H1 Q (fun _ _ _ => False)
theorem pe_initC {X : Cx} {k : Nat} {x : Str} {e : Expr} {es : List Expr} {ta : TA} {p1 p2 pos : Pos} {R f : Addr} {fd : FuncData} {ps : List Str} {sp : Sp} {pl : Sem Bool} (B : InitC X.prog X.w X.K X.mg X.base k x ps sp R f fd) (hr : Room k X.A) (hg : Gl X x) (ha : PA X (e :: es) ta) (hdb : (x == ("__debug__" : Str)) = false := by decide)
    (hc : eval (.Call (.Attribute (.Name x p1) "__init__" p2) (e :: es) [] pos) X.env = (do
      let ov ← eval (.Name x p1) X.env
      standAt p2.atName
      let (f, first) ← holding [ov] (getMethod ov "__init__" pl)
      callWith pos f first (backTo pos (starEach (e :: es) X.env)) (backToKw pos (keywordEach [] X.env))) := by rfl)
    (he : starEach (e :: es) X.env = (false, eval e X.env) :: starEach es X.env := by rfl) (hpl : (backTo pos (starEach es X.env)).any (·.1) = false := by rfl) :
    PE X (.Call (.Attribute (.Name x p1) "__init__" p2) (e :: es) [] pos) (tInitC sp ta) := by
  refine ⟨fun pins s σ H Q I h => PySem.W.methodCall_KW (ld_glob I hg B.g ?_ hdb) hc⟩
  refine PySem.W.method_cls I.kIn B.ga (PySem.W.cls_value I.kIn B.rd B.ini rfl ?_)
  refine PySem.W.callWith_K (first := []) (h₀ := X.base) I.ok.mod.kin B.k (thn (ha.run pos pins _ σ H _ (I.tok _) h) fun us s1 ⟨vs, H1, I1, r, q⟩ => ⟨I1.kIn, ?_⟩) he hpl
  have q2 : sp (vs ++ []) H1 Q (fun _ _ _ => False) := by rw [List.append_nil]; exact q
  exact run_fn (us := us) (vs := vs) (dvs := []) (ds := []) B.ok hr B.b .nil pass0 I1 r q2
/-- __init__(self, outcome) -/
def spIniO (C : Addr) : Sp := fun vs H Q _ => ∃ (a : Addr) (v : V), vs = [.ref a, v] ∧ H a = some (exo a C none) ∧
  ∀ d, H d = none → d ≠ a → Q .non (upd (upd H d (exd d [("outcome", v)])) a (exo a C (some d)))
abbrev sIniE : Stmt := inClass (top 14) 0
theorem scIniE : FnScope ["self", "outcome"] ["self", "outcome"] (defScope sIniE) := ⟨rfl, rfl, rfl, by decide +kernel, rfl, by decide +kernel, by decide +kernel⟩
theorem ok_iniE {P : Program} {w : World} {K : PySem.W.Frag} {mg : Str → Option Value} {base : Heap} {f F C : Addr} {fd : FuncData} (Fn : Fun K "__init__" "Ended.__init__" sIniE f fd) (B : BaseC K mg F) (T : OexC K C) (hno : PySem.W.findIn K (.ref C) "outcome" = some none) :
    FnOk P w K mg base CX0 1 f fd ["self", "outcome"] (spIniO C) := by
  refine Fn.ok scIniE (fun vs H Q E h => ?_) (fun cdv A outer s H vs Q E hr h => ?_)
  · obtain ⟨a, i, rfl, _⟩ := h
    rfl
  obtain ⟨a, z, rfl, ea, q⟩ := h
  refine ⟨_, pss_cons (ps_expr (pe_baseInit B rfl (pa_cons (pv 0) (pa_cons pe_str pa_nil))))
    (pss_one (ps_ost (pv 0) (pv 1))), ?_⟩
  refine ⟨_, rfl, ?_⟩
  refine ⟨a, C, _, rfl, by show 1 ≤ 1000; decide, T, ea, ?_⟩
  refine ⟨_, rfl, _, rfl, a, C, rfl, T, hno, .inl ⟨ea, fun d hd hda => q d hd hda⟩⟩
structure ErrO (P : Program) (w : World) (K : PySem.W.Frag) (mg : Str → Option Value) (base : Heap) (C fI : Addr) (fdI : FuncData) : Prop where
  o : OexC K C
  g : mg "Ended" = some (.ref C)
  iC : PySem.W.findIn K (.ref C) "__init__" = some (some (.ref fI))
  tI : PySem.W.typeIn K (.ref fI) = some (.type "function")
  f : FnOk P w K mg base CX0 1 fI fdI ["self", "outcome"] (spIniO C)
  b : Binds K fdI ["self", "outcome"] []
/-- the program ends with this outcome -/
def erX (X : Addr → Prop) (C : Addr) (ws : List Str) (H : Hp) (E : XK) : Prop := ∀ H' d t, Fr X H H' → H d = none → H' d = some (.xd [("outcome", .ref t)]) → H' t = some (.tup (ws.map .str)) → E (.ref C) (some d) H'
theorem erX.fr {X : Addr → Prop} {C : Addr} {ws : List Str} {H H1 : Hp} {E : XK} (f : Fr X H H1) (h : erX X C ws H E) : erX X C ws H1 E := fun H' d t f2 hd e1 e2 => h H' d t (f.trans f2) (f.dom hd) e1 e2
theorem mkO_er {X : Addr → Prop} {C t : Addr} {H H0 : Hp} {ws : List Str} {Q : XK} {ta : TA} {σ : L2.St} (ht : H t = some (.tup (ws.map .str))) (h : ∀ Q' : List V → Hp → Prop, Q' [.ref t] H → ta σ H0 Q')
    (f : Fr X H0 H) (q : erX X C ws H0 Q) : tMkO C (spIniO C) [] ta σ H0 Q := by
  refine h _ ⟨by show 1 ≤ 1000; decide, fun a ha => ?_⟩
  refine ⟨a, .ref t, rfl, upd_same, fun d hd hda => ⟨rfl, d, [("outcome", .ref t)], upd_same, ?_, ?_, ?_⟩⟩
  · rw [upd_ne hda, upd_same]
  · rw [upd_ne hda] at hd; exact hd
  have hd0 : H d = none := by rw [upd_ne hda] at hd; exact hd
  have ne_a : ∀ {b : Addr} {o : HO}, H b = some o → b ≠ a := fun {b o} e z => by rw [z, ha] at e; cases e
  have ne_d : ∀ {b : Addr} {o : HO}, H b = some o → b ≠ d := fun {b o} e z => by rw [z, hd0] at e; cases e
  have val : ∀ {b : Addr} {o : HO}, H b = some o → (upd (L2.del (upd (upd (upd H a (exo a C none)) d (exd d [("outcome", V.ref t)])) a (exo a C (some d))) a) d (.xd [("outcome", .ref t)])) b = some o := fun {b o} e => by
    rw [upd_ne (ne_d e), del_ne (ne_a e), upd_ne (ne_a e), upd_ne (ne_d e), upd_ne (ne_a e)]
    exact e
  refine q _ d t (f.trans ⟨⟨fun b o _ _ e => val e, fun Z ⟨ps, z1, z2⟩ => ⟨ps, val z1, z2⟩, fun b e => ?_⟩, fun a xs e => val e⟩) (f.dom hd0) upd_same (val ht)
  cases q : H b with
  | none => rfl
  | some o => rw [val q] at e; cases e
/-- .. of an outcome that is written where it is raised -/
theorem mkO_ws {X : Addr → Prop} {C : Addr} {H0 : Hp} {ws : List Str} {Q : XK} {ta : TA} {σ : L2.St} (h : ∀ Q' : List V → Hp → Prop, (∀ t, H0 t = none → Q' [.ref t] (upd H0 t (.tup (ws.map .str)))) → ta σ H0 Q') (q : erX X C ws H0 Q) : tMkO C (spIniO C) [] ta σ H0 Q := by
  refine h _ fun t ht => ?_
  have z := mkO_er (X := X) (C := C) (t := t) (H := upd H0 t (.tup (ws.map .str))) (H0 := H0) (ws := ws) (Q := Q) (ta := fun _ _ Q' => Q' [.ref t] (upd H0 t (.tup (ws.map .str)))) (σ := σ) upd_same (fun _ z => z) (Fr.new ht) q
  exact z
theorem mkO_1 {X : Addr → Prop} {C : Addr} {H0 : Hp} {a : Str} {Q : XK} {σ : L2.St} (q : erX X C [a] H0 Q) : tMkO C (spIniO C) [] (tCons (tTup (tCons (tC (.str a)) tNil)) tNil) σ H0 Q :=
  mkO_ws (ws := [a]) (fun Q' h => ⟨by show 1 ≤ sizeLine; decide, fun t ht => h t ht⟩) q
theorem mkO_2 {X : Addr → Prop} {C : Addr} {H0 : Hp} {a b : Str} {Q : XK} {σ : L2.St} (q : erX X C [a, b] H0 Q) : tMkO C (spIniO C) [] (tCons (tTup (tCons (tC (.str a)) (tCons (tC (.str b)) tNil))) tNil) σ H0 Q :=
  mkO_ws (ws := [a, b]) (fun Q' h => ⟨by show 2 ≤ sizeLine; decide, fun t ht => h t ht⟩) q
/-! ### classes -/
/-- a class whose objects have these fields -/
structure FldC (K : PySem.W.Frag) (C : Addr) (fs : List Str) : Prop where
  c : Cls K C
  n : ∀ f ∈ fs, NoAttr K C f
/-- what an object is to isinstance -/
structure InsC (K : PySem.W.Frag) (C : Addr) : Prop where
  ha : PySem.W.findIn K (.ref C) "__class__" = some (some (.builtin "object.__class__"))
  hm : PySem.W.mroIn K C (.type "object") = some true
structure ObC (K : PySem.W.Frag) : Prop where
  hn : PySem.W.specialIn K (.builtin "object.__class__") "__get__" = some (some (.builtin "getset_descriptor.__get__"))
  ht : PySem.W.takesIn K (.builtin "object.__class__") = some true
theorem ty_ins {K : PySem.W.Frag} {H : Hp} {a C dx : Addr} {fs : List (Str × V)} (O : ObC K) (c : Cls K C) (i : InsC K C) (e : H a = some (.ins C dx fs)) : TyX K H (.ref a) (.ref C) := .base (.ins e c i.ha O.hn O.ht i.hm)
/-- C(..): how an object is made -/
structure MkC (P : Program) (w : World) (K : PySem.W.Frag) (mg : Str → Option Value) (base : Heap) (k : Nat) (x : Str) (ps : List Str) (sp : Sp) (C f : Addr) (fd : FuncData) : Prop where
  m : Mk K C f
  ok : FnOk P w K mg base CX0 k f fd ps sp
  g : mg x = some (.ref C)
  b : Binds K fd ps []
/-- __init__ that only stores: the object then has these fields -/
def spIni (C : Addr) (n : Nat) (mkF : List V → List (Str × V)) : Sp := fun vs H Q _ => ∃ (x dx : Addr) (us : List V), vs = .ref x :: us ∧ us.length = n ∧ H x = some (.ins C dx []) ∧ Q .non (upd H x (.ins C dx (mkF us)))
end My
namespace My
open PySem PySem.Spec PyProof.Rows L2 GxR
theorem ad_lt {b N m : Nat} (e : b = N) (h : N + 1 ≤ m) : b < m := by omega
theorem ad_ltlt {b N m : Nat} (e : b < N) (h : N + 1 ≤ m) : b < m := by omega
theorem ad_no {b N : Nat} (e : b = N) (h : b < N) : False := by omega
theorem ad_no2 {b N m : Nat} (e : b = m) (h : b < N) (h2 : N + 1 ≤ m) : False := by omega
/-- the element of a generator expression over signs, where it may read the module's names -/
def EltG (prog : Program) (w : World) (mg : Str → Option Value) (sc : Scope) (x : Str) (e : Expr) (pb : Nat → Bool) : Prop :=
  ∀ (ce : Env) (A' : Around) (E' : Value → Shared → Prop) (c : Nat) (t : Tok) (z : Shared) (m : Str → Option Value),
    ce.scope = sc → ce.globals = mainGlobals → z.heap.Ns mainGlobals mg → z.heap.Ns ce.locals m → m x = some (.str ⟨#[c]⟩ t) →
    wpAny (model prog w) A' (eval e ce) (fun y z' => y = .bool (pb c) ∧ Keeps z z') E' z
/-- x in NAME, NAME a text of the module -/
theorem elt_inG {prog : Program} {w : World} {mg : Str → Option Value} {sc : Scope} {x g : Str} {k : Str} {tk : Tok} {p1 p2 p3 : Pos} (hk : sc.kind = .function)
    (hl : sc.names.lookup x = some .local) (hgl : sc.names.lookup g = some .globalImplicit) (hm : mg g = some (.str k tk))
    (hd : (x == ("__debug__" : Str)) = false := by decide) (hd2 : (g == ("__debug__" : Str)) = false := by decide) :
    EltG prog w mg sc x (.Compare (.Name x p1) [.In] [.Name g p2] p3) (fun c => decide (c ∈ k.cps.toList)) := by
  intro ce A' E' c t z m hs hg hG hn hx
  refine wpAny_Compare1 ?_
  refine wpAny_Name (wpAny_loadName_local (by rw [hs]; exact hk) (show ce.scope.names.lookup x = some .local by rw [hs]; exact hl) hn hx ?_) hd
  refine Calls.Name_function_global (by rw [hs]; exact hk) (show ce.scope.names.lookup g = some .globalImplicit by rw [hs]; exact hgl) (Calls.loadGlobal_global (by rw [hg]; exact hG) hm ?_) hd2
  exact PyProof.Rows.in_str ⟨congrArg Value.bool (PySem.StrLaws.found_one k c), keeps_refl _⟩
section
variable {X : Cx} {pins : List (Addr × Obj)} {σ : L2.St} {H : Hp} {s : Shared}
theorem genG {c P : Addr} {elt iter : Expr} {x : Str} {px gpos : Pos} {scope : Scope} {pb : Nat → Bool} {te : TE} {k : Nat} {Q' : Value → Shared → Prop} {R : Str → Hp → Prop}
    (hr : Room k X.A) (TB : TabB X.base X.mg c P) (hcode : X.env.code = .ref c) (S : GenS X.env scope x) (hi : PE X iter te)
    (hel : EltG X.prog X.w X.mg scope x elt pb) (hs : ∀ v, genFold iter X.env v = pure v) (I : Inv X pins σ H s)
    (h : te σ H fun v H1 => ∃ a : Str, v = .str a ∧ TabG H1 P ∧ R a H1)
    (hQ : ∀ a H1 g s5, R a H1 → Ready X pins σ H1 P a pb g s5 → Q' (.ref g) s5) :
    wpAny (model X.prog X.w) X.A (eval (.GeneratorExp elt [⟨.Name x px, iter, [], 0⟩] scope gpos) X.env) Q' X.xe s := by
  refine wpAny_GeneratorExp_walksQ hr.hd S.co (closure_ok S.free) S.cell S.dot S.loc S.kind hr.depth ?_ hs
  refine thn (hi.run pins s σ H _ I h) fun xv s1 hx => ?_
  obtain ⟨v, H1, J, rv, a, ev, ⟨ps, tP, tOk⟩, hR⟩ := hx
  subst ev
  obtain ⟨t, et⟩ := (show ∃ t, xv = Value.str a t from rv)
  subst et
  refine wpAny_pyIter_str fun o St W st0 => ?_
  generalize hN : s1.heap.objs.size = N at W st0 ⊢
  have gP : s1.heap.get? P = some { cls := .none, data := .fields ps } := J.hok P _ tP
  have ltP : P < N := by rw [← hN]; exact Heap.lt_size gP
  have szO : (s1.heap.push o).objs.size = N + 1 := by rw [Heap.size_push, hN]
  have kO : ∀ b u, s1.heap.get? b = some u → (s1.heap.push o).get? b = some u := fun b u e => Heap.get?_push_of_some _ e
  have codeO : PySem.W.CodeHd (s1.heap.push o) c P := TB.code.keeps fun b u e => kO b u (J.bk b u e)
  have limO : (s1.heap.push o).NoLimit := J.nolimit.push o
  have statics : cStatics < N := by
    obtain ⟨_, hn, _⟩ := J.nolimit
    rw [← hN]
    exact hn.lt
  have staticsP : cStatics ≠ P := fun e => by
    obtain ⟨_, hn, _⟩ := J.nolimit
    obtain ⟨q, _, _, hq, hqd, _⟩ := hn
    rw [e, gP] at hq
    cases hq
    cases hqd
  refine ⟨limO, ?_⟩
  have main : ∀ (code : Value) (h3 : Heap) (tk : Nat) (ps' : Array Value), Heap.ExtBut P (s1.heap.push o) h3 → N + 1 ≤ h3.objs.size →
      h3.get? P = some { cls := .none, data := .fields ps' } → (∃ more, ps' = ps ++ more) → TriplesOk ps'.toList →
      wpAny (model X.prog X.w) X.A (builtinsFor X.env.globals X.env.builtins) (fun bi s₄ =>
        ∃ Ia fp wr n₀ Pf St₀ pz F, Value.ref N = .ref Ia ∧ (∀ A' : Around, A'.handled = none → Walks X.prog X.w A' Ia fp wr n₀ Pf St₀) ∧ St₀ 0 s₄.heap ∧
          (∀ b ∈ fp, b < s₄.heap.objs.size) ∧ s₄.heap.NoLimit ∧ cStatics ∉ wr ∧
          (∀ href : Heap, (∀ b o, s₄.heap.get? b = some o → href.get? b = some o) →
            QuietGen X.prog X.w (genEnv scope (cloFrom X.env.cells scope.names []) s₄.heap.objs.size code bi X.env) x [] elt (List.range s₄.heap.objs.size) wr Pf pz F href) ∧
          (∀ a h₅ tk gs, gs.bare = true → s₄.heap.objs.size < a → h₅.objs.size = a + 1 → (∀ b o, s₄.heap.get? b = some o → h₅.get? b = some o) →
            WalksS X.prog X.w X.A.in4 a (a :: s₄.heap.objs.size :: List.range s₄.heap.objs.size) (s₄.heap.objs.size :: wr) (GenOnlyQ s₄.gens.size) (passing pz n₀ 0).length
              (fun j y => ∃ i, (passing pz n₀ 0)[j]? = some i ∧ F i y) (GenAt X.prog X.w X.A.in4 a s₄.gens.size s₄.heap.objs.size (List.range s₄.heap.objs.size) wr pz n₀ F) →
            GenAt X.prog X.w X.A.in4 a s₄.gens.size s₄.heap.objs.size (List.range s₄.heap.objs.size) wr pz n₀ F 0 { s₄ with gens := s₄.gens.push gs, toks := tk, heap := h₅ } →
            Q' (.ref a) { s₄ with gens := s₄.gens.push gs, toks := tk, heap := h₅ })) X.xe { s1 with heap := h3, toks := tk } := by
    intro code h3 tk ps' hx hsz hP3 hmore ht3
    have k3 : ∀ b u, b ≠ P → s1.heap.get? b = some u → h3.get? b = some u := fun b u hb e => hx b u hb (kO b u e)
    have glob3 : h3.Ns mainGlobals X.mg := ((J.mod.glob.keeps J.bk).push o).extBut hx TB.gP
    obtain ⟨bm, ob, b1, b2, b3, b4, b5, b6, b7, b8⟩ := TB.bm
    refine wpAny_builtinsFor (m := X.mg) (by rw [J.ok.glob]; exact glob3) b1 b2 (k3 _ _ b4 (J.bk _ _ b5)) b6 b7 b8 ?_
    refine ⟨N, [N], [N], a.cps.size, SignAt a, St, (fun _ => true), (fun i y => ∃ q, a.cps[i]? = some q ∧ y = .bool (pb q)), rfl, W, ?_, ?_, limO.extBut hx staticsP, ?_, ?_, ?_⟩
    · refine (W X.A hr.hd).frame _ _ _ st0 fun b hb u e => hx b u (fun z => ?_) e
      have eb : b = N := by simpa using hb
      exact ad_no (z.symm.trans eb) ltP
    · intro b hb
      have eb : b = N := by simpa using hb
      exact ad_lt eb hsz
    · intro z
      have eb : cStatics = N := by simpa using z
      rw [eb] at statics
      exact Nat.lt_irrefl _ statics
    · intro href keepH
      have ltG : mainGlobals < N := by
        obtain ⟨q, _, _, hq, _⟩ := J.mod.glob.keeps J.bk
        rw [← hN]
        exact Heap.lt_size hq
      refine ⟨fun A' E' i v z m hA hv hn hm hk => ?_, fun A' E' i v z m hA hv hp hn hm hk => ?_⟩
      · simp only [List.forIn_nil]
        exact wpAny_pure ⟨rfl, keeps_refl _⟩
      · obtain ⟨q, u, hq, ev⟩ := hv
        subst ev
        have globZ : z.heap.Ns mainGlobals X.mg := by
          obtain ⟨og, es, ep, ho, hrest⟩ := glob3
          refine ⟨og, es, ep, hk mainGlobals (List.mem_range.mpr ?_) (fun hw => ?_) og (keepH _ _ ho), hrest⟩
          · exact ad_ltlt ltG hsz
          · have eb : mainGlobals = N := by simpa using hw
            exact ad_no eb ltG
        exact wpAny_mono (hel _ A' E' q u z m rfl J.ok.glob globZ hn hm) (fun y z' r => ⟨⟨q, hq, r.1⟩, r.2⟩) fun _ _ e => e
    · intro g h5 tk5 gs hgb hag hsz5 hk5 W5 at0
      simp only [GxR.passing_true, List.length_range] at W5
      refine hQ a H1 g _ hR ⟨_, _, _, _, _, W5.in4_1, at0, ?_, fun s' mv => ?_⟩
      · rintro j y sj Qj Ej ⟨i, hij, q, hq, rfl⟩ hQj
        obtain ⟨hj, ej⟩ := List.getElem?_eq_some_iff.mp hij
        rw [List.getElem_range] at ej
        subst ej
        have e9 : a.cps.toList[j]? = some q := by rw [Array.getElem?_toList]; exact hq
        have hQ2 : Qj (trF pb a.cps.toList j) sj := hQj
        rw [trF_some e9] at hQ2
        exact wpAny_truthy_bool hQ2
      · obtain ⟨more, em⟩ := hmore
        have nwr : ∀ b u, s1.heap.get? b = some u → b ∉ h3.objs.size :: [N] := fun b u e hb => by
          have hl : b < N := by rw [← hN]; exact Heap.lt_size e
          rcases List.mem_cons.mp hb with z | z
          · exact ad_no2 z hl hsz
          · have eb : b = N := by simpa using z
            exact ad_no eb hl
        have K2 := inv_tab (more := more) (h' := s'.heap) (g' := s'.gens) (d' := s'.drawn) (t' := s'.toks) J tP
          (fun b u hb e => mv.heap b u (nwr b u e) (hk5 b u (k3 b u hb e))) (by rw [← em]; exact mv.heap P _ (nwr P _ gP) (hk5 P _ hP3)) (AllBare.movedS (J.bare.push hgb) mv)
        rw [sh_eta s1 s' mv.os] at K2
        exact ⟨upd H1 P (.tbl (ps ++ more)), ⟨⟨ps ++ more, upd_same, by rw [← em]; exact ht3⟩, fun b hb => upd_ne hb⟩, K2⟩
  cases hf : codeAmong gpos ps.toList with
  | none =>
    refine wpAny_genexprCodeX hcode (codeO.code (kO _ _ gP) tOk) (codeO.tab (kO _ _ gP)) hf fun c' h' tk hx hge hlt hco' _ htab' _ => ?_
    obtain ⟨o1, vs, f1, tf, fl, tg, inF, tx, tt, op, _, _, _, _, _, _, _, _, _, htr, _⟩ := hco'
    refine main _ h' tk _ hx ?_ htab'.2 ⟨_, rfl⟩ htr
    rw [szO] at hge
    exact Nat.le_trans hge (Nat.le_of_lt hlt)
  | some cv =>
    refine wpAny_genexprCode_hit hcode (codeO.code (kO _ _ gP) tOk) hf ?_
    exact main cv (s1.heap.push o) s1.toks ps (Heap.ExtBut.refl _ _) (Nat.le_of_eq szO.symm) (kO _ _ gP) ⟨#[], by simp⟩ tOk
/-- all(test for x in e), e a text -/
theorem pe_allG {c P : Addr} {elt iter : Expr} {x : Str} {px p pos gpos : Pos} {scope : Scope} {pb : Nat → Bool} {te : TE} {k : Nat}
    (hr : Room k X.A) (hg : Gl X "all") (hm : X.mg "all" = none) (hb : bootBuiltins "all" = some (.builtin "all")) (TB : TabB X.base X.mg c P) (hcode : X.env.code = .ref c) (S : GenS X.env scope x)
    (hi : PE X iter te) (hel : EltG X.prog X.w X.mg scope x elt pb) (hs : ∀ v, genFold iter X.env v = pure v)
    (he : starEach [.GeneratorExp elt [⟨.Name x px, iter, [], 0⟩] scope gpos] X.env = (false, eval (.GeneratorExp elt [⟨.Name x px, iter, [], 0⟩] scope gpos) X.env) :: starEach [] X.env := by rfl) :
    PE X (.Call (.Name "all" p) [.GeneratorExp elt [⟨.Name x px, iter, [], 0⟩] scope gpos] [] pos) (tAllS P pb te) := by
  refine ⟨fun pins s σ H Q I h => wpAny_Call_Name_kw (ld_blt I hg hm hb (PyProof.Rows.callWith_builtin1 ?_ he (by rfl)))⟩
  rw [he]
  show wpAny _ _ (spliced ((false, eval (.GeneratorExp elt [⟨.Name x px, iter, [], 0⟩] scope gpos) X.env) :: backTo pos (starEach [] X.env))) _ _ s
  refine Calls.spliced_cons (genG (R := fun a H1 => ∀ H2, Tabbed P H1 H2 → Q (.bl (a.cps.toList.all pb)) H2) hr TB hcode S hi hel hs I h fun a H1 g z hR rdy => Calls.spliced_nil ?_)
  obtain ⟨fp, wr, G, F, St, W, st0, tru, back⟩ := rdy
  refine call_all_walkS (W.self 0 _ _ _ st0 ⟨g, fp, wr, G, _, F, St, _, rfl, W, st0, tru, fun z' mv => ?_⟩)
  obtain ⟨H2, tb, K2⟩ := back z' mv
  have q := hR H2 tb
  rw [← all_signs a pb] at q
  exact ⟨.bl _, H2, K2, rfl, q⟩
end
end My
namespace My
open PySem PySem.Spec PyProof.Rows L2 TL GxR
/-! ### all(isinstance(x, int) for x in xs): xs a list of ints and of objects of own classes -/
def KU (K : PySem.W.Frag) (h : Heap) (u : Value) (b : Bool) : Prop := ∃ (t : Value) (Z : Heap → Prop), PySem.W.KitX K u t Z ∧ Z h ∧ u ≠ .builtin "__main__.__loader__#opaque" ∧ PySem.W.kitOne K t (.type "int") = some b
def KI (K : PySem.W.Frag) (H : Hp) (v : V) (b : Bool) : Prop := (∃ i, v = .int i ∧ b = true) ∨ (∃ (a C dx : Addr) (fs : List (Str × V)), v = .ref a ∧ H a = some (.ins C dx fs) ∧ Cls K C ∧ InsC K C ∧ ObC K ∧ PySem.W.kitOne K (.ref C) (.type "int") = some false ∧ b = false)
def KIs (K : PySem.W.Frag) (H : Hp) (vs : List V) (bs : List Bool) : Prop := bs.length = vs.length ∧ ∀ (i : Nat) (v : V), vs[i]? = some v → ∃ b, bs[i]? = some b ∧ KI K H v b
theorem ku_of {X : Cx} {pins : List (Addr × Obj)} {σ : L2.St} {H : Hp} {s : Shared} {v : V} {u : Value} {b : Bool} {P : Addr} {ps : Array Value} (I : Inv X pins σ H s) (r : RelV v u) (q : KI X.K H v b) (tP : H P = some (.tbl ps)) {z : Heap} (old : ∀ q u, q ≠ P → s.heap.get? q = some u → z.get? q = some u) : KU X.K z u b := by
  rcases q with ⟨i, rfl, rfl⟩ | ⟨a, C, dx, fs, rfl, ea, cl, ic, O', hk, rfl⟩
  · obtain ⟨t, e⟩ := (show ∃ t, u = Value.int i t from r)
    cases e
    exact ⟨_, _, PySem.W.kitx_int, True.intro, (fun z => nomatch z), kit_ty (show kitB "int" "int" = some true by decide +kernel)⟩
  · cases (show u = Value.ref a from r)
    obtain ⟨mA, O, _, _, _, hdx⟩ := ins_get I.hok ea
    obtain ⟨od, J, _⟩ := O.look
    refine ⟨_, _, PySem.W.kitx_own (ox := PySem.W.instObj C dx) (od := od) (cl.get _) cl.hd ic.ha O'.hn O'.ht ic.hm, ⟨old _ _ (fun z => ?_) J.at_, rfl, rfl, old _ _ (fun z => ?_) J.dict⟩, (fun z => nomatch z), hk⟩
    · rw [z, tP] at ea; cases ea
    · rw [z, tP] at hdx; cases hdx
theorem vals_at {xs : List V} {us : List Value} (r : Vals xs us) {i : Nat} {u : Value} (e : us[i]? = some u) : ∃ v, xs[i]? = some v ∧ RelV v u := by
  cases h : xs[i]? with
  | none => rw [r.none_of h] at e; cases e
  | some v =>
    obtain ⟨u', e', q⟩ := r.get h
    rw [e] at e'
    cases e'
    exact ⟨v, rfl, q⟩
/-- the element, where what s1 held but P is held -/
def EltI (X : Cx) (sc : Scope) (x : Str) (e : Expr) (D U : Nat) (P : Addr) (s1 : Shared) : Prop :=
  ∀ (ce : Env) (A' : Around) (E' : Value → Shared → Prop) (v : Value) (b : Bool) (z : Shared) (m : Str → Option Value), ce.scope = sc → ce.globals = mainGlobals → ce.builtins = builtinsNs → ce.cells = cloFrom X.env.cells sc.names [] → A'.handled = none → A'.depth ≤ D → A'.units ≤ U →
    (∀ q o, q ≠ P → s1.heap.get? q = some o → z.heap.get? q = some o) → z.heap.Ns ce.locals m → m x = some v → KU X.K z.heap v b → wpAny (model X.prog X.w) A' (eval e ce) (fun y z' => y = .bool b ∧ Keeps z z') E' z
def trB (bs : List Bool) (j : Nat) : Bool := trF (fun n => n == 1) (bs.map fun b => if b = true then 1 else 0) j
theorem trB_some {bs : List Bool} {j : Nat} {b : Bool} (h : bs[j]? = some b) : trB bs j = b := by
  unfold trB
  rw [trF_some (b := if b = true then 1 else 0) (by rw [List.getElem?_map, h]; rfl)]
  cases b <;> rfl
theorem all_trB (bs : List Bool) : (List.range bs.length).all (trB bs) = bs.all id := by
  have := all_trF (bs.map fun b => if b = true then 1 else 0) (fun n => n == 1)
  rw [List.length_map] at this
  show (List.range bs.length).all (trF _ _) = _
  rw [this, List.all_map]
  congr 1
  funext b
  cases b <;> rfl
theorem any_trB (bs : List Bool) : (List.range bs.length).any (trB bs) = bs.any id := by
  have := any_trF (bs.map fun b => if b = true then 1 else 0) (fun n => n == 1)
  rw [List.length_map] at this
  show (List.range bs.length).any (trF _ _) = _
  rw [this, List.any_map]
  congr 1
  funext b
  cases b <;> rfl
def ReadyB (X : Cx) (pins : List (Addr × Obj)) (σ : L2.St) (H1 : Hp) (P : Addr) (bs : List Bool) (g : Addr) (s5 : Shared) : Prop :=
  ∃ (fp wr : List Addr) (G : Array GenState → Array GenState → Prop) (F : Nat → Value → Prop) (St : Nat → Shared → Prop), WalksS X.prog X.w X.A.in1 g fp wr G bs.length F St ∧ St 0 s5 ∧ TruthOf X.prog X.w X.A.in1 F (trB bs) ∧
    ∀ s', Moved wr G s5 s' → ∃ H2, Tabbed P H1 H2 ∧ Inv X pins σ H2 s'
section
variable {X : Cx} {pins : List (Addr × Obj)} {σ : L2.St} {H : Hp} {s : Shared}
theorem genI {c P : Addr} {elt iter : Expr} {x : Str} {px gpos : Pos} {scope : Scope} {te : TE} {k : Nat} {Q' : Value → Shared → Prop} {R : List Bool → Hp → Prop} {G0 : L2.St → Hp → Prop}
    (hr : Room k X.A) (TB : TabB X.base X.mg c P) (hcode : X.env.code = .ref c) (S : GenS X.env scope x) (hi : PE X iter te)
    (hel : ∀ (pins : List (Addr × Obj)) (s1 : Shared) (H1 : Hp), Inv X pins σ H1 s1 → G0 σ H1 → TabG H1 P → EltI X scope x elt (X.A.depth + 1) (X.A.units + 8) P s1) (hs : ∀ v, genFold iter X.env v = pure v) (I : Inv X pins σ H s)
    (h : te σ H fun v H1 => ∃ (l : Addr) (vs : List V) (bs : List Bool), v = .ref l ∧ H1 l = some (.lst vs) ∧ KIs X.K H1 vs bs ∧ TabG H1 P ∧ G0 σ H1 ∧ R bs H1)
    (hQ : ∀ bs H1 g s5, R bs H1 → ReadyB X pins σ H1 P bs g s5 → Q' (.ref g) s5) :
    wpAny (model X.prog X.w) X.A (eval (.GeneratorExp elt [⟨.Name x px, iter, [], 0⟩] scope gpos) X.env) Q' X.xe s := by
  refine wpAny_GeneratorExp_walksQD hr.hd S.co (closure_ok S.free) S.cell S.dot S.loc S.kind hr.depth (thn (hi.run pins s σ H _ I h) fun xv s1 hx => ?_) hs
  obtain ⟨v, H1, J, rv, l, vs, bs, ev, hl, ⟨lbs, al⟩, ⟨ps, tP, tOk⟩, hG, hR⟩ := hx
  subst ev
  obtain rfl : xv = Value.ref l := rv
  have EL := hel pins s1 H1 J hG ⟨ps, tP, tOk⟩
  obtain ⟨its, rits, pl, _⟩ := J.list (SqL.of hl)
  have isl := pl.isList
  have szI : its.toArray.size = bs.length := by rw [List.size_toArray, ← rits.length, lbs]
  refine wpAny_pyIter_list isl ?_
  generalize hN : s1.heap.objs.size = N
  generalize ho : ({ cls := .type "list_iterator", data := .fields #[.ref l, .int 0 0] } : Obj) = o
  have isit : (s1.heap.push o).IsListIter N l 0 := by rw [← ho, ← hN]; exact ⟨_, Heap.get?_push_size _ rfl, rfl, rfl⟩
  have gP : s1.heap.get? P = some { cls := .none, data := .fields ps } := J.hok P _ tP
  have ltP : P < N := by rw [← hN]; exact Heap.lt_size gP
  have ltl : l < N := by rw [← hN]; obtain ⟨q, e, _⟩ := isl; exact Heap.lt_size e
  have szO : (s1.heap.push o).objs.size = N + 1 := by rw [Heap.size_push, hN]
  have kO : ∀ b u, s1.heap.get? b = some u → (s1.heap.push o).get? b = some u := fun b u e => Heap.get?_push_of_some _ e
  have codeO : PySem.W.CodeHd (s1.heap.push o) c P := TB.code.keeps fun b u e => kO b u (J.bk b u e)
  have limO : (s1.heap.push o).NoLimit := J.nolimit.push o
  have nPl : l ≠ P := fun e => by rw [e, tP] at hl; cases hl
  have stLt : cStatics < N := by
    obtain ⟨_, hn, _⟩ := J.nolimit
    rw [← hN]
    exact hn.lt
  have stP : cStatics ≠ P := fun e => by
    obtain ⟨_, hn, _⟩ := J.nolimit
    obtain ⟨q, _, _, hq, hqd, _⟩ := hn
    rw [e, gP] at hq
    cases hq
    cases hqd
  refine ⟨limO, ?_⟩
  have main : ∀ (code : Value) (h3 : Heap) (tk : Nat) (ps' : Array Value), Heap.ExtBut P (s1.heap.push o) h3 → N + 1 ≤ h3.objs.size →
      h3.get? P = some { cls := .none, data := .fields ps' } → (∃ more, ps' = ps ++ more) → TriplesOk ps'.toList →
      wpAny (model X.prog X.w) X.A (builtinsFor X.env.globals X.env.builtins) (fun bi s₄ =>
        ∃ Ia fp wr n₀ Pf St₀ pz F, Value.ref N = .ref Ia ∧ (∀ A' : Around, A'.handled = none → Walks X.prog X.w A' Ia fp wr n₀ Pf St₀) ∧ St₀ 0 s₄.heap ∧
          (∀ b ∈ fp, b < s₄.heap.objs.size) ∧ s₄.heap.NoLimit ∧ cStatics ∉ wr ∧
          (∀ href : Heap, (∀ b o, s₄.heap.get? b = some o → href.get? b = some o) →
            QuietGenD X.prog X.w (genEnv scope (cloFrom X.env.cells scope.names []) s₄.heap.objs.size code bi X.env) x [] elt (List.range s₄.heap.objs.size) wr Pf pz F href (X.A.depth + 1) (X.A.units + 8)) ∧
          (∀ a h₅ tk gs, gs.bare = true → s₄.heap.objs.size < a → h₅.objs.size = a + 1 → (∀ b o, s₄.heap.get? b = some o → h₅.get? b = some o) →
            WalksS X.prog X.w X.A.in4 a (a :: s₄.heap.objs.size :: List.range s₄.heap.objs.size) (s₄.heap.objs.size :: wr) (GenOnlyQ s₄.gens.size) (passing pz n₀ 0).length
              (fun j y => ∃ i, (passing pz n₀ 0)[j]? = some i ∧ F i y) (GenAt X.prog X.w X.A.in4 a s₄.gens.size s₄.heap.objs.size (List.range s₄.heap.objs.size) wr pz n₀ F) →
            GenAt X.prog X.w X.A.in4 a s₄.gens.size s₄.heap.objs.size (List.range s₄.heap.objs.size) wr pz n₀ F 0 { s₄ with gens := s₄.gens.push gs, toks := tk, heap := h₅ } →
            Q' (.ref a) { s₄ with gens := s₄.gens.push gs, toks := tk, heap := h₅ })) X.xe { s1 with heap := h3, toks := tk } := by
    intro code h3 tk ps' hx hsz hP3 hmore ht3
    have k3 : ∀ b u, b ≠ P → s1.heap.get? b = some u → h3.get? b = some u := fun b u hb e => hx b u hb (kO b u e)
    have glob3 : h3.Ns mainGlobals X.mg := ((J.mod.glob.keeps J.bk).push o).extBut hx TB.gP
    obtain ⟨bm, ob, b1, b2, b3, b4, b5, b6, b7, b8⟩ := TB.bm
    refine wpAny_builtinsFor (m := X.mg) (by rw [J.ok.glob]; exact glob3) b1 b2 (k3 _ _ b4 (J.bk _ _ b5)) b6 b7 b8 ?_
    have isl3 : h3.IsList l its.toArray := by
      obtain ⟨q, e, r⟩ := isl
      exact ⟨q, k3 _ _ nPl e, r⟩
    have isit3 : h3.IsListIter N l 0 := by
      obtain ⟨q, e, r⟩ := isit
      exact ⟨q, hx _ _ (fun z => Nat.lt_irrefl _ (z ▸ ltP)) e, r⟩
    refine ⟨N, [N, l], [N], its.toArray.size, _, _, (fun _ => true), (fun i y => ∃ b, bs[i]? = some b ∧ y = .bool b), rfl, (fun A' hA => Walks.list hA N l (Nat.ne_of_lt ltl) its.toArray), ⟨isit3, isl3⟩, ?_, limO.extBut hx stP, ?_, ?_, ?_⟩
    · intro b hb
      rcases List.mem_cons.mp hb with e | e
      · exact ad_lt e hsz
      · exact ad_ltlt ((List.mem_singleton.mp e) ▸ ltl) hsz
    · intro z
      have eb : cStatics = N := by simpa using z
      rw [eb] at stLt
      exact Nat.lt_irrefl _ stLt
    · intro href keepH
      refine ⟨fun A' E' i v z m hA hD hU hv hn hm hk => ?_, fun A' E' i v z m hA hD hU hv hp hn hm hk => ?_⟩
      · simp only [List.forIn_nil]
        exact wpAny_pure ⟨rfl, keeps_refl _⟩
      · have hv2 : its[i]? = some v := by simpa using hv
        obtain ⟨vv, hvv, q1⟩ := vals_at rits hv2
        obtain ⟨b, hd, rd⟩ := al i vv hvv
        have old : ∀ q u, q ≠ P → s1.heap.get? q = some u → z.heap.get? q = some u := fun q u hq e => by
          have lq : q < N := by rw [← hN]; exact Heap.lt_size e
          refine hk q (List.mem_range.mpr (ad_ltlt lq hsz)) (fun hw => ?_) u (keepH _ _ (k3 q u hq e))
          have eb : q = N := by simpa using hw
          exact Nat.lt_irrefl _ (eb ▸ lq)
        have nvz : KU X.K z.heap v b := ku_of J q1 rd tP old
        exact wpAny_mono (EL _ A' E' v _ z m rfl J.ok.glob rfl rfl hA hD hU old hn hm nvz) (fun y z' r => ⟨⟨_, hd, r.1⟩, r.2⟩) fun _ _ e => e
    · intro g h5 tk5 gs hgb hag hsz5 hk5 W5 at0
      rw [szI] at W5 at0
      simp only [GxR.passing_true, List.length_range] at W5
      refine hQ bs H1 g _ hR ⟨_, _, _, _, _, W5.in4_1, at0, ?_, fun s' mv => ?_⟩
      · rintro j y sj Qj Ej ⟨i, hij, b, hb, rfl⟩ hQj
        obtain ⟨hj, ej⟩ := List.getElem?_eq_some_iff.mp hij
        rw [List.getElem_range] at ej
        subst ej
        have hQ2 : Qj (trB bs j) sj := hQj
        rw [trB_some hb] at hQ2
        exact wpAny_truthy_bool hQ2
      · obtain ⟨more, em⟩ := hmore
        have nwr : ∀ b u, s1.heap.get? b = some u → b ∉ h3.objs.size :: [N] := fun b u e hb => by
          have hl : b < N := by rw [← hN]; exact Heap.lt_size e
          rcases List.mem_cons.mp hb with z | z
          · exact ad_no2 z hl hsz
          · have eb : b = N := by simpa using z
            exact ad_no eb hl
        have K2 := inv_tab (more := more) (h' := s'.heap) (g' := s'.gens) (d' := s'.drawn) (t' := s'.toks) J tP
          (fun b u hb e => mv.heap b u (nwr b u e) (hk5 b u (k3 b u hb e))) (by rw [← em]; exact mv.heap P _ (nwr P _ gP) (hk5 P _ hP3)) (AllBare.movedS (J.bare.push hgb) mv)
        rw [sh_eta s1 s' mv.os] at K2
        exact ⟨upd H1 P (.tbl (ps ++ more)), ⟨⟨ps ++ more, upd_same, by rw [← em]; exact ht3⟩, fun b hb => upd_ne hb⟩, K2⟩
  cases hf : codeAmong gpos ps.toList with
  | none =>
    refine wpAny_genexprCodeX hcode (codeO.code (kO _ _ gP) tOk) (codeO.tab (kO _ _ gP)) hf fun c' h' tk hx hge hlt hco' _ htab' _ => ?_
    obtain ⟨o1, vs1, f1, tf, fl, tg, inF, tx, tt, op, _, _, _, _, _, _, _, _, _, htr, _⟩ := hco'
    refine main _ h' tk _ hx ?_ htab'.2 ⟨_, rfl⟩ htr
    rw [szO] at hge
    exact Nat.le_trans hge (Nat.le_of_lt hlt)
  | some cv =>
    refine wpAny_genexprCode_hit hcode (codeO.code (kO _ _ gP) tOk) hf ?_
    exact main cv (s1.heap.push o) s1.toks ps (Heap.ExtBut.refl _ _) (Nat.le_of_eq szO.symm) (kO _ _ gP) ⟨#[], by simp⟩ tOk
def tGenI (K : PySem.W.Frag) (P : Addr) (G0 : L2.St → Hp → Prop) (te : TE) (f : List Bool → Bool) : TE := fun σ H Q => te σ H fun v H1 => ∃ (l : Addr) (vs : List V) (bs : List Bool), v = .ref l ∧ H1 l = some (.lst vs) ∧ KIs K H1 vs bs ∧ TabG H1 P ∧ G0 σ H1 ∧ ∀ H2, Tabbed P H1 H2 → Q (.bl (f bs)) H2
/-- all(test for x in e), e a list -/
theorem pe_allI {c P : Addr} {elt iter : Expr} {x : Str} {px p pos gpos : Pos} {scope : Scope} {te : TE} {k : Nat} {G0 : L2.St → Hp → Prop}
    (hr : Room k X.A) (hg : Gl X "all") (hm : X.mg "all" = none) (hb : bootBuiltins "all" = some (.builtin "all")) (TB : TabB X.base X.mg c P) (hcode : X.env.code = .ref c) (S : GenS X.env scope x)
    (hi : PE X iter te) (hel : ∀ (σ : L2.St) (pins : List (Addr × Obj)) (s1 : Shared) (H1 : Hp), Inv X pins σ H1 s1 → G0 σ H1 → TabG H1 P → EltI X scope x elt (X.A.depth + 1) (X.A.units + 8) P s1) (hs : ∀ v, genFold iter X.env v = pure v)
    (he : starEach [.GeneratorExp elt [⟨.Name x px, iter, [], 0⟩] scope gpos] X.env = (false, eval (.GeneratorExp elt [⟨.Name x px, iter, [], 0⟩] scope gpos) X.env) :: starEach [] X.env := by rfl) :
    PE X (.Call (.Name "all" p) [.GeneratorExp elt [⟨.Name x px, iter, [], 0⟩] scope gpos] [] pos) (tGenI X.K P G0 te fun bs => bs.all id) := by
  refine ⟨fun pins s σ H Q I h => wpAny_Call_Name_kw (ld_blt I hg hm hb (PyProof.Rows.callWith_builtin1 ?_ he (by rfl)))⟩
  rw [he]
  show wpAny _ _ (spliced ((false, eval (.GeneratorExp elt [⟨.Name x px, iter, [], 0⟩] scope gpos) X.env) :: backTo pos (starEach [] X.env))) _ _ s
  refine Calls.spliced_cons (genI (R := fun bs H1 => ∀ H2, Tabbed P H1 H2 → Q (.bl (bs.all id)) H2) hr TB hcode S hi (hel σ) hs I h fun bs H1 g z hR rdy => Calls.spliced_nil ?_)
  obtain ⟨fp, wr, G, F, St, W, st0, tru, back⟩ := rdy
  refine call_all_walkS (W.self 0 _ _ _ st0 ⟨g, fp, wr, G, _, F, St, _, rfl, W, st0, tru, fun z' mv => ?_⟩)
  obtain ⟨H2, tb, K2⟩ := back z' mv
  have q := hR H2 tb
  rw [← all_trB] at q
  exact ⟨.bl _, H2, K2, rfl, q⟩
/-- isinstance(x, int) -/
theorem elt_int {pins : List (Addr × Obj)} {s1 : Shared} {H1 : Hp} {sc : Scope} {x : Str} {p1 p2 p3 p4 : Pos} {P : Addr} {D U : Nat} (J : Inv X pins σ H1 s1) (tg : TabG H1 P) (mI : X.mg "isinstance" = none) (mN : X.mg "int" = none) (hk : sc.kind = .function)
    (hl : sc.names.lookup x = some .local) (hgi : sc.names.lookup ("isinstance" : Str) = some .globalImplicit) (hgn : sc.names.lookup ("int" : Str) = some .globalImplicit) (hd : (x == ("__debug__" : Str)) = false := by decide) :
    EltI X sc x (.Call (.Name "isinstance" p1) [.Name x p2, .Name "int" p3] [] p4) D U P s1 := by
  intro ce A' E' v b z m hs hg hbi hc hA hDA hUA old hn hx nv
  have M := J.mod
  obtain ⟨ps, tP, _⟩ := tg
  have bk : ∀ b o, X.base.get? b = some o → z.heap.get? b = some o := fun b o e => old b o (fun q => by
    have := (J.bs b o e).2
    rw [q, tP] at this
    cases this) (J.bk b o e)
  have gl : z.heap.Ns ce.globals X.mg := by rw [hg]; exact M.glob.keeps bk
  obtain ⟨mb, m1, m2⟩ := M.blt
  have bl : z.heap.Ns ce.builtins mb := by rw [hbi]; exact m1.keeps bk
  have kd : ce.scope.kind = .function := by rw [hs]; exact hk
  have kx : ce.kindOf x = some .local := by show ce.scope.names.lookup x = some .local; rw [hs]; exact hl
  have ki : ce.kindOf "isinstance" = some .globalImplicit := by show ce.scope.names.lookup _ = some .globalImplicit; rw [hs]; exact hgi
  have kn : ce.kindOf "int" = some .globalImplicit := by show ce.scope.names.lookup _ = some .globalImplicit; rw [hs]; exact hgn
  have isbI : bootBuiltins "isinstance" = some (.builtin "isinstance") := by decide +kernel
  have isbN : bootBuiltins "int" = some (.type "int") := by decide +kernel
  obtain ⟨t, Z, hZ, hz, nop, hc2⟩ := nv
  refine wpAny_Call_Name_kw (Calls.Name_function_global kd ki (Calls.loadGlobal_builtin gl mI bl ((m2 "isinstance" (by decide)).trans isbI) ?_))
  refine PyProof.Rows.callWith_builtin1 (PyProof.Rows.args_cons (wpAny_Name (wpAny_loadName_local kd kx hn hx (PyProof.Rows.args_cons ?_)) hd)) rfl rfl
  refine Calls.Name_function_global kd kn (Calls.loadGlobal_builtin gl mN bl ((m2 "int" (by decide)).trans isbN) ?_)
  refine PyProof.Rows.args_nil ?_
  exact PySem.W.kia_one hZ (M.kin.keeps bk) hz hc2 nop fun tk2 => ⟨rfl, keeps_tok _ _⟩
end
end My
namespace My
open PySem PySem.Spec PyProof.Rows L2 TL
theorem inV_strs (x : Str) : ∀ l : List Str, inV (.str x) (l.map V.str) = decide (x ∈ l)
  | [] => rfl
  | y :: r => by
    have ih := inV_strs x r
    unfold inV at ih ⊢
    rw [List.map_cons, List.any_cons, ih]
    show (decide (y = x) || decide (x ∈ r)) = _
    by_cases h : y = x
    · rw [decide_eq_true h, Bool.true_or, decide_eq_true (by rw [h]; exact List.mem_cons_self)]
    · rw [decide_eq_false h, Bool.false_or]
      exact decide_eq_decide.mpr ⟨fun z => List.mem_cons_of_mem _ z, fun z => (List.mem_cons.mp z).resolve_left fun e => h e.symm⟩
/-- the classes of values -/
structure ValC (K : PySem.W.Frag) (mg : Str → Option Value) (C : Cs) : Prop where
  gp : mg "Pair" = some (.ref C.pa)
  gf : mg "Function" = some (.ref C.fu)
  gr : mg "Primitive" = some (.ref C.pr)
  fp : FldC K C.pa ["first", "second"]
  ff : FldC K C.fu ["parameters", "body", "kept"]
  fr : FldC K C.pr ["parameters", "name"]
  ip : InsC K C.pa
  if_ : InsC K C.fu
  ir : InsC K C.pr
  O : ObC K
  kip : PySem.W.kitOne K (.type "int") (.ref C.pa) = some false
  kif : PySem.W.kitOne K (.type "int") (.ref C.fu) = some false
  kir : PySem.W.kitOne K (.type "int") (.ref C.pr) = some false
  kpi : PySem.W.kitOne K (.ref C.pa) (.type "int") = some false
  kfi : PySem.W.kitOne K (.ref C.fu) (.type "int") = some false
  kri : PySem.W.kitOne K (.ref C.pr) (.type "int") = some false
  kpp : PySem.W.kitOne K (.ref C.pa) (.ref C.pa) = some true
  kpf : PySem.W.kitOne K (.ref C.pa) (.ref C.fu) = some false
  kpr : PySem.W.kitOne K (.ref C.pa) (.ref C.pr) = some false
  kfp : PySem.W.kitOne K (.ref C.fu) (.ref C.pa) = some false
  kff : PySem.W.kitOne K (.ref C.fu) (.ref C.fu) = some true
  kfr : PySem.W.kitOne K (.ref C.fu) (.ref C.pr) = some false
  krp : PySem.W.kitOne K (.ref C.pr) (.ref C.pa) = some false
  krf : PySem.W.kitOne K (.ref C.pr) (.ref C.fu) = some false
  krr : PySem.W.kitOne K (.ref C.pr) (.ref C.pr) = some true
def tyVl (C : Cs) : Vl → Value
  | .int _ => .type "int"
  | .pair _ _ => .ref C.pa
  | .prim _ => .ref C.pr
  | .fnP _ _ _ => .ref C.fu
  | .fnM _ _ => .ref C.fu
theorem RV.ty {K : PySem.W.Frag} {mg : Str → Option Value} {C : Cs} {X : Addr → Prop} {H : Hp} {v : V} {x : Vl} (c : ValC K mg C) (r : RV C X H v x) : TyX K H v (tyVl C x) := by
  cases r with
  | int i _ => exact .base (.int i)
  | pair h => exact ty_ins c.O c.fp.c c.ip h
  | prim h => exact ty_ins c.O c.fr.c c.ir h
  | fnP h => exact ty_ins c.O c.ff.c c.if_ h
  | fnM h => exact ty_ins c.O c.ff.c c.if_ h
def isI : Vl → Bool
  | .int _ => true
  | _ => false
def isP : Vl → Bool
  | .pair _ _ => true
  | _ => false
def isR : Vl → Bool
  | .prim _ => true
  | _ => false
def isF : Vl → Bool
  | .fnP _ _ _ => true
  | .fnM _ _ => true
  | _ => false
section
variable {K : PySem.W.Frag} {mg : Str → Option Value} {C : Cs}
theorem ValC.int (c : ValC K mg C) (x : Vl) : PySem.W.kitOne K (tyVl C x) (.type "int") = some (isI x) := by
  cases x with
  | int i => exact kit_ty (show kitB "int" "int" = some true by decide +kernel)
  | pair a b => exact c.kpi
  | prim p => exact c.kri
  | fnP _ _ _ => exact c.kfi
  | fnM _ _ => exact c.kfi
theorem ValC.pair (c : ValC K mg C) (x : Vl) : PySem.W.kitOne K (tyVl C x) (.ref C.pa) = some (isP x) := by
  cases x with
  | int i => exact c.kip
  | pair a b => exact c.kpp
  | prim p => exact c.krp
  | fnP _ _ _ => exact c.kfp
  | fnM _ _ => exact c.kfp
theorem ValC.prim (c : ValC K mg C) (x : Vl) : PySem.W.kitOne K (tyVl C x) (.ref C.pr) = some (isR x) := by
  cases x with
  | int i => exact c.kir
  | pair a b => exact c.kpr
  | prim p => exact c.krr
  | fnP _ _ _ => exact c.kfr
  | fnM _ _ => exact c.kfr
theorem ValC.fn (c : ValC K mg C) (x : Vl) : PySem.W.kitOne K (tyVl C x) (.ref C.fu) = some (isF x) := by
  cases x with
  | int i => exact c.kif
  | pair a b => exact c.kpf
  | prim p => exact c.krf
  | fnP _ _ _ => exact c.kff
  | fnM _ _ => exact c.kff
theorem ValC.call (c : ValC K mg C) (x : Vl) : PySem.W.kitAny K (tyVl C x) [.ref C.fu, .ref C.pr] = some (isF x || isR x) := by
  refine kitAny_cons (c.fn x) (fun h => kitAny_cons (c.prim x) (fun h2 => ?_) fun h2 => ?_) fun h => ?_
  · rw [h, h2]; rfl
  · rw [h2]; simp
  · rw [h]; rfl
end
def two (a b : Str) : List V → List (Str × V)
  | [x, y] => [(a, x), (b, y)]
  | _ => []
def three (a b c : Str) : List V → List (Str × V)
  | [x, y, z] => [(a, x), (b, y), (c, z)]
  | _ => []
abbrev sPai : Stmt := inClass (top 7) 0
abbrev sFun : Stmt := inClass (top 8) 0
abbrev sPri : Stmt := inClass (top 9) 0
/-- Primitive.__init__ -/
def spPri (C : Addr) : Sp := fun vs H Q _ => ∃ (x dx : Addr) (p : Str), vs = [.ref x, .str p] ∧ H x = some (.ins C dx []) ∧ ∀ H', Fr No H H' → Q .non (upd H' x (.ins C dx [("parameters", .int (arP p)), ("name", .str p)]))
section
variable {P : Program} {w : World} {K : PySem.W.Frag} {mg : Str → Option Value} {base : Heap}
theorem scPai : FnScope ["self", "first", "second"] ["self", "first", "second"] (defScope sPai) := ⟨rfl, rfl, rfl, by decide +kernel, rfl, by decide +kernel, by decide +kernel⟩
theorem scFun : FnScope ["self", "parameters", "body", "kept"] ["self", "parameters", "body", "kept"] (defScope sFun) := ⟨rfl, rfl, rfl, by decide +kernel, rfl, by decide +kernel, by decide +kernel⟩
theorem scPri : FnScope ["self", "name"] ["self", "name"] (defScope sPri) := ⟨rfl, rfl, rfl, by decide +kernel, rfl, by decide +kernel, by decide +kernel⟩
theorem ok_pai {f C : Addr} {fd : FuncData} (F : Fun K "__init__" "Pair.__init__" sPai f fd) (U : FldC K C ["first", "second"]) : FnOk P w K mg base CX0 1 f fd ["self", "first", "second"] (spIni C 2 (two "first" "second")) := by
  refine F.ok scPai (fun vs H Q E h => ?_) (fun cdv A outer s H vs Q E hr h => ?_)
  · obtain ⟨x, dx, us, rfl, lu, _⟩ := h
    exact congrArg (· + 1) lu
  obtain ⟨x, dx, us, rfl, lu, hx, q⟩ := h
  obtain ⟨a, b, rfl⟩ : ∃ a b, us = [a, b] := by
    match us, lu with
    | [a, b], _ => exact ⟨a, b, rfl⟩
  have nd := scPai.nd
  refine ⟨_, (pss_cons (ps_fld (pv 0) (pv 1) rfl)
    (pss_one (ps_fld (pv 0) (pv 2) rfl))), ?_⟩
  refine ⟨_, rfl, _, rfl, x, C, dx, _, rfl, hx, U.c, U.n _ (by simp), by decide, ?_⟩
  refine ⟨_, rfl, _, rfl, x, C, dx, _, rfl, upd_same, U.c, U.n _ (by simp), by show 1 < 1000; decide, ?_⟩
  rw [upd_upd]
  exact q
theorem ok_fun {f C : Addr} {fd : FuncData} (F : Fun K "__init__" "Function.__init__" sFun f fd) (U : FldC K C ["parameters", "body", "kept"]) : FnOk P w K mg base CX0 1 f fd ["self", "parameters", "body", "kept"] (spIni C 3 (three "parameters" "body" "kept")) := by
  refine F.ok scFun (fun vs H Q E h => ?_) (fun cdv A outer s H vs Q E hr h => ?_)
  · obtain ⟨x, dx, us, rfl, lu, _⟩ := h
    exact congrArg (· + 1) lu
  obtain ⟨x, dx, us, rfl, lu, hx, q⟩ := h
  obtain ⟨a, b, c, rfl⟩ : ∃ a b c, us = [a, b, c] := by
    match us, lu with
    | [a, b, c], _ => exact ⟨a, b, c, rfl⟩
  have nd := scFun.nd
  refine ⟨_, (pss_cons (ps_fld (pv 0) (pv 1) rfl)
    (pss_cons (ps_fld (pv 0) (pv 2) rfl)
    (pss_one (ps_fld (pv 0) (pv 3) rfl)))), ?_⟩
  refine ⟨_, rfl, _, rfl, x, C, dx, _, rfl, hx, U.c, U.n _ (by simp), by decide, ?_⟩
  refine ⟨_, rfl, _, rfl, x, C, dx, _, rfl, upd_same, U.c, U.n _ (by simp), by show 1 < 1000; decide, ?_⟩
  refine ⟨_, rfl, _, rfl, x, C, dx, _, rfl, upd_same, U.c, U.n _ (by simp), by show 2 < 1000; decide, ?_⟩
  rw [upd_upd, upd_upd]
  exact q
theorem ok_pri {f C : Addr} {fd : FuncData} (F : Fun K "__init__" "Primitive.__init__" sPri f fd) (U : FldC K C ["parameters", "name"]) : FnOk P w K mg base CX0 1 f fd ["self", "name"] (spPri C) := by
  refine F.ok scPri (fun vs H Q E h => ?_) (fun cdv A outer s H vs Q E hr h => ?_)
  · obtain ⟨x, dx, p, rfl, _⟩ := h
    rfl
  obtain ⟨x, dx, p, rfl, hx, q⟩ := h
  have nd := scPri.nd
  refine ⟨_, (pss_cons (ps_fld (pv 0) (pe_ifExp (pt_cmpR op_in_seq (pv 1) (pe_tup (pa_cons pe_str (pa_cons pe_str pa_nil))) (by rfl)) pe_int pe_int) rfl)
    (pss_one (ps_fld (pv 0) (pv 1) rfl))), ?_⟩
  refine ⟨_, rfl, by show 2 ≤ sizeLine; decide, fun t ht => ?_⟩
  refine ⟨t, _, rfl, .inr (SqT.of upd_same), rfl, rfl, _, rfl, ?_⟩
  have f : Fr No H (upd H t (.tup [.str "first", .str "second"])) := Fr.new ht
  have hx1 := f.keep (fun z => z) rfl hx
  have ein : inV (.str p) [.str "first", .str "second"] = decide (p ∈ (["first", "second"] : List Str)) := inV_strs p ["first", "second"]
  rw [if_neg Bool.false_ne_true, ein]
  have ar : arP p = if decide (p ∈ (["first", "second"] : List Str)) = true then 1 else 2 := by
    unfold arP
    simp only [decide_eq_true_eq, List.mem_cons, List.mem_nil_iff, or_false]
  by_cases c : p ∈ (["first", "second"] : List Str)
  · rw [decide_eq_true c] at ar ⊢
    rw [if_pos rfl] at ar
    refine iteT ?_
    refine ⟨_, rfl, x, C, dx, _, rfl, hx1, U.c, U.n _ (by simp), by decide, ?_⟩
    refine ⟨_, rfl, _, rfl, x, C, dx, _, rfl, upd_same, U.c, U.n _ (by simp), by show 1 < 1000; decide, ?_⟩
    rw [upd_upd]
    have := q _ f
    rw [ar] at this
    exact this
  · rw [decide_eq_false c] at ar ⊢
    rw [if_neg Bool.false_ne_true] at ar
    refine iteF ?_
    refine ⟨_, rfl, x, C, dx, _, rfl, hx1, U.c, U.n _ (by simp), by decide, ?_⟩
    refine ⟨_, rfl, _, rfl, x, C, dx, _, rfl, upd_same, U.c, U.n _ (by simp), by show 1 < 1000; decide, ?_⟩
    rw [upd_upd]
    have := q _ f
    rw [ar] at this
    exact this
end
end My
namespace My
open PySem PySem.Spec PyProof.Rows L2 TL
theorem v_str {a b : Str} (h : decide (V.str a = V.str b) = true) : a = b := V.str.inj (of_decide_eq_true h)
theorem v_int {a b : Int} (h : decide (V.int a = V.int b) = true) : a = b := V.int.inj (of_decide_eq_true h)
theorem cut_lo {xs : List V} {k : Nat} (h : k ≤ xs.length) : cutV xs (some (k : Int)) none = xs.drop k := by
  unfold cutV
  rw [HT.sIx_nat, HT.sIx_none, Nat.min_eq_left h, List.take_of_length_le]
  rw [List.length_drop]
  exact Nat.le_refl _
/-! ### steps, stacks, calls -/
abbrev sCnt : Stmt := inClass (top 15) 1
/-- count_step: R a run at the class C with `steps` and `most` -/
def spCnt (C En : Addr) : Sp := fun vs H Q E => ∃ (R dx : Addr) (fs : List (Str × V)) (n m : Nat), vs = [.ref R] ∧ H R = some (.ins C dx fs) ∧ fs.lookup ("steps" : Str) = some (V.int n) ∧ fs.lookup ("most" : Str) = some (V.int m) ∧ fs.length < 1000 ∧
  (n < m → Q .non (upd H R (.ins C dx (putF "steps" (.int (n + 1 : Nat)) fs)))) ∧ (m ≤ n → erX No En ["steps"] H E)
abbrev sTak : Stmt := top 16
def spTak : Sp := fun vs H Q _ => ∃ (a : Addr) (xs : List V) (n : Nat), vs = [.ref a, .int n] ∧ H a = some (.lst xs) ∧ n ≤ xs.length ∧
  ∀ p, H p = none → Q (.ref p) (upd (upd H p (.lst (xs.drop (xs.length - n)))) a (.lst (xs.take (xs.length - n))))
abbrev sChk : Stmt := top 17
def parN : Vl → Int
  | .prim p => arP p
  | .fnP ns _ _ => ns.length
  | .fnM c _ => c.params
  | _ => 0
def chkF (f : Vl) (n : Nat) : Option (List Str) := if (isF f || isR f) = true then (if parN f = n then none else some ["error", "count"]) else some ["error", "kind"]
theorem chk_par {f : Vl} {n : Nat} (h : chkF f n = none) : parN f = (n : Int) := by
  unfold chkF at h
  split at h
  · split at h
    · assumption
    · cases h
  · cases h
def spChk (C : Cs) (En : Addr) : Sp := fun vs H Q E => ∃ (X : Addr → Prop) (v : V) (x : Vl) (a : Addr) (xs : List V), vs = [v, .ref a] ∧ RV C X H v x ∧ H a = some (.lst xs) ∧
  (chkF x xs.length = none → ∀ H', Fr No H H' → Q .non H') ∧ (∀ ws, chkF x xs.length = some ws → erX No En ws H E)
abbrev sHal : Stmt := top 18
def halF (p : Str) : Vl → Except (List Str) Vl
  | .pair a b => .ok (if p = "first" then a else b)
  | _ => .error ["error", "kind"]
def spHal (C : Cs) (En : Addr) : Sp := fun vs H Q E => ∃ (X : Addr → Prop) (p : Str) (v : V) (x : Vl), vs = [.str p, v] ∧ RV C X H v x ∧
  (∀ y, halF p x = .ok y → ∀ u, RV C X H u y → Q u H) ∧ (∀ ws, halF p x = .error ws → erX No En ws H E)
section
variable {P : Program} {w : World} {K : PySem.W.Frag} {mg : Str → Option Value} {base : Heap}
theorem scCnt : FnScope ["self"] ["self"] (defScope sCnt) := ⟨rfl, rfl, rfl, by decide +kernel, rfl, by decide +kernel, by decide +kernel⟩
theorem ok_cnt {f C En fE : Addr} {fd dE : FuncData} (F : Fun K "count_step" "Run.count_step" sCnt f fd) (U : FldC K C ["steps", "most"]) (XE : ErrO P w K mg base En fE dE) : FnOk P w K mg base (L2.CX P w) 3 f fd ["self"] (spCnt C En) := by
  refine F.okX scCnt (fun vs H Q E h => ?_) (fun cdv A outer s H vs Q E hr h => ?_)
  · obtain ⟨R, dx, fs, n, m, rfl, _⟩ := h
    rfl
  obtain ⟨R, dx, fs, n, m, rfl, hR, ls, lm, lf, q, qe⟩ := h
  have nd := scCnt.nd
  refine ⟨_, (pss_cons (ps_if (pt_cmpR op_ge (pe_fld (pv 0) rfl) (pe_fld (pv 0) rfl) (nomark _)) (pss_one (ps_raise rfl (takes_of rfl rfl rfl rfl) (pmk_oex XE.o XE.iC XE.tI XE.f hr XE.b .nil pass0 rfl XE.g (pa_cons (pe_tup (pa_cons pe_str pa_nil)) pa_nil)))) pss_nil)
    (pss_one (ps_fldaug (pv 0) pe_int in_add))), ?_⟩
  refine ⟨_, rfl, R, C, dx, _, _, rfl, hR, U.c, U.n _ (by simp), ls, _, rfl, R, C, dx, _, _, rfl, hR, U.c, U.n _ (by simp), lm, _, _, rfl, rfl, _, rfl, ?_⟩
  refine ite2 (fun c => ?_) (fun c => ?_)
  · have hle : m ≤ n := by have := of_decide_eq_true c; omega
    exact mkO_1 (qe hle)
  · have hlt : n < m := by
      rcases Nat.lt_or_ge n m with h | h
      · exact h
      · exact absurd (decide_eq_true (show (m : Int) ≤ (n : Int) by omega)) c
    refine ⟨_, rfl, R, C, dx, _, _, rfl, hR, U.c, U.n _ (by simp), ls, _, _, rfl, rfl, _, _, hR, lf, ?_⟩
    exact q hlt
theorem scTak : FnScope ["stack", "many", "at", "taken"] ["stack", "many"] (defScope sTak) := ⟨rfl, rfl, rfl, by decide +kernel, rfl, by decide +kernel, by decide +kernel⟩
theorem ok_tak {f : Addr} {fd : FuncData} (F : Fun K "take_last" "take_last" sTak f fd) (B : Blt mg) : FnOk P w K mg base CX0 1 f fd ["stack", "many"] spTak := by
  refine F.ok scTak (fun vs H Q E h => ?_) (fun cdv A outer s H vs Q E hr h => ?_)
  · obtain ⟨a, xs, n, rfl, _⟩ := h
    rfl
  obtain ⟨a, xs, n, rfl, ha, hn, q⟩ := h
  have nd := scTak.nd
  refine ⟨_, (pss_cons (ps_set (i := 2) nd rfl (Or.inl rfl) (pe_op op_sub (pe_callB call_len_seq (by rfl) B.len PySem.boot_len (pa_cons (pv 0) pa_nil)) (pv 1)))
    (pss_cons (ps_set (i := 3) nd rfl (Or.inl rfl) (pe_slice sl_list (pv 0) (po_some (pv 2)) po_none))
    (pss_cons (ps_delF (pv 0) (pv 2))
    (pss_one (ps_ret (pv 3)))))), ?_⟩
  have e : ((xs.length : Int) - (n : Int)) = ((xs.length - n : Nat) : Int) := by omega
  refine ⟨_, rfl, a, _, rfl, .inl (SqL.of ha), _, rfl, _, _, rfl, rfl, ?_⟩
  dsimp only
  rw [e]
  refine ⟨_, rfl, _, rfl, _, rfl, a, xs, rfl, SqL.of ha, fun p hp => ?_⟩
  rw [cut_lo (Nat.sub_le _ _)]
  refine ⟨_, rfl, _, rfl, _, rfl, a, xs, xs.length - n, rfl, rfl, ?_, Nat.sub_le _ _, _, rfl, q p hp⟩
  rw [upd_ne (ne_of_none ha hp)]
  exact ha
theorem scChk : FnScope ["called", "parts"] ["called", "parts"] (defScope sChk) := ⟨rfl, rfl, rfl, by decide +kernel, rfl, by decide +kernel, by decide +kernel⟩
theorem ok_chk {f En fE : Addr} {C : Cs} {fd dE : FuncData} (F : Fun K "check_call" "check_call" sChk f fd) (B : Blt mg) (VC : ValC K mg C) (XE : ErrO P w K mg base En fE dE) : FnOk P w K mg base (L2.CX P w) 3 f fd ["called", "parts"] (spChk C En) := by
  refine F.okX scChk (fun vs H Q E h => ?_) (fun cdv A outer s H vs Q E hr h => ?_)
  · obtain ⟨X, v, x, a, xs, rfl, _⟩ := h
    rfl
  obtain ⟨X, v, x, a, xs, rfl, rv, ha, q, qe⟩ := h
  have nd := scChk.nd
  refine ⟨_, (pss_cons (ps_if (pt_not (pt_val (pe_callB call_isiT (by rfl) B.isinstance (by decide +kernel) (pa_cons (pv 0) (pa_cons (pe_tup (pa_cons (pe_glob (v := .ref C.fu) rfl VC.gf rfl) (pa_cons (pe_glob (v := .ref C.pr) rfl VC.gr rfl) pa_nil))) pa_nil))))) (pss_one (ps_raise rfl (takes_of rfl rfl rfl rfl) (pmk_oex XE.o XE.iC XE.tI XE.f hr XE.b .nil pass0 rfl XE.g (pa_cons (pe_tup (pa_cons pe_str (pa_cons pe_str pa_nil))) pa_nil)))) pss_nil)
    (pss_one (ps_if (pt_cmpR op_ne (pe_fld (pv 0) rfl) (pe_callB call_len_seq (by rfl) B.len PySem.boot_len (pa_cons (pv 1) pa_nil)) (nomark _)) (pss_one (ps_raise rfl (takes_of rfl rfl rfl rfl) (pmk_oex XE.o XE.iC XE.tI XE.f hr XE.b .nil pass0 rfl XE.g (pa_cons (pe_tup (pa_cons pe_str (pa_cons pe_str pa_nil))) pa_nil)))) pss_nil))), ?_⟩
  refine ⟨_, rfl, by show 2 ≤ sizeLine; decide, fun t ht => ?_⟩
  have f : Fr No H (upd H t (.tup [.ref C.fu, .ref C.pr])) := Fr.new ht
  have ha1 : (upd H t (.tup [.ref C.fu, .ref C.pr])) a = some (.lst xs) := by rw [upd_ne (ne_of_none ha ht)]; exact ha
  have rv1 := rv.fr f.no
  generalize hH1 : upd H t (.tup [.ref C.fu, .ref C.pr]) = H1 at f ha1 rv1
  have et : H1 t = some (.tup [.ref C.fu, .ref C.pr]) := by rw [← hH1]; exact upd_same
  refine ⟨v, t, _, _, _, _, rfl, et, .cons (.own _) (.cons (.own _) .nil), rv1.ty VC, VC.call x, ?_⟩
  unfold chkF at q qe
  cases c : (isF x || isR x) with
  | false =>
    rw [c, if_neg Bool.false_ne_true] at q qe
    refine ⟨_, rfl, iteT ?_⟩
    exact mkO_2 ((qe _ rfl).fr f)
  | true =>
    rw [c, if_pos rfl] at q qe
    refine ⟨_, rfl, iteF ?_⟩
    obtain ⟨b, C', dx, fs, rfl, eb, cl, na, lp⟩ : ∃ (b C' dx : Addr) (fs : List (Str × L2.V)), v = .ref b ∧ H1 b = some (.ins C' dx fs) ∧ Cls K C' ∧ NoAttr K C' "parameters" ∧ fs.lookup ("parameters" : Str) = some (.int (parN x)) := by
      cases rv1 with
      | int i _ => cases c
      | pair h => cases c
      | prim h => exact ⟨_, _, _, _, rfl, h, VC.fr.c, VC.fr.n _ (by simp), rfl⟩
      | fnP h => exact ⟨_, _, _, _, rfl, h, VC.ff.c, VC.ff.n _ (by simp), rfl⟩
      | fnM h => exact ⟨_, _, _, _, rfl, h, VC.ff.c, VC.ff.n _ (by simp), rfl⟩
    refine ⟨_, rfl, b, C', dx, fs, _, rfl, eb, cl, na, lp, _, rfl, a, _, rfl, .inl (SqL.of ha1), rfl, _, rfl, ?_⟩
    refine ite2 (fun c => ?_) (fun c => ?_)
    · have ne : ¬ parN x = (xs.length : Int) := fun z => by rw [z, decide_eq_true rfl] at c; cases c
      exact mkO_2 ((qe _ (if_neg ne)).fr f)
    · have e : parN x = (xs.length : Int) := by
        by_cases z : parN x = (xs.length : Int)
        · exact z
        · exact absurd (by rw [decide_eq_false (fun h => z (V.int.inj h))]; rfl) c
      exact q (if_pos e) _ f
theorem scHal : FnScope ["name", "value"] ["name", "value"] (defScope sHal) := ⟨rfl, rfl, rfl, by decide +kernel, rfl, by decide +kernel, by decide +kernel⟩
theorem ok_hal {f En fE : Addr} {C : Cs} {fd dE : FuncData} (F : Fun K "half" "half" sHal f fd) (B : Blt mg) (VC : ValC K mg C) (XE : ErrO P w K mg base En fE dE) : FnOk P w K mg base (L2.CX P w) 3 f fd ["name", "value"] (spHal C En) := by
  refine F.okX scHal (fun vs H Q E h => ?_) (fun cdv A outer s H vs Q E hr h => ?_)
  · obtain ⟨X, p, v, x, rfl, _⟩ := h
    rfl
  obtain ⟨X, p, v, x, rfl, rv, q, qe⟩ := h
  have nd := scHal.nd
  refine ⟨_, (pss_cons (ps_if (pt_not (pt_val (pe_callB call_isi (by rfl) B.isinstance (by decide +kernel) (pa_cons (pv 1) (pa_cons (pe_glob (v := .ref C.pa) rfl VC.gp rfl) pa_nil))))) (pss_one (ps_raise rfl (takes_of rfl rfl rfl rfl) (pmk_oex XE.o XE.iC XE.tI XE.f hr XE.b .nil pass0 rfl XE.g (pa_cons (pe_tup (pa_cons pe_str (pa_cons pe_str pa_nil))) pa_nil)))) pss_nil)
    (pss_one (ps_ret (pe_ifExp (pt_cmpR op_eq (pv 0) pe_str (nomark _)) (pe_fld (pv 1) rfl) (pe_fld (pv 1) rfl))))), ?_⟩
  refine ⟨_, rfl, _, _, _, _, _, rfl, .own _, rv.ty VC, VC.pair x, ?_⟩
  cases rv with
  | pair h n r1 r2 =>
    refine ⟨_, rfl, iteF ?_⟩
    refine ⟨_, rfl, rfl, _, rfl, ?_⟩
    refine ite2 (fun c => ?_) (fun c => ?_)
    · exact ⟨_, rfl, _, C.pa, _, _, _, rfl, h, VC.fp.c, VC.fp.n _ (by simp), rfl, q _ rfl _ (by rw [if_pos (v_str c)]; exact r1)⟩
    · exact ⟨_, rfl, _, C.pa, _, _, _, rfl, h, VC.fp.c, VC.fp.n _ (by simp), rfl, q _ rfl _ (by rw [if_neg fun z => c (decide_eq_true (congrArg L2.V.str z))]; exact r2)⟩
  | int i _ => exact ⟨_, rfl, iteT (mkO_2 (qe _ rfl))⟩
  | prim h => exact ⟨_, rfl, iteT (mkO_2 (qe _ rfl))⟩
  | fnP h => exact ⟨_, rfl, iteT (mkO_2 (qe _ rfl))⟩
  | fnM h => exact ⟨_, rfl, iteT (mkO_2 (qe _ rfl))⟩
end
end My
namespace My
open PySem PySem.Spec PyProof.Rows L2 TL GxR
structure FunC (K : PySem.W.Frag) (x : Str) (st : Stmt) (f : Addr) (fd : FuncData) (c : Addr) : Prop where
  ex : ∃ (oc : Value) (od : Option Addr) (kV doc pm : Value) (an : Option Addr) (ct : Value) (osl : Array (Option Value)),
    fd = PySem.W.fnOf x x (defArgs st) (defBody st) (defScope st) .none kV doc pm an (.ref c) ct ∧ K.lookup f = some ⟨oc, od, .func fd, osl⟩ ∧ PySem.W.codeIn K (.ref c) x = true
  kp : PySem.W.keepIn K (.ref f) = true
section
variable {P : Program} {w : World} {K : PySem.W.Frag} {mg : Str → Option Value} {base : Heap}
theorem FunC.okX {x : Str} {st : Stmt} {f c : Addr} {fd : FuncData} {N ps : List Str} {k : Nat} {sp : Sp} (F : FunC K x st f fd c) (S : FnScope N ps (defScope st)) (len : ∀ vs H Q E, sp vs H Q E → vs.length = ps.length)
    (hb : ∀ (A : Around) (outer : List Env) (s : Shared) (H : Hp) (vs : List V) (Q : VK) (E : XK), Room k (A.deeper (PyProof.Rows.envOfC x (defScope st) s.heap.objs.size f (.ref c))) → sp vs H Q E →
      ∃ t, PSs (cxOf (L2.CX P w) P w K mg base N x (defScope st) f (.ref c) A outer s H E) (defBody st) t ∧ t { nx := fun _ H' => Q .non H', rt := Q } (start N vs) H) : FnOk P w K mg base (L2.CX P w) (k + 1) f fd ps sp := by
  obtain ⟨oc, od, kV, doc, pm, an, ct, osl, e, lk, hcd⟩ := F.ex
  subst e
  exact fn_of lk hcd S len fun A outer s H vs Q E hr hsp => hb A outer s H vs Q E hr hsp
end
theorem genS_of {env : Env} {sc : Scope} {x : Str} (a : sc.kind = .function) (b : sc.isCoroutine = false) (c : ∀ y ∈ sc.names, y.2 ≠ .cell) (d : sc.names.lookup (".0" : Str) = some NameKind.local) (e : sc.names.lookup x = some .local)
    (n : ∀ y ∈ sc.names, y.2 ≠ .free) : GxR.GenS env sc x := ⟨a, b, c, d, e, fun y hy z => absurd z (n y hy)⟩
/-! ### primitives -/
abbrev sRck : Stmt := top 19
abbrev big60 : Int := 10 ^ 60
def opF (p : Str) (l r : Int) : Int := if p = "+" then l + r else if p = "-" then l - r else l * r
def reckF (p : Str) (l r : Int) : Except (List Str) Int :=
  if p = "<" then .ok (if l < r then 1 else 0) else if p = "=" then .ok (if l = r then 1 else 0) else if (if opF p l r < 0 then -(opF p l r) else opF p l r) > big60 then .error ["error", "size"] else .ok (opF p l r)
theorem reckF_le {p : Str} {l r z : Int} (h : reckF p l r = .ok z) : z.natAbs ≤ 10 ^ 60 := by
  unfold reckF at h
  have b60 : (big60 : Int) = ((10 ^ 60 : Nat) : Int) := by decide +kernel
  split at h
  · cases h
    split <;> decide +kernel
  split at h
  · cases h
    split <;> decide +kernel
  generalize opF p l r = o at h
  by_cases c : (if o < 0 then -o else o) > big60
  · rw [if_pos c] at h; cases h
  · rw [if_neg c] at h
    cases h
    rw [b60] at c
    generalize (10 ^ 60 : Nat) = B at c ⊢
    split at c <;> omega
def spRck (En : Addr) : Sp := fun vs H Q E => ∃ (p : Str) (l r : Int), vs = [.str p, .int l, .int r] ∧ l.natAbs ≤ 10 ^ 60 ∧ r.natAbs ≤ 10 ^ 60 ∧
  (∀ z, reckF p l r = .ok z → Q (.int z) H) ∧ (∀ ws, reckF p l r = .error ws → erX No En ws H E)
abbrev sPrm : Stmt := top 20
def primF (p : Str) (ys : List Vl) : Except (List Str) Vl :=
  if p = "pair" then (match ys with | [x, y] => .ok (.pair x y) | _ => .error []) else if p = "first" ∨ p = "second" then (match ys with | [x] => halF p x | _ => .error []) else
  if ys.all isI = true then (match ys with | [.int l, .int r] => (match reckF p l r with | .ok z => .ok (.int z) | .error ws => .error ws) | _ => .error []) else .error ["error", "kind"]
def spPrm (C : Cs) (En P1 : Addr) : Sp := fun vs H Q E => ∃ (X : Addr → Prop) (p : Str) (a : Addr) (xs : List V) (ys : List Vl), vs = [.str p, .ref a] ∧ H a = some (.lst xs) ∧ RVs C X H xs ys ∧ (ys.length : Int) = arP p ∧ TabG H P1 ∧ (∀ b, X b → H b ≠ none) ∧
  (∀ y, primF p ys = .ok y → ∀ u H', Fr No H H' → RV C X H' u y → Q u H') ∧ (∀ ws, primF p ys = .error ws → erX No En ws H E)
theorem mk_fr {X : Addr → Prop} {H : Hp} {x dx : Addr} {o : HO} (hx : H x = none) (hd : H dx = none) (ne : dx ≠ x) : Fr X H (upd (upd H dx (.own x)) x o) :=
  (Fr.new hd).trans (Fr.new (by rw [upd_ne (Ne.symm ne)]; exact hx))
section
variable {P : Program} {w : World} {K : PySem.W.Frag} {mg : Str → Option Value} {base : Heap}
theorem scRck : FnScope ["name", "left", "right", "result"] ["name", "left", "right"] (defScope sRck) := ⟨rfl, rfl, rfl, by decide +kernel, rfl, by decide +kernel, by decide +kernel⟩
theorem ok_rck {f En fE : Addr} {fd dE : FuncData} (F : Fun K "reckon" "reckon" sRck f fd) (B : Blt mg) (gG : ∃ t, mg "GREATEST_RESULT" = some (.int big60 t)) (XE : ErrO P w K mg base En fE dE) : FnOk P w K mg base (L2.CX P w) 3 f fd ["name", "left", "right"] (spRck En) := by
  refine F.okX scRck (fun vs H Q E h => ?_) (fun cdv A outer s H vs Q E hr h => ?_)
  · obtain ⟨p, l, r, rfl, _⟩ := h
    rfl
  obtain ⟨p, l, r, rfl, hl, hrr, q, qe⟩ := h
  have nd := scRck.nd
  obtain ⟨tG, gG⟩ := gG
  refine ⟨_, (pss_cons (ps_if (pt_cmpR op_eq (pv 0) pe_str (nomark _)) (pss_one (ps_ret (pe_ifExp (pt_cmpR op_lt (pv 1) (pv 2) (nomark _)) pe_int pe_int))) pss_nil)
    (pss_cons (ps_if (pt_cmpR op_eq (pv 0) pe_str (nomark _)) (pss_one (ps_ret (pe_ifExp (pt_cmpR op_eq (pv 1) (pv 2) (nomark _)) pe_int pe_int))) pss_nil)
    (C8.pss_cut (ps_if (pt_cmpR op_eq (pv 0) pe_str (nomark _)) (pss_one (ps_set (i := 3) nd rfl (Or.inl rfl) (pe_op op_add (pv 1) (pv 2)))) (pss_one (ps_if (pt_cmpR op_eq (pv 0) pe_str (nomark _)) (pss_one (ps_set (i := 3) nd rfl (Or.inl rfl) (pe_op op_sub (pv 1) (pv 2)))) (pss_one (ps_set (i := 3) nd rfl (Or.inl rfl) (pe_op op_mulW (pv 1) (pv 2)))))))
    (pss_cons (ps_if (pt_cmpR op_gt (pe_callB call_abs (by rfl) B.abs (by decide +kernel) (pa_cons (pv 3) pa_nil)) (pe_glob (v := .int big60) rfl gG ⟨_, rfl⟩) (nomark _)) (pss_one (ps_raise rfl (takes_of rfl rfl rfl rfl) (pmk_oex XE.o XE.iC XE.tI XE.f hr XE.b .nil pass0 rfl XE.g (pa_cons (pe_tup (pa_cons pe_str (pa_cons pe_str pa_nil))) pa_nil)))) pss_nil)
    (pss_one (ps_ret (pv 3))))))), ?_⟩
  unfold reckF at q qe
  refine ⟨_, rfl, rfl, _, rfl, ?_⟩
  refine ite2 (fun c => ?_) (fun c => ?_)
  · rw [if_pos (v_str c)] at q
    refine ⟨_, rfl, _, rfl, _, _, rfl, rfl, _, rfl, ?_⟩
    exact ite2 (fun d => q _ (by rw [if_pos (of_decide_eq_true d)])) (fun d => q _ (by rw [if_neg (fun z => d (decide_eq_true z))]))
  have c1 : ¬ p = "<" := fun z => c (decide_eq_true (congrArg V.str z))
  rw [if_neg c1] at q qe
  refine ⟨_, rfl, rfl, _, rfl, ?_⟩
  refine ite2 (fun c => ?_) (fun c => ?_)
  · rw [if_pos (v_str c)] at q
    refine ⟨_, rfl, _, rfl, rfl, _, rfl, ?_⟩
    exact ite2 (fun d => q _ (by rw [if_pos (v_int d)])) (fun d => q _ (by rw [if_neg (fun z => d (decide_eq_true (congrArg V.int z)))]))
  have c2 : ¬ p = "=" := fun z => c (decide_eq_true (congrArg V.str z))
  rw [if_neg c2] at q qe
  refine ⟨fun σ H' => σ = [some (.str p), some (.int l), some (.int r), some (.int (opF p l r))] ∧ H' = H, ?_, ?_⟩
  · refine ⟨_, rfl, rfl, _, rfl, ?_⟩
    refine ite2 (fun c => ?_) (fun c => ?_)
    · have e := v_str c
      refine ⟨_, rfl, _, rfl, _, _, rfl, rfl, ?_, rfl⟩
      unfold opF
      rw [if_pos e]
      rfl
    have c3 : ¬ p = "+" := fun z => c (decide_eq_true (congrArg V.str z))
    refine ⟨_, rfl, rfl, _, rfl, ?_⟩
    refine ite2 (fun c => ?_) (fun c => ?_)
    · have e := v_str c
      refine ⟨_, rfl, _, rfl, _, _, rfl, rfl, ?_, rfl⟩
      unfold opF
      rw [if_neg c3, if_pos e]
      rfl
    have c4 : ¬ p = "-" := fun z => c (decide_eq_true (congrArg V.str z))
    have b200 : ∀ {n : Nat}, n ≤ 10 ^ 60 → n < 2 ^ 200 := fun {n} h => Nat.lt_of_le_of_lt h (by decide +kernel)
    refine ⟨_, rfl, _, rfl, _, _, rfl, rfl, wide_mul (b200 hl) (b200 hrr) (by decide) (by decide) (by decide), ?_, rfl⟩
    unfold opF
    rw [if_neg c3, if_neg c4]
    rfl
  rintro σ H' ⟨rfl, rfl⟩
  refine ⟨_, rfl, _, rfl, _, _, rfl, rfl, _, rfl, ?_⟩
  refine ite2 (fun c => ?_) (fun c => ?_)
  · have c5 := of_decide_eq_true c
    exact mkO_2 (qe _ (if_pos c5))
  · exact ⟨_, rfl, q _ (if_neg fun z => c (decide_eq_true z))⟩
theorem scPrm : FnScope ["name", "parts"] ["name", "parts"] (defScope sPrm) := ⟨rfl, rfl, rfl, by decide +kernel, rfl, by decide +kernel, by decide +kernel⟩
theorem ok_prm {f c fH fR fP fE P1 En : Addr} {C : Cs} {fd dH dR dP dE : FuncData} (F : FunC K "call_primitive" sPrm f fd c) (B : Blt mg) (VC : ValC K mg C) (XE : ErrO P w K mg base En fE dE) (MP : MkC P w K mg base 1 "Pair" ["self", "first", "second"] (spIni C.pa 2 (two "first" "second")) C.pa fP dP)
    (GH : Cal P w K mg base (L2.CX P w) 3 "half" ["name", "value"] (spHal C En) fH dH) (GR : Cal P w K mg base (L2.CX P w) 3 "reckon" ["name", "left", "right"] (spRck En) fR dR) (TB : TabB base mg c P1) : FnOk P w K mg base (L2.CX P w) 4 f fd ["name", "parts"] (spPrm C En P1) := by
  refine F.okX scPrm (fun vs H Q E h => ?_) (fun A outer s H vs Q E hr h => ?_)
  · obtain ⟨X, p, a, xs, ys, rfl, _⟩ := h
    rfl
  obtain ⟨X, p, a, xs, ys, rfl, ha, rs, ly, tg, hX, q, qe⟩ := h
  have nd := scPrm.nd
  have r2 := hr.mono (show 2 ≤ 3 by decide)
  refine ⟨_, (pss_cons (ps_if (pt_cmpR op_eq (pv 0) pe_str (nomark _)) (pss_one (ps_ret (pe_make (E := fun _ _ _ => False) MP.m MP.ok r2 rfl MP.g MP.b .nil pass0 (pa_cons (pe_ix (r := rIxL K) ix_list (pv 1) pe_int (fun _ _ => rfl)) (pa_cons (pe_ix (r := rIxL K) ix_list (pv 1) pe_int (fun _ _ => rfl)) pa_nil))))) pss_nil)
    (pss_cons (ps_if (pt_cmpR op_in_seq (pv 0) (pe_tup (pa_cons pe_str (pa_cons pe_str pa_nil))) (by rfl)) (pss_one (ps_ret (pe_call GH.ok hr rfl GH.g GH.k GH.b .nil (passes_call (takes_of rfl rfl rfl rfl) fun _ _ _ _ h => h) (pa_cons (pv 0) (pa_cons (pe_ix (r := rIxL K) ix_list (pv 1) pe_int (fun _ _ => rfl)) pa_nil))))) pss_nil)
    (pss_cons (ps_if (pt_not (pt_val (pe_allI (P := P1) (G0 := fun _ _ => True) hr rfl B.all (by decide +kernel) TB rfl (genS_of rfl rfl (by decide +kernel) rfl rfl (by decide +kernel)) (pv 1) (fun σ pins s1 H1 J _ tg => elt_int J tg B.isinstance B.int rfl rfl rfl rfl) (fun _ => rfl)))) (pss_one (ps_raise rfl (takes_of rfl rfl rfl rfl) (pmk_oex XE.o XE.iC XE.tI XE.f r2 XE.b .nil pass0 rfl XE.g (pa_cons (pe_tup (pa_cons pe_str (pa_cons pe_str pa_nil))) pa_nil)))) pss_nil)
    (pss_one (ps_ret (pe_call GR.ok hr rfl GR.g GR.k GR.b .nil (passes_call (takes_of rfl rfl rfl rfl) fun _ _ _ _ h => h) (pa_cons (pv 0) (pa_cons (pe_ix (r := rIxL K) ix_list (pv 1) pe_int (fun _ _ => rfl)) (pa_cons (pe_ix (r := rIxL K) ix_list (pv 1) pe_int (fun _ _ => rfl)) pa_nil))))))))), ?_⟩
  unfold primF at q qe
  have ein : inV (.str p) [.str "first", .str "second"] = decide (p ∈ (["first", "second"] : List Str)) := inV_strs p ["first", "second"]
  refine ⟨_, rfl, rfl, _, rfl, ?_⟩
  refine ite2 (fun c => ?_) (fun c => ?_)
  · have e := v_str c
    rw [if_pos e] at q qe
    have l2 : ys.length = 2 := by
      have : arP p = 2 := by rw [e]; rfl
      omega
    match ys, l2, rs with
    | [y1, y2], _, .cons (v := x1) r1 (.cons (v := x2) r2' .nil) =>
    refine ⟨_, rfl, a, _, 0, _, rfl, rfl, SqL.of ha, rfl, ?_⟩
    refine ⟨_, rfl, a, _, 1, _, rfl, rfl, SqL.of ha, rfl, ?_⟩
    refine fun x dx hx hd ne => ⟨x, dx, _, rfl, rfl, upd_same, rfl, ?_⟩
    rw [upd_upd]
    exact q _ rfl _ _ (mk_fr hx hd ne) (.pair upd_same (fun z => hX x z hx) (r1.fr (mk_fr hx hd ne)) (r2'.fr (mk_fr hx hd ne)))
  have c1 : ¬ p = "pair" := fun z => c (decide_eq_true (congrArg V.str z))
  rw [if_neg c1] at q qe
  refine ⟨_, rfl, by show 2 ≤ sizeLine; decide, fun t ht => ?_⟩
  refine ⟨t, _, rfl, .inr (SqT.of upd_same), rfl, rfl, _, rfl, ?_⟩
  have f : Fr No H (upd H t (.tup [.str "first", .str "second"])) := Fr.new ht
  have ha1 : (upd H t (.tup [.str "first", .str "second"])) a = some (.lst xs) := by rw [upd_ne (ne_of_none ha ht)]; exact ha
  have tg1 := f.sm.tab _ tg
  have rs1 := rs.fr f.no
  rw [if_neg Bool.false_ne_true, ein]
  generalize upd H t (.tup [.str "first", .str "second"]) = H1 at f ha1 tg1 rs1 ⊢
  refine ite2 (fun c => ?_) (fun c => ?_)
  · have m : p = "first" ∨ p = "second" := by simpa using of_decide_eq_true c
    rw [if_pos m] at q qe
    have l1 : ys.length = 1 := by
      have : arP p = 1 := by unfold arP; rw [if_pos m]
      omega
    match ys, l1, rs1 with
    | [y1], _, .cons (v := x1) r1 .nil =>
    refine ⟨_, rfl, _, rfl, a, _, 0, _, rfl, rfl, SqL.of ha1, rfl, ?_⟩
    refine ⟨X, p, x1, y1, rfl, r1, fun y e u ru => q y e u H1 f ru, fun ws e => (qe ws e).fr f⟩
  have m : ¬ (p = "first" ∨ p = "second") := fun z => c (decide_eq_true (by simpa using z))
  rw [if_neg m] at q qe
  have kis : KIs K H1 xs (ys.map isI) := by
    refine ⟨by rw [List.length_map, rs1.len], fun i v hv => ?_⟩
    obtain ⟨x, hx, rx⟩ := rs1.get hv
    refine ⟨isI x, by rw [List.getElem?_map, hx]; rfl, ?_⟩
    cases rx with
    | int i _ => exact .inl ⟨i, rfl, rfl⟩
    | pair h => exact .inr ⟨_, _, _, _, rfl, h, VC.fp.c, VC.ip, VC.O, VC.kpi, rfl⟩
    | prim h => exact .inr ⟨_, _, _, _, rfl, h, VC.fr.c, VC.ir, VC.O, VC.kri, rfl⟩
    | fnP h => exact .inr ⟨_, _, _, _, rfl, h, VC.ff.c, VC.if_, VC.O, VC.kfi, rfl⟩
    | fnM h => exact .inr ⟨_, _, _, _, rfl, h, VC.ff.c, VC.if_, VC.O, VC.kfi, rfl⟩
  refine ⟨_, rfl, a, xs, _, rfl, ha1, kis, tg1, True.intro, fun H2 tb => ?_⟩
  have f2 : Fr No H1 H2 := ⟨Sm.tabbed tg1 tb, fun b zs e => by
    obtain ⟨ps, tP, _⟩ := tg1
    rw [tb.2 b (fun z => by rw [z, tP] at e; cases e)]
    exact e⟩
  have ff := f.trans f2
  have nXa : H2 a = some (.lst xs) := by
    obtain ⟨ps, tP, _⟩ := tg1
    rw [tb.2 a (fun z => by rw [z, tP] at ha1; cases ha1)]
    exact ha1
  refine ⟨ys.all isI, congrArg V.bl (by show (ys.map isI).all id = ys.all isI; rw [List.all_map]; rfl), ?_⟩
  cases ca : ys.all isI with
  | false =>
    rw [ca, if_neg Bool.false_ne_true] at qe
    exact iteT (mkO_2 ((qe _ rfl).fr ff))
  | true =>
    rw [ca, if_pos rfl] at q qe
    refine iteF ?_
    have l2 : ys.length = 2 := by
      have : arP p = 2 := by unfold arP; rw [if_neg m]
      omega
    have rs2 := rs1.fr f2.no
    match ys, l2, ca, rs2 with
    | [.int l, .int r], _, _, .cons (.int _ hl) (.cons (.int _ hr') .nil) =>
    refine ⟨_, rfl, _, rfl, a, _, 0, _, rfl, rfl, SqL.of nXa, rfl, ?_⟩
    refine ⟨_, rfl, a, _, 1, _, rfl, rfl, SqL.of nXa, rfl, ?_⟩
    refine ⟨p, l, r, rfl, hl, hr', fun z e => ?_, fun ws e => ?_⟩
    · refine q (.int z) (by simp only [e]) _ H2 ff (.int z (reckF_le e))
    · exact (qe ws (by simp only [e])).fr ff
end
end My
namespace My
open PySem PySem.Spec PyProof.Rows L2 TL
abbrev sBn : Stmt := top 3
abbrev NBn : List Str := ["core", "number", "part"]
/-! which tree it is, by its word -/
theorem word_int {t : Tr} (h : word t = "int") : ∃ i, t = .int i := by
  cases t with
  | int i => exact ⟨i, rfl⟩
  | loc n => exact absurd (show ("local" : Str) = "int" from h) (by decide +kernel)
  | glob m x => exact absurd (show ("global" : Str) = "int" from h) (by decide +kernel)
  | prim p => exact absurd (show ("prim" : Str) = "int" from h) (by decide +kernel)
  | fn ns b => exact absurd (show ("fn" : Str) = "int" from h) (by decide +kernel)
  | let_ ns ts b => exact absurd (show ("let" : Str) = "int" from h) (by decide +kernel)
  | if_ a b c => exact absurd (show ("if" : Str) = "int" from h) (by decide +kernel)
  | call f ts => exact absurd (show ("call" : Str) = "int" from h) (by decide +kernel)
theorem word_local {t : Tr} (h : word t = "local") : ∃ n, t = .loc n := by
  cases t with
  | int i => exact absurd (show ("int" : Str) = "local" from h) (by decide +kernel)
  | loc n => exact ⟨n, rfl⟩
  | glob m x => exact absurd (show ("global" : Str) = "local" from h) (by decide +kernel)
  | prim p => exact absurd (show ("prim" : Str) = "local" from h) (by decide +kernel)
  | fn ns b => exact absurd (show ("fn" : Str) = "local" from h) (by decide +kernel)
  | let_ ns ts b => exact absurd (show ("let" : Str) = "local" from h) (by decide +kernel)
  | if_ a b c => exact absurd (show ("if" : Str) = "local" from h) (by decide +kernel)
  | call f ts => exact absurd (show ("call" : Str) = "local" from h) (by decide +kernel)
theorem word_global {t : Tr} (h : word t = "global") : ∃ m x, t = .glob m x := by
  cases t with
  | int i => exact absurd (show ("int" : Str) = "global" from h) (by decide +kernel)
  | loc n => exact absurd (show ("local" : Str) = "global" from h) (by decide +kernel)
  | glob m x => exact ⟨m, x, rfl⟩
  | prim p => exact absurd (show ("prim" : Str) = "global" from h) (by decide +kernel)
  | fn ns b => exact absurd (show ("fn" : Str) = "global" from h) (by decide +kernel)
  | let_ ns ts b => exact absurd (show ("let" : Str) = "global" from h) (by decide +kernel)
  | if_ a b c => exact absurd (show ("if" : Str) = "global" from h) (by decide +kernel)
  | call f ts => exact absurd (show ("call" : Str) = "global" from h) (by decide +kernel)
theorem word_prim {t : Tr} (h : word t = "prim") : ∃ p, t = .prim p := by
  cases t with
  | int i => exact absurd (show ("int" : Str) = "prim" from h) (by decide +kernel)
  | loc n => exact absurd (show ("local" : Str) = "prim" from h) (by decide +kernel)
  | glob m x => exact absurd (show ("global" : Str) = "prim" from h) (by decide +kernel)
  | prim p => exact ⟨p, rfl⟩
  | fn ns b => exact absurd (show ("fn" : Str) = "prim" from h) (by decide +kernel)
  | let_ ns ts b => exact absurd (show ("let" : Str) = "prim" from h) (by decide +kernel)
  | if_ a b c => exact absurd (show ("if" : Str) = "prim" from h) (by decide +kernel)
  | call f ts => exact absurd (show ("call" : Str) = "prim" from h) (by decide +kernel)
theorem word_fn {t : Tr} (h : word t = "fn") : ∃ ns b, t = .fn ns b := by
  cases t with
  | int i => exact absurd (show ("int" : Str) = "fn" from h) (by decide +kernel)
  | loc n => exact absurd (show ("local" : Str) = "fn" from h) (by decide +kernel)
  | glob m x => exact absurd (show ("global" : Str) = "fn" from h) (by decide +kernel)
  | prim p => exact absurd (show ("prim" : Str) = "fn" from h) (by decide +kernel)
  | fn ns b => exact ⟨ns, b, rfl⟩
  | let_ ns ts b => exact absurd (show ("let" : Str) = "fn" from h) (by decide +kernel)
  | if_ a b c => exact absurd (show ("if" : Str) = "fn" from h) (by decide +kernel)
  | call f ts => exact absurd (show ("call" : Str) = "fn" from h) (by decide +kernel)
theorem word_let {t : Tr} (h : word t = "let") : ∃ ns ts b, t = .let_ ns ts b := by
  cases t with
  | int i => exact absurd (show ("int" : Str) = "let" from h) (by decide +kernel)
  | loc n => exact absurd (show ("local" : Str) = "let" from h) (by decide +kernel)
  | glob m x => exact absurd (show ("global" : Str) = "let" from h) (by decide +kernel)
  | prim p => exact absurd (show ("prim" : Str) = "let" from h) (by decide +kernel)
  | fn ns b => exact absurd (show ("fn" : Str) = "let" from h) (by decide +kernel)
  | let_ ns ts b => exact ⟨ns, ts, b, rfl⟩
  | if_ a b c => exact absurd (show ("if" : Str) = "let" from h) (by decide +kernel)
  | call f ts => exact absurd (show ("call" : Str) = "let" from h) (by decide +kernel)
theorem word_if {t : Tr} (h : word t = "if") : ∃ a b c, t = .if_ a b c := by
  cases t with
  | int i => exact absurd (show ("int" : Str) = "if" from h) (by decide +kernel)
  | loc n => exact absurd (show ("local" : Str) = "if" from h) (by decide +kernel)
  | glob m x => exact absurd (show ("global" : Str) = "if" from h) (by decide +kernel)
  | prim p => exact absurd (show ("prim" : Str) = "if" from h) (by decide +kernel)
  | fn ns b => exact absurd (show ("fn" : Str) = "if" from h) (by decide +kernel)
  | let_ ns ts b => exact absurd (show ("let" : Str) = "if" from h) (by decide +kernel)
  | if_ a b c => exact ⟨a, b, c, rfl⟩
  | call f ts => exact absurd (show ("call" : Str) = "if" from h) (by decide +kernel)
theorem word_call {t : Tr} (h : word t = "call") : ∃ f ts, t = .call f ts := by
  cases t with
  | int i => exact absurd (show ("int" : Str) = "call" from h) (by decide +kernel)
  | loc n => exact absurd (show ("local" : Str) = "call" from h) (by decide +kernel)
  | glob m x => exact absurd (show ("global" : Str) = "call" from h) (by decide +kernel)
  | prim p => exact absurd (show ("prim" : Str) = "call" from h) (by decide +kernel)
  | fn ns b => exact absurd (show ("fn" : Str) = "call" from h) (by decide +kernel)
  | let_ ns ts b => exact absurd (show ("let" : Str) = "call" from h) (by decide +kernel)
  | if_ a b c => exact absurd (show ("if" : Str) = "call" from h) (by decide +kernel)
  | call f ts => exact ⟨f, ts, rfl⟩
theorem bnd_nil {t : Tr} (h1 : word t ≠ "fn") (h2 : word t ≠ "let") : bnd t = [] := by
  cases t with
  | fn ns b => exact absurd rfl h1
  | let_ ns ts b => exact absurd rfl h2
  | _ => rfl
theorem ev_head {K : PySem.W.Frag} {σ : L2.St} {H : Hp} {i : Nat} {v : V} {t : Tr} {w : Str} {Q : Bool → Hp → Prop} (h : σ[i]? = some (some v)) (r : RT H v t) (q : Q (decide (word t = w)) H) : tTest (tOp rEq (tOp (rIxT K) (tVar i) (tC (.int 0))) (tC (.str w))) σ H Q := by
  obtain ⟨a, xs, rfl, ha, _⟩ := r.head
  refine ⟨_, h, a, _, 0, _, rfl, rfl, SqT.of ha, at0 _ _, rfl, _, rfl, ?_⟩
  have e : decide (V.str (word t) = V.str w) = decide (word t = w) := decide_eq_decide.mpr ⟨fun z => V.str.inj z, fun z => by rw [z]⟩
  rw [e]
  exact q
theorem ev_eqs {σ : L2.St} {H : Hp} {i : Nat} {x w : Str} {Q : Bool → Hp → Prop} (h : σ[i]? = some (some (.str x))) (q : Q (decide (x = w)) H) : tTest (tOp rEq (tVar i) (tC (.str w))) σ H Q := by
  refine ⟨_, h, rfl, _, rfl, ?_⟩
  have e : decide (V.str x = V.str w) = decide (x = w) := decide_eq_decide.mpr ⟨fun z => V.str.inj z, fun z => by rw [z]⟩
  rw [e]
  exact q
theorem inV_ints (x : Int) : ∀ l : List Int, inV (.int x) (l.map V.int) = decide (x ∈ l)
  | [] => rfl
  | y :: r => by
    have ih := inV_ints x r
    unfold inV at ih ⊢
    rw [List.map_cons, List.any_cons, ih]
    show (decide (y = x) || decide (x ∈ r)) = _
    by_cases h : y = x
    · rw [decide_eq_true h, Bool.true_or, decide_eq_true (by rw [h]; exact List.mem_cons_self)]
    · rw [decide_eq_false h, Bool.false_or]
      exact decide_eq_decide.mpr ⟨fun z => List.mem_cons_of_mem _ z, fun z => (List.mem_cons.mp z).resolve_left fun e => h e.symm⟩
theorem flat_map {α : Type} (f : α → V) (h : ∀ a, flatV (f a) = true) (l : List α) : (l.map f).all flatV = true := by
  rw [List.all_map, List.all_eq_true]
  exact fun a _ => h a
theorem bnd_len {t : Tr} (h : widT t) : (bnd t).length ≤ 1000 := by
  cases t with
  | fn ns b => unfold widT at h; exact h.1
  | let_ ns ts b => unfold widT at h; exact h.1
  | _ => exact Nat.zero_le _
def spBn : Sp := fun vs H Q _ => ∃ (v : V) (t : Tr), vs = [v] ∧ RT H v t ∧ widT t ∧ ∀ L H', H L = none → H' L = some (.lst ((bnd t).map V.int)) → Sm No H H' → Q (.ref L) H'
section
variable {P : Program} {w : World} {K : PySem.W.Frag} {mg : Str → Option Value} {base : Heap}
theorem scBn : FnScope NBn ["core"] (defScope sBn) := ⟨rfl, rfl, rfl, by decide +kernel, rfl, by decide +kernel, by decide +kernel⟩
theorem ok_bn {f : Addr} {fd : FuncData} (F : Fun K "bound_numbers" "bound_numbers" sBn f fd) (B : Blt mg) : FnOk P w K mg base CX0 1 f fd ["core"] spBn := by
  refine F.ok scBn (fun vs H Q E h => ?_) (fun cdv A outer s H vs Q E hr h => ?_)
  · obtain ⟨v, t, rfl, _⟩ := h
    rfl
  obtain ⟨v, t, rfl, rt, wt, q⟩ := h
  have nd := scBn.nd
  refine ⟨_, (pss_cons (ps_if (pt_cmpR op_eq (pe_ix (r := rIxT K) ix_tup (pv 0) pe_int (fun _ _ => rfl)) pe_str (nomark _)) (pss_one (ps_ret (pe_callTy call_list_of (by rfl) B.list (by decide +kernel) (pa_cons (pe_ix (r := rIxT K) ix_tup (pv 0) pe_int (fun _ _ => rfl)) pa_nil)))) pss_nil)
    (pss_cons (ps_if (pt_cmpR op_eq (pe_ix (r := rIxT K) ix_tup (pv 0) pe_int (fun _ _ => rfl)) pe_str (nomark _)) (pss_one (ps_ret (pe_lc (own := [("number", 1), ("part", 2)]) (g := gTup K 2 (gCons (gName 1) (gCons (gName 2) gNil))) (tt := tYes) rfl nd (pi_tup (pe_ix (r := rIxT K) ix_tup (pv 0) pe_int (fun _ _ => rfl))) (blkOk_by (N := NBn) (sc := defScope sBn) (by decide +kernel)) (fun _ _ _ _ _ => (pg_tup rfl (pgs_cons (pg_name (i := 1) nd rfl (Or.inl rfl) (hf := Or.inr rfl)) (pgs_cons (pg_name (i := 2) nd rfl (Or.inl rfl) (hf := Or.inr rfl)) pgs_nil)))) (fun _ _ _ _ _ => pts_nil) (fun _ _ _ _ _ => (pv 1))))) pss_nil)
    (pss_one (ps_ret (pe_lst pa_nil))))), ?_⟩
  refine ev_head rfl rt ?_
  refine ite2 (fun c => ?_) (fun c => ?_)
  · obtain ⟨ns, b, rfl⟩ := word_fn (of_decide_eq_true c)
    cases rt with
    | @fn a p x _ _ ha hp rb =>
    refine ⟨_, rfl, a, _, 1, _, rfl, rfl, SqT.of ha, at1 _ _ _, p, _, rfl, .inr (SqT.of hp), fun L hL => ?_⟩
    exact q L _ hL upd_same (Sm.new hL)
  · refine ev_head rfl rt ?_
    refine ite2 (fun c2 => ?_) (fun c2 => ?_)
    · obtain ⟨ns, ts, b, rfl⟩ := word_let (of_decide_eq_true c2)
      cases rt with
      | @let_ a p x vs _ _ _ ha hp rp rb =>
      have ⟨l1, l2⟩ := rp.len
      unfold widT at wt
      refine ⟨_, rfl, a, _, 1, _, rfl, rfl, SqT.of ha, at1 _ _ _, p, rfl, ⟨_, SqT.of hp⟩, fun D hD => ?_⟩
      refine lc_tup (xs := vs) (fun i H' => H' D = some (.lst ((ns.take i).map V.int)) ∧ Sm No H H') ⟨upd_same, Sm.new hD⟩ (fun i H' _ h => SqT.of (h.2.kpT _ _ hp)) ?_ ?_
      · rintro i y H' hi ⟨h1, h2⟩
        obtain ⟨e, x1, n, t1, rfl, he, hn, ht1, _⟩ := rp.get hi
        have he' := h2.kpT _ _ he
        have il : i < ns.length := (List.getElem?_eq_some_iff.mp hn).1
        refine ⟨e, _, rfl, SqT.of he', rfl, _, _, rfl, ?_⟩
        refine ⟨_, _, rfl, rfl, rfl, ?_⟩
        refine ⟨_, rfl, _, h1, ?_, ?_, h2.mut hD (ntbl_l h1)⟩
        · rw [List.length_map, List.length_take]
          exact line_of (by omega)
        · rw [upd_same, take_more hn, List.map_append]; rfl
      · rintro H' ⟨h1, h2⟩
        rw [l1, List.take_length] at h1
        exact q D H' hD h1 h2
    · refine ⟨by show 0 ≤ sizeLine; decide, fun L hL => ?_⟩
      refine q L _ hL ?_ (Sm.new hL)
      rw [bnd_nil (fun z => c (decide_eq_true z)) (fun z => c2 (decide_eq_true z)), upd_same]
      rfl
end
end My
namespace My
open PySem PySem.Spec PyProof.Rows L2 TL
end My
namespace My
open PySem PySem.Spec PyProof.Rows L2 TL
/-! ### with_variables -/
abbrev sWv : Stmt := top 22
abbrev NWv : List Str := ["variables", "numbers", "results", "inside", "number", "result"]
def spWv (C : Cs) : Sp := fun vs H Q _ => ∃ (X : Addr → Prop) (e a b : Addr) (kvs : List (Key × V)) (env : List (Int × Vl)) (ns : List Int) (us : List V) (ys : List Vl), vs = [.ref e, .ref a, .ref b] ∧ H e = some (.dK kvs) ∧ REv C X H kvs env ∧ H a = some (.lst (ns.map V.int)) ∧
  H b = some (.lst us) ∧ RVs C X H us ys ∧ ns.length = ys.length ∧ ns.length ≤ 1000 ∧ env.length ≤ 1000000 ∧
  ∀ p H' lvs, Fr No H H' → H p = none → H' p = some (.dK lvs) → REv C X H' lvs (evPuts ns ys env) → Q (.ref p) H'
section
variable {P : Program} {w : World} {K : PySem.W.Frag} {mg : Str → Option Value} {base : Heap}
theorem scWv : FnScope NWv ["variables", "numbers", "results"] (defScope sWv) := ⟨rfl, rfl, rfl, by decide +kernel, rfl, by decide +kernel, by decide +kernel⟩
theorem ok_wv {f : Addr} {C : Cs} {fd : FuncData} (F : Fun K "with_variables" "with_variables" sWv f fd) (B2 : Bl2 mg) : FnOk P w K mg base CX0 1 f fd ["variables", "numbers", "results"] (spWv C) := by
  refine F.ok scWv (fun vs H Q E h => ?_) (fun cdv A outer s H vs Q E hr h => ?_)
  · obtain ⟨X, e, a, b, kvs, env, ns, us, ys, rfl, _⟩ := h
    rfl
  obtain ⟨X, e, a, b, kvs, env, ns, us, ys, rfl, he, re, ha, hb, ru, ln, l1, l2, q⟩ := h
  have nd := scWv.nd
  have hu := hu_of hr
  refine ⟨_, (pss_cons (ps_set (i := 3) nd rfl (Or.inl rfl) (pe_callTy call_dictD (by rfl) B2.dict (by decide +kernel) (pa_cons (pv 0) pa_nil)))
    (pss_cons (ps_for PassesOwn.never rfl (pi_zip (by rfl) B2.zip (pa_cons (pv 1) (pa_cons (pv 2) pa_nil))) (pg_tup rfl (pgs_cons (pg_name (i := 4) nd rfl (Or.inl rfl)) (pgs_cons (pg_name (i := 5) nd rfl (Or.inl rfl)) pgs_nil)))
      (pss_one (ps_dput hu (pv 3) (pv 4) (pv 5) rfl)))
    (pss_one (ps_ret (pv 3))))), ?_⟩
  refine ⟨_, rfl, e, kvs, rfl, .inl he, fun p hp => ?_⟩
  have f1 : Fr No H (upd H p (.dK kvs)) := Fr.new hp
  have ha1 := f1.keep (fun z => z) rfl ha
  have hb1 := f1.keep (fun z => z) rfl hb
  refine ⟨_, rfl, _, rfl, a, b, _, _, rfl, SqL.of ha1, SqL.of hb1, ?_⟩
  have lu := ru.len
  refine RZ.for_zipL (xs := ns.map V.int) (ys := us) (by rw [List.length_map, lu, ln]) (fun i σ H' => ∃ (v4 v5 : Option V) (lvs : List (Key × V)), σ = [some (.ref e), some (.ref a), some (.ref b), some (.ref p), v4, v5] ∧ H' p = some (.dK lvs) ∧ REv C X H lvs (evPuts (ns.take i) (ys.take i) env) ∧ Fr No H H')
    ⟨none, none, kvs, rfl, upd_same, by rw [List.take_zero, List.take_zero]; exact re, f1⟩ (fun i σ H' ⟨_, _, _, _, _, _, g⟩ => ⟨SqL.of (g.keep (fun z => z) rfl ha), SqL.of (g.keep (fun z => z) rfl hb)⟩) ?_ ?_
  · rintro i x y T σ H' hx hy ⟨v4, v5, lvs, rfl, hp', rp, g⟩ hT
    obtain ⟨n, hn, rfl⟩ := map_at hx
    obtain ⟨yy, hyy, ry⟩ := ru.get hy
    have g2 : Fr No H' (upd H' T (.tup [.int n, y])) := Fr.new hT
    have hp2 := g2.keep (fun z => z) rfl hp'
    have hTH : H T = none := g.dom hT
    have il : i < ns.length := (List.getElem?_eq_some_iff.mp hn).1
    have iy : i < ys.length := by omega
    have ll : lvs.length < sizeLine := by
      rw [rp.len]
      have h1 := evPuts_len (ns.take i) (ys.take i) env
      rw [List.length_take] at h1
      exact Nat.lt_of_le_of_lt (show _ ≤ 1001000 by omega) (by decide)
    refine ⟨T, _, rfl, SqT.of upd_same, rfl, _, _, rfl, ?_⟩
    refine ⟨_, _, rfl, rfl, ?_⟩
    refine ⟨_, rfl, _, rfl, _, rfl, p, _, rfl, DPut.k (k := .inl n) hp2 ll, ?_⟩
    have g3 := (g.trans g2).mut (o := .dK (putK lvs (.inl n) y)) hp hp2 rfl
    have t1 : ns.take (i + 1) = ns.take i ++ [n] := take_more hn
    have t2 : ys.take (i + 1) = ys.take i ++ [yy] := take_more hyy
    refine ⟨_, _, _, rfl, upd_same, ?_, g3⟩
    rw [t1, t2, evPuts_snoc _ _ _ _ _ (by rw [List.length_take, List.length_take]; omega)]
    exact rp.put ry
  · rintro σ H' ⟨v4, v5, lvs, rfl, hp', rp, g⟩
    rw [List.length_map, List.take_length] at rp
    rw [ln, List.take_length] at rp
    exact ⟨_, rfl, q p H' lvs g hp hp' (rp.fr g.no)⟩
end
end My
namespace My
open PySem PySem.Spec PyProof.Rows L2 TL
/-! ### an object of an own class is no integer: x == 0 -/
structure CmpO (K : PySem.W.Frag) (C : Addr) : Prop where
  eq : PySem.W.findIn K (.ref C) "__eq__" = some (some (.builtin "object.__eq__"))
  sub : PySem.W.subIn K (.type "int") (.ref C) = some false
  sup : PySem.W.subIn K (.ref C) (.type "int") = some false
  obj : PySem.W.mroIn K C (.type "object") = some true
section
open PySem.W
variable {prog : Program} {w : World} {A : Around} {E : Value → Shared → Prop} {s : Shared} {K : Frag} {x C : Addr} {ox : Obj} {od : Option Obj}
theorem call_objEq_int {i : Int} {t : Tok} {Q : Value → Shared → Prop} (X : K.In s.heap) (I : InstAt s.heap x ox C od) (hm : mroIn K C (.type "object") = some true) (h : Q .notImplemented s) :
    wpAny (model prog w) A (call (.builtin "object.__eq__") [.ref x, .int i t]) Q E s := by
  obtain ⟨hh, g, dr, tk, os⟩ := s
  have L0 := I.type (M := model prog w)
  have L1 := looks_mroIn (M := model prog w) X hm
  refine wpAny_call (codeAny_call_builtin F.cmp_object.eq.plain F.cmpEntry_eq ?_)
  simp only [checkBuiltinCall, F.cmpKind_eq, F.cmpSplit_eq]
  unfold isInstance
  repeat lk
  exact h
theorem call_intEq_obj {dx : Addr} {i : Int} {t : Tok} {Q : Value → Shared → Prop} (X : K.In s.heap) (I : InstAt s.heap x (instObj C dx) C od) (hm : subIn K (.ref C) (.type "int") = some false) (h : Q .notImplemented s) :
    wpAny (model prog w) A (call (.builtin "int.__eq__") [.int i t, .ref x]) Q E s := by
  obtain ⟨hh, g, dr, tk, os⟩ := s
  have L0 := I.type (M := model prog w)
  have L1 := looks_subIn (M := model prog w) X hm
  refine wpAny_call (codeAny_call_builtin F.slot_int_eq.plain F.entry_int_eq (F.slot_int_eq.check _ _ _ _ _ _ _ _ (typeIs_int _ _ _) (F.args_int_eq_2 _ _) ?_))
  unfold Builtin.«int.__eq__»
  repeat lk
  refine wpAny_loadPart (part := none) I.at_ ?_
  repeat lk
  exact h
theorem ifBound_B {M : Model} {id owner : String} {name : Str} {args : List Value} {Q : Option Value → Shared → Prop} (X : K.In s.heap) (I : InstAt s.heap x ox C od) (hs : findIn K (.ref C) name = some (some (.builtin id))) (S : Slot owner name id)
    (h : wpAny M A (call (.builtin id) (.ref x :: args)) (fun v => Q (some v)) E s) : wpAny M A (callSpecialIfBound? (.ref x) name args) Q E s := by
  simp only [callSpecialIfBound?, bindSpecialIfBound?]
  refine wpAny_holding (wpAny_bind (wpAny_bind (wpAny_bind (I.type.here ((looks_findIn X hs).here ?_)))))
  simp only [S.bind]
  refine wpAny_bind (wpAny_askSetting (wpAny_ite ?_))
  have fin : wpAny M A (call (.builtin id) ([.ref x] ++ args) >>= fun v => pure (some v)) Q E s := wpAny_bind (wpAny_mono h (fun v s' h' => wpAny_pure h') fun _ _ h' => h')
  split
  · exact wpAny_bind (wpAny_pure (wpAny_pure fin))
  · exact wpAny_tryCatch (wpAny_bind (wpAny_pure (wpAny_pure fin)))
theorem eq_obj_int {dx : Addr} {i : Int} {t : Tok} {Q : Value → Shared → Prop} (hu : A.units < cLine) (X : K.In s.heap) (I : InstAt s.heap x (instObj C dx) C od) (c : CmpO K C) (h : Q (.bool false) s) : wpAny (model prog w) A (richCompare .Eq (.ref x) (.int i t)) Q E s := by
  have one : wpAny (model prog w) A (tryCompare (.ref x) "__eq__" (.int i t)) (fun r s' => r = none ∧ s' = s) E s := by
    unfold tryCompare
    exact wpAny_bind (ifBound_B X I c.eq F.cmp_object.eq (call_objEq_int X I c.obj (wpAny_pure ⟨rfl, rfl⟩)))
  have two : wpAny (model prog w) A (tryCompare (.int i t) "__eq__" (.ref x)) (fun r s' => r = none ∧ s' = s) E s :=
    wpAny_tryCompare_declines (typeIs_int _ _ _) F.slot_int_eq (call_intEq_obj X I c.sup ⟨rfl, rfl, rfl⟩)
  unfold richCompare
  simp only [oneThing_ref, cmpInfo_Eq]
  refine wpAny_holding (wpAny_bind (wpAny_cRoomFor hu ?_))
  refine wpAny_bind (I.type.here (wpAny_bind (wpAny_typeOf (typeIs_int _ _ _) ?_)))
  rw [if_pos (show (Value.ref C != Value.type "int") = true from rfl)]
  refine wpAny_bind ((looks_subIn X c.sub).here ?_)
  simp only [Bool.false_eq_true, if_false]
  refine wpAny_bind (wpAny_mono one (fun r s' z => ?_) fun _ _ e => e)
  obtain ⟨rfl, rfl⟩ := z
  refine wpAny_bind (wpAny_mono two (fun r s' z => ?_) fun _ _ e => e)
  obtain ⟨rfl, rfl⟩ := z
  exact wpAny_bind (wpAny_rule (wpAny_bind (wpAny_isSame_plain rfl (wpAny_pure h))))
end
theorem rm0 {k : Nat} {A : Around} (r : Room k A) : A.units < cLine := by have := r.un; omega
/-- x == i of an integer, or of an object of an own class -/
def rEqI (K : PySem.W.Frag) : R2 := fun x y H Q => rEq x y H Q ∨ ∃ (a C dx : Addr) (fs : List (Str × V)) (i : Int), x = .ref a ∧ y = .int i ∧ H a = some (.ins C dx fs) ∧ CmpO K C ∧ Q (.bl false) H
theorem op_eqI {X : Cx} (hu : X.A.units < cLine) : OpR X (compareOp .Eq) (rEqI X.K) := by
  intro pins s σ H x y v u Q I rx ry h
  rcases h with h | ⟨a, C, dx, fs, i, rfl, rfl, ha, c, q⟩
  · exact op_eq pins s σ H x y v u Q I rx ry h
  · cases (show v = Value.ref a from rx)
    obtain ⟨t, e⟩ := (show ∃ t, u = Value.int i t from ry)
    cases e
    obtain ⟨mA, O, _, _, _, hdx⟩ := ins_get I.hok ha
    obtain ⟨od, J, _⟩ := O.look
    exact eq_obj_int hu I.kIn J c ⟨.bl false, H, I, rfl, q⟩
/-- the three classes of values are no integers -/
structure CmpV (K : PySem.W.Frag) (C : Addr × Addr × Addr) : Prop where
  pa : CmpO K C.1
  fu : CmpO K C.2.1
  pr : CmpO K C.2.2
end My
namespace My
open PySem PySem.Spec PyProof.Rows L2 TL
/-! ### lists, item by item -/
inductive Als {α : Type} (R : V → α → Prop) : List V → List α → Prop
  | nil : Als R [] []
  | cons {v : V} {x : α} {vs : List V} {xs : List α} (r : R v x) (rs : Als R vs xs) : Als R (v :: vs) (x :: xs)
section
variable {α : Type} {R S : V → α → Prop}
theorem Als.mono (h : ∀ v x, R v x → S v x) : ∀ {vs : List V} {xs : List α}, Als R vs xs → Als S vs xs
  | _, _, .nil => .nil
  | _, _, .cons r rs => .cons (h _ _ r) (Als.mono h rs)
theorem Als.app : ∀ {vs ws : List V} {xs ys : List α}, Als R vs xs → Als R ws ys → Als R (vs ++ ws) (xs ++ ys)
  | _, _, _, _, .nil, s => s
  | _, _, _, _, .cons r rs, s => .cons r (Als.app rs s)
theorem Als.one {v : V} {x : α} (r : R v x) : Als R [v] [x] := .cons r .nil
theorem Als.len : ∀ {vs : List V} {xs : List α}, Als R vs xs → vs.length = xs.length
  | _, _, .nil => rfl
  | _, _, .cons _ r => congrArg (· + 1) (Als.len r)
theorem Als.split : ∀ {vs : List V} {xs ys : List α}, Als R vs (xs ++ ys) → ∃ v1 v2, vs = v1 ++ v2 ∧ Als R v1 xs ∧ Als R v2 ys
  | vs, [], ys, h => ⟨[], vs, rfl, .nil, h⟩
  | _, _ :: xs, ys, .cons r rs => by
    obtain ⟨v1, v2, e, h1, h2⟩ := Als.split (xs := xs) rs
    exact ⟨_ :: v1, v2, by rw [e]; rfl, .cons r h1, h2⟩
theorem Als.last {vs : List V} {xs : List α} {x : α} (h : Als R vs (x :: xs).reverse) : ∃ v ws, vs = ws ++ [v] ∧ R v x ∧ Als R ws xs.reverse := by
  rw [List.reverse_cons] at h
  obtain ⟨v1, v2, e, h1, h2⟩ := h.split
  cases h2 with
  | cons r h3 =>
    cases h3
    exact ⟨_, v1, e, r, h1⟩
end
theorem RVs.split {C : Cs} {X : Addr → Prop} {H : Hp} : ∀ {vs : List V} {xs ys : List Vl}, RVs C X H vs (xs ++ ys) → ∃ v1 v2, vs = v1 ++ v2 ∧ RVs C X H v1 xs ∧ RVs C X H v2 ys
  | vs, [], ys, h => ⟨[], vs, rfl, .nil, h⟩
  | _, _ :: xs, ys, .cons r rs => by
    obtain ⟨v1, v2, e, h1, h2⟩ := RVs.split (xs := xs) rs
    exact ⟨_ :: v1, v2, by rw [e]; rfl, .cons r h1, h2⟩
theorem RVs.last {C : Cs} {X : Addr → Prop} {H : Hp} {vs : List V} {xs : List Vl} {x : Vl} (h : RVs C X H vs (x :: xs).reverse) : ∃ v ws, vs = ws ++ [v] ∧ RV C X H v x ∧ RVs C X H ws xs.reverse := by
  rw [List.reverse_cons] at h
  obtain ⟨v1, v2, e, h1, h2⟩ := h.split
  cases h2 with
  | cons r h3 =>
    cases h3
    exact ⟨_, v1, e, r, h1⟩
/-! ### the plain run -/
inductive Act where
  | begin | endLet | endIf | endCall
structure Tk where
  act : Act
  t : Tr
  env : List (Int × Vl)
/-- where the actions stand -/
structure Acts where
  bg : Addr
  el : Addr
  ei : Addr
  ec : Addr
def Acts.at (F : Acts) : Act → Addr
  | .begin => F.bg
  | .endLet => F.el
  | .endIf => F.ei
  | .endCall => F.ec
structure Pn where
  R : Addr
  dx : Addr
  T : Addr
  S : Addr
  D : Addr
/-- the greatest number of steps, and the definitions -/
abbrev Gl := List ((Str × Str) × Vl)
structure Wd where
  m : Nat
  gl : Gl
def glGet (k : Str × Str) : Gl → Option Vl
  | [] => none
  | (j, x) :: r => if j = k then some x else glGet k r
def glHas (k : Str × Str) (gl : Gl) : Bool := gl.any fun p => decide (p.1 = k)
def glPut (k : Str × Str) (y : Vl) (gl : Gl) : Gl := if glHas k gl = true then gl.map (fun p => if p.1 = k then (p.1, y) else p) else gl ++ [(k, y)]
def glK (k : Str × Str) : List Key := [.inr k.1, .inr k.2]
theorem glK_inj {j k : Str × Str} : glK j = glK k ↔ j = k := by
  constructor
  · intro h
    obtain ⟨a, b⟩ := j
    obtain ⟨c, d⟩ := k
    injection h with h1 h2
    injection h2 with h2 _
    have e1 : a = c := Sum.inr.inj h1
    have e2 : b = d := Sum.inr.inj h2
    rw [e1, e2]
  · intro h; rw [h]
inductive RGl (C : Cs) (X : Addr → Prop) (H : Hp) : List (List Key × V) → Gl → Prop
  | nil : RGl C X H [] []
  | cons {k : Str × Str} {v : V} {x : Vl} {kvs : List (List Key × V)} {gl : Gl} (r : RV C X H v x) (rs : RGl C X H kvs gl) : RGl C X H ((glK k, v) :: kvs) ((k, x) :: gl)
section
variable {C : Cs} {X Y : Addr → Prop} {H H' : Hp}
theorem RGl.mv (k : ∀ a o, isTbl o = false → H a = some o → ¬ X a → H' a = some o ∧ ¬ Y a) (t : KpT H H') : ∀ {kvs : List (List Key × V)} {gl : Gl}, RGl C X H kvs gl → RGl C Y H' kvs gl
  | _, _, .nil => .nil
  | _, _, .cons r rs => .cons (r.mv k t) (RGl.mv k t rs)
theorem RGl.fr (f : Fr X H H') {kvs : List (List Key × V)} {gl : Gl} (r : RGl C X H kvs gl) : RGl C X H' kvs gl := r.mv f.kk f.tup
theorem RGl.grow (g : ∀ a, Y a → X a ∨ H a = none) {kvs : List (List Key × V)} {gl : Gl} (r : RGl C X H kvs gl) : RGl C Y H kvs gl := r.mv (grow_kk g) fun _ _ h => h
theorem RGl.len : ∀ {kvs : List (List Key × V)} {gl : Gl}, RGl C X H kvs gl → kvs.length = gl.length
  | _, _, .nil => rfl
  | _, _, .cons _ r => congrArg (· + 1) (RGl.len r)
theorem RGl.app : ∀ {kvs lvs : List (List Key × V)} {gl gm : Gl}, RGl C X H kvs gl → RGl C X H lvs gm → RGl C X H (kvs ++ lvs) (gl ++ gm)
  | _, _, _, _, .nil, s => s
  | _, _, _, _, .cons r rs, s => .cons r (RGl.app rs s)
theorem RGl.get {k : Str × Str} : ∀ {kvs : List (List Key × V)} {gl : Gl}, RGl C X H kvs gl → (∀ x, glGet k gl = some x → ∃ v, valV kvs (glK k) = some v ∧ RV C X H v x) ∧ (glGet k gl = none → valV kvs (glK k) = none)
  | _, _, .nil => ⟨fun x e => (by cases e), fun _ => rfl⟩
  | _, _, .cons (k := j) (v := v) (x := x') (kvs := kvs) (gl := gl) r rs => by
    obtain ⟨h1, h2⟩ := RGl.get (k := k) rs
    unfold glGet
    by_cases c : j = k
    · rw [if_pos c]
      exact ⟨fun x e => (by cases e; exact ⟨v, valV_pos (by rw [c]), r⟩), fun e => (by cases e)⟩
    · rw [if_neg c]
      have ne : ¬ glK j = glK k := fun z => c (glK_inj.mp z)
      exact ⟨fun x e => (by obtain ⟨u, a, b⟩ := h1 x e; exact ⟨u, by rw [valV_neg ne]; exact a, b⟩), fun e => (by rw [valV_neg ne]; exact h2 e)⟩
theorem RGl.has {k : Str × Str} : ∀ {kvs : List (List Key × V)} {gl : Gl}, RGl C X H kvs gl → (kvs.any fun kv => decide (kv.1 = glK k)) = glHas k gl
  | _, _, .nil => rfl
  | _, _, .cons (k := j) r rs => by
    unfold glHas
    rw [List.any_cons, List.any_cons, RGl.has rs]
    show (decide (glK j = glK k) || glHas k _) = (decide (j = k) || glHas k _)
    rw [decide_eq_decide.mpr glK_inj]
theorem RGl.map {k : Str × Str} {w : V} {y : Vl} (rw' : RV C X H w y) : ∀ {kvs : List (List Key × V)} {gl : Gl}, RGl C X H kvs gl → RGl C X H (kvs.map fun kv => if kv.1 = glK k then (kv.1, w) else kv) (gl.map fun p => if p.1 = k then (p.1, y) else p)
  | _, _, .nil => .nil
  | _, _, .cons (k := j) r rs => by
    rw [List.map_cons, List.map_cons]
    by_cases c : j = k
    · have c2 : glK j = glK k := by rw [c]
      simp only [c2, c, if_true]
      exact .cons rw' (RGl.map rw' rs)
    · have c2 : ¬ glK j = glK k := fun z => c (glK_inj.mp z)
      simp only [c2, c, if_false]
      exact .cons r (RGl.map rw' rs)
theorem RGl.put {k : Str × Str} {w : V} {y : Vl} {kvs : List (List Key × V)} {gl : Gl} (r : RGl C X H kvs gl) (rw' : RV C X H w y) : RGl C X H (putK kvs (glK k) w) (glPut k y gl) := by
  unfold putK glPut
  rw [r.has]
  by_cases c : glHas k gl = true
  · rw [if_pos c, if_pos c]; exact r.map rw'
  · rw [if_neg c, if_neg c]; exact r.app (.cons rw' .nil)
end
/-- the definitions' dict -/
def RDf (C : Cs) (X : Addr → Prop) (H : Hp) (D : Addr) (gl : Gl) : Prop := ∃ kvs, H D = some (.dT kvs) ∧ RGl C X H kvs gl
def REn (C : Cs) (X : Addr → Prop) (H : Hp) (e : Addr) (env : List (Int × Vl)) : Prop := ∃ kvs, H e = some (.dK kvs) ∧ ¬ X e ∧ REv C X H kvs env ∧ env.length ≤ 1000000
def RTk (F : Acts) (C : Cs) (X : Addr → Prop) (H : Hp) (v : V) (k : Tk) : Prop := ∃ (a : Addr) (c : V) (e : Addr), v = .ref a ∧ H a = some (.tup [.ref (F.at k.act), c, .ref e]) ∧ RT H c k.t ∧ widT k.t ∧ REn C X H e k.env
def flds (p : Pn) (m : Wd) (n : Nat) : List (Str × V) := [("most", .int m.m), ("steps", .int n), ("defined", .ref p.D), ("todo", .ref p.T), ("results", .ref p.S)]
structure PRn (CP : Addr) (F : Acts) (C : Cs) (X : Addr → Prop) (H : Hp) (p : Pn) (m : Wd) (n : Nat) (todo : List Tk) (res : List Vl) : Prop where
  r : H p.R = some (.ins CP p.dx (flds p m n))
  t : ∃ ts, H p.T = some (.lst ts) ∧ Als (RTk F C X H) ts todo.reverse
  s : ∃ rs, H p.S = some (.lst rs) ∧ RVs C X H rs res.reverse
  xr : X p.R
  xt : X p.T
  xs : X p.S
  d : RDf C X H p.D m.gl
  ne : p.T ≠ p.S
  dom : ∀ b, X b → H b ≠ none
section
variable {CP : Addr} {F : Acts} {C : Cs} {X : Addr → Prop} {H H' : Hp} {p : Pn} {m : Wd} {n : Nat} {todo : List Tk} {res : List Vl}
theorem REn.fr (f : Fr X H H') {e : Addr} {env : List (Int × Vl)} (h : REn C X H e env) : REn C X H' e env := by
  obtain ⟨kvs, h1, h2, h3, h4⟩ := h
  exact ⟨kvs, f.keep h2 rfl h1, h2, h3.fr f, h4⟩
theorem RTk.fr (f : Fr X H H') {v : V} {k : Tk} (h : RTk F C X H v k) : RTk F C X H' v k := by
  obtain ⟨a, c, e, h1, h2, h3, h4, h5⟩ := h
  exact ⟨a, c, e, h1, f.tup _ _ h2, h3.keep f.tup, h4, h5.fr f⟩
theorem Fr.dom' (f : Fr X H H') {b : Addr} (h : H b ≠ none) : H' b ≠ none := fun z => h (f.dom z)
theorem RDf.fr {D : Addr} {gl : Gl} {W : Addr → Prop} (f : Fr W H H') (hw : ∀ b, W b → X b) (n : ¬ W D) (h : RDf C X H D gl) : RDf C X H' D gl := by
  obtain ⟨kvs, h1, h2⟩ := h
  exact ⟨kvs, f.keep n rfl h1, h2.fr (f.wide hw)⟩
theorem PRn.fr (f : Fr No H H') (h : PRn CP F C X H p m n todo res) : PRn CP F C X H' p m n todo res := by
  obtain ⟨ts, t1, t2⟩ := h.t
  obtain ⟨rs, s1, s2⟩ := h.s
  exact ⟨f.keep (fun z => z) rfl h.r, ⟨ts, f.keep (fun z => z) rfl t1, t2.mono fun _ _ r => r.fr f.no⟩, ⟨rs, f.keep (fun z => z) rfl s1, s2.fr f.no⟩, h.xr, h.xt, h.xs, h.d.fr f (fun _ z => z.elim) (fun z => z), h.ne, fun b x => f.dom' (h.dom b x)⟩
theorem PRn.neRT (h : PRn CP F C X H p m n todo res) : p.R ≠ p.T := by
  obtain ⟨ts, t1, _⟩ := h.t
  exact ne_of h.r t1 fun z => by cases z
theorem PRn.neRS (h : PRn CP F C X H p m n todo res) : p.R ≠ p.S := by
  obtain ⟨ts, t1, _⟩ := h.s
  exact ne_of h.r t1 fun z => by cases z
theorem PRn.neRD (h : PRn CP F C X H p m n todo res) : p.D ≠ p.R := by
  obtain ⟨ts, t1, _⟩ := h.d
  exact ne_of t1 h.r fun z => by cases z
theorem PRn.neTD (h : PRn CP F C X H p m n todo res) : p.D ≠ p.T := by
  obtain ⟨ts, t1, _⟩ := h.d
  obtain ⟨us, u1, _⟩ := h.t
  exact ne_of t1 u1 fun z => by cases z
theorem PRn.neSD (h : PRn CP F C X H p m n todo res) : p.D ≠ p.S := by
  obtain ⟨ts, t1, _⟩ := h.d
  obtain ⟨us, u1, _⟩ := h.s
  exact ne_of t1 u1 fun z => by cases z
/-- a step is counted -/
theorem PRn.step (h : PRn CP F C X H p m n todo res) : PRn CP F C X (upd H p.R (.ins CP p.dx (flds p m (n + 1)))) p m (n + 1) todo res ∧ Fr X H (upd H p.R (.ins CP p.dx (flds p m (n + 1)))) := by
  have f : Fr X H (upd H p.R (.ins CP p.dx (flds p m (n + 1)))) := Fr.set h.xr h.r rfl
  obtain ⟨ts, t1, t2⟩ := h.t
  obtain ⟨rs, s1, s2⟩ := h.s
  exact ⟨⟨upd_same, ⟨ts, by rw [upd_ne (Ne.symm h.neRT)]; exact t1, t2.mono fun _ _ r => r.fr f⟩, ⟨rs, by rw [upd_ne (Ne.symm h.neRS)]; exact s1, s2.fr f⟩, h.xr, h.xt, h.xs, h.d.fr (Fr.set (X := fun b => b = p.R) rfl h.r rfl) (fun b z => by rw [z]; exact h.xr) (fun z => h.neRD z), h.ne, fun b x => f.dom' (h.dom b x)⟩, f⟩
/-- the tasks are set anew -/
theorem PRn.setT {ts : List V} {todo' : List Tk} (h : PRn CP F C X H p m n todo res) (r : Als (RTk F C X H) ts todo'.reverse) : PRn CP F C X (upd H p.T (.lst ts)) p m n todo' res ∧ Fr X H (upd H p.T (.lst ts)) := by
  obtain ⟨ts0, t1, t2⟩ := h.t
  obtain ⟨rs, s1, s2⟩ := h.s
  have f : Fr X H (upd H p.T (.lst ts)) := Fr.set h.xt t1 rfl
  exact ⟨⟨by rw [upd_ne h.neRT]; exact h.r, ⟨ts, upd_same, r.mono fun _ _ r => r.fr f⟩, ⟨rs, by rw [upd_ne (Ne.symm h.ne)]; exact s1, s2.fr f⟩, h.xr, h.xt, h.xs, h.d.fr (Fr.set (X := fun b => b = p.T) rfl t1 rfl) (fun b z => by rw [z]; exact h.xt) (fun z => h.neTD z), h.ne, fun b x => f.dom' (h.dom b x)⟩, f⟩
/-- the results are set anew -/
theorem PRn.setS {rs : List V} {res' : List Vl} (h : PRn CP F C X H p m n todo res) (r : RVs C X H rs res'.reverse) : PRn CP F C X (upd H p.S (.lst rs)) p m n todo res' ∧ Fr X H (upd H p.S (.lst rs)) := by
  obtain ⟨ts, t1, t2⟩ := h.t
  obtain ⟨rs0, s1, s2⟩ := h.s
  have f : Fr X H (upd H p.S (.lst rs)) := Fr.set h.xs s1 rfl
  exact ⟨⟨by rw [upd_ne h.neRS]; exact h.r, ⟨ts, by rw [upd_ne h.ne]; exact t1, t2.mono fun _ _ r => r.fr f⟩, ⟨rs, upd_same, r.fr f⟩, h.xr, h.xt, h.xs, h.d.fr (Fr.set (X := fun b => b = p.S) rfl s1 rfl) (fun b z => by rw [z]; exact h.xs) (fun z => h.neSD z), h.ne, fun b x => f.dom' (h.dom b x)⟩, f⟩
end
inductive PRes where
  | stuck
  | err (ws : List Str) (n : Nat)
  | ok (n : Nat) (todo : List Tk) (res : List Vl)
def many : Nat := 1000000
def bgs (ts : List Tr) (env : List (Int × Vl)) : List Tk := ts.map fun t => ⟨.begin, t, env⟩
/-- what begin does with a part, its step counted -/
def partF (gl : Gl) (t : Tr) (env : List (Int × Vl)) (n : Nat) (todo : List Tk) (res : List Vl) : PRes :=
  if many ≤ todo.length ∨ many ≤ res.length then .stuck else
  match t with
  | .int i => if i.natAbs ≤ 10 ^ 60 then .ok n todo (.int i :: res) else .stuck
  | .loc x => match evGet x env with
    | some v => .ok n todo (v :: res)
    | none => .stuck
  | .glob a b => match glGet (a, b) gl with
    | some v => .ok n todo (v :: res)
    | none => .err ["error", "early"] n
  | .prim q => .ok n todo (.prim q :: res)
  | .fn ns b => .ok n todo (.fnP ns b env :: res)
  | .let_ ns ts b => .ok n (bgs ts env ++ ⟨.endLet, .let_ ns ts b, env⟩ :: todo) res
  | .if_ a b c => .ok n (⟨.begin, a, env⟩ :: ⟨.endIf, .if_ a b c, env⟩ :: todo) res
  | .call f ts => .ok n (⟨.begin, f, env⟩ :: (bgs ts env ++ ⟨.endCall, .call f ts, env⟩ :: todo)) res
def endLetF (t : Tr) (env : List (Int × Vl)) (n : Nat) (todo : List Tk) (res : List Vl) : PRes :=
  match t with
  | .let_ ns ts b => if ts.length ≤ res.length ∧ ns.length = ts.length ∧ env.length + ns.length ≤ 1000000 ∧ todo.length < many then .ok n (⟨.begin, b, evPuts ns (res.take ts.length).reverse env⟩ :: todo) (res.drop ts.length) else .stuck
  | _ => .stuck
/-- is it the integer 0 -/
def zeroV : Vl → Bool
  | .int i => decide (i = 0)
  | _ => false
def endIfF (t : Tr) (env : List (Int × Vl)) (n : Nat) (todo : List Tk) (res : List Vl) : PRes :=
  match t, res with
  | .if_ _ b c, x :: res => if todo.length < many then .ok n (⟨.begin, if zeroV x = true then c else b, env⟩ :: todo) res else .stuck
  | _, _ => .stuck
def endCallF (t : Tr) (n : Nat) (todo : List Tk) (res : List Vl) : PRes :=
  match t with
  | .call _ ts => match res.drop ts.length with
    | called :: res' => if ts.length ≤ 900 ∧ todo.length < many ∧ res.length < many then (match chkF called ts.length with
      | some ws => .err ws n
      | none => match called with
        | .prim q => (match primF q (res.take ts.length).reverse with
          | .ok y => .ok n todo (y :: res')
          | .error ws => .err ws n)
        | .fnP ns b env => if env.length + ns.length ≤ 1000000 then .ok n (⟨.begin, b, evPuts ns (res.take ts.length).reverse env⟩ :: todo) res' else .stuck
        | _ => .stuck) else .stuck
    | [] => .stuck
  | _ => .stuck
def beginF (m : Wd) (t : Tr) (env : List (Int × Vl)) (n : Nat) (todo : List Tk) (res : List Vl) : PRes := if m.m ≤ n then .err ["steps"] n else partF m.gl t env (n + 1) todo res
def actF (m : Wd) (k : Tk) (n : Nat) (todo : List Tk) (res : List Vl) : PRes := match k.act with
  | .begin => beginF m k.t k.env n todo res
  | .endLet => endLetF k.t k.env n todo res
  | .endIf => endIfF k.t k.env n todo res
  | .endCall => endCallF k.t n todo res
/-- an action keeps what `go` says -/
def spA (CP : Addr) (F : Acts) (C : Cs) (En P1 : Addr) (ok : Tr → Prop) (go : Wd → Tr → List (Int × Vl) → Nat → List Tk → List Vl → PRes) : Sp := fun vs H Q E => ∃ (X : Addr → Prop) (p : Pn) (m : Wd) (n : Nat) (todo : List Tk) (res : List Vl) (c : V) (t : Tr) (e : Addr) (env : List (Int × Vl)),
  vs = [.ref p.R, c, .ref e] ∧ PRn CP F C X H p m n todo res ∧ RT H c t ∧ widT t ∧ ok t ∧ REn C X H e env ∧ GxR.TabG H P1 ∧ go m t env n todo res ≠ .stuck ∧
  (∀ n' todo' res', go m t env n todo res = .ok n' todo' res' → ∀ H', Fr X H H' → PRn CP F C X H' p m n' todo' res' → Q .non H') ∧
  (∀ ws n', go m t env n todo res = .err ws n' → ∀ H1, Fr X H H1 → H1 p.R = some (.ins CP p.dx (flds p m n')) → erX No En ws H1 E)
theorem eqI_zero {K : PySem.W.Frag} {C : Cs} {X : Addr → Prop} {H : Hp} {v : V} {x : Vl} {Q : VK} (CO : CmpV K (C.pa, C.fu, C.pr)) (r : RV C X H v x) (q : Q (.bl (zeroV x)) H) : rEqI K v (.int 0) H Q := by
  cases r with
  | int i h =>
    refine .inl ⟨rfl, ?_⟩
    rw [show decide (V.int i = V.int 0) = zeroV (.int i) from decide_eq_decide.mpr ⟨fun z => V.int.inj z, fun z => by rw [z]⟩]
    exact q
  | pair h n r s => exact .inr ⟨_, _, _, _, 0, rfl, rfl, h, CO.pa, q⟩
  | prim h n => exact .inr ⟨_, _, _, _, 0, rfl, rfl, h, CO.pr, q⟩
  | fnP h n rt wt he ne re => exact .inr ⟨_, _, _, _, 0, rfl, rfl, h, CO.fu, q⟩
  | fnM h n rc he ne rs => exact .inr ⟨_, _, _, _, 0, rfl, rfl, h, CO.fu, q⟩
end My
namespace My
open PySem PySem.Spec PyProof.Rows L2 TL
abbrev fR5 : List Str := ["most", "steps", "defined", "todo", "results"]
abbrev sBi : Stmt := top 23
abbrev sBl : Stmt := top 24
abbrev sBp : Stmt := top 26
abbrev sBf : Stmt := top 27
def goP : Wd → Tr → List (Int × Vl) → Nat → List Tk → List Vl → PRes := fun m t env n todo res => partF m.gl t env n todo res
theorem many_line {n : Nat} (h : ¬ many ≤ n) : n < sizeLine := Nat.lt_of_lt_of_le (Nat.lt_of_not_le h) (by decide)
theorem partF_lim {gl : Gl} {t : Tr} {env : List (Int × Vl)} {n : Nat} {todo : List Tk} {res : List Vl} (h : partF gl t env n todo res ≠ .stuck) : ¬ many ≤ todo.length ∧ ¬ many ≤ res.length := by
  unfold partF at h
  by_cases c : many ≤ todo.length ∨ many ≤ res.length
  · rw [if_pos c] at h; exact absurd rfl h
  · exact ⟨fun z => c (.inl z), fun z => c (.inr z)⟩
theorem partF_at {gl : Gl} {t : Tr} {env : List (Int × Vl)} {n : Nat} {todo : List Tk} {res : List Vl} (h : partF gl t env n todo res ≠ .stuck) : ¬ (many ≤ todo.length ∨ many ≤ res.length) := fun c => by
  rcases c with c | c
  · exact (partF_lim h).1 c
  · exact (partF_lim h).2 c
section
variable {P : Program} {w : World} {K : PySem.W.Frag} {mg : Str → Option Value} {base : Heap} {CP En P1 : Addr} {F : Acts} {C : Cs}
theorem scBi : FnScope ["run", "core", "_"] ["run", "core", "_"] (defScope sBi) := ⟨rfl, rfl, rfl, by decide +kernel, rfl, by decide +kernel, by decide +kernel⟩
theorem scBl : FnScope ["run", "core", "variables"] ["run", "core", "variables"] (defScope sBl) := ⟨rfl, rfl, rfl, by decide +kernel, rfl, by decide +kernel, by decide +kernel⟩
theorem scBp : FnScope ["run", "core", "_"] ["run", "core", "_"] (defScope sBp) := ⟨rfl, rfl, rfl, by decide +kernel, rfl, by decide +kernel, by decide +kernel⟩
theorem scBf : FnScope ["run", "core", "variables"] ["run", "core", "variables"] (defScope sBf) := ⟨rfl, rfl, rfl, by decide +kernel, rfl, by decide +kernel, by decide +kernel⟩
/-- a value is pushed -/
theorem PRn.pushV {X : Addr → Prop} {H : Hp} {p : Pn} {m : Wd} {n : Nat} {todo : List Tk} {res : List Vl} {rs : List V} {v : V} {x : Vl} (h : PRn CP F C X H p m n todo res) (hs : H p.S = some (.lst rs)) (r : RVs C X H rs res.reverse) (rv : RV C X H v x) :
    PRn CP F C X (upd H p.S (.lst (rs ++ [v]))) p m n todo (x :: res) ∧ Fr X H (upd H p.S (.lst (rs ++ [v]))) :=
  h.setS (res' := x :: res) (by rw [List.reverse_cons]; exact r.app (.one rv))
theorem ok_bi {f : Addr} {fd : FuncData} (Fn : Fun K "begin_int" "begin_int" sBi f fd) (U : FldC K CP fR5) : FnOk P w K mg base (L2.CX P w) 1 f fd ["run", "core", "_"] (spA CP F C En P1 (fun t => word t = "int") goP) := by
  refine Fn.okX scBi (fun vs H Q E h => ?_) (fun cdv A outer s H vs Q E hr h => ?_)
  · obtain ⟨X, p, m, n, todo, res, c, t, e, env, rfl, _⟩ := h
    rfl
  obtain ⟨X, p, m, n, todo, res, c, t, e, env, rfl, st, rt, wt, wd, re, tg, ns, q, qe⟩ := h
  obtain ⟨i, rfl⟩ := word_int wd
  have lim := partF_at ns
  unfold goP at ns q qe
  unfold partF at ns q
  rw [if_neg lim] at ns q
  dsimp only at ns q
  have nd := scBi.nd
  cases rt with
  | @int a _ ha =>
  obtain ⟨rs, s1, s2⟩ := st.s
  refine ⟨_, (pss_one (ps_expr (pe_bm PySem.F.plainAttrs_list PySem.F.slot_list_append PySem.F.type_list_append mt_append (pe_fld (pv 0) rfl) (pa_cons (pe_ix (r := rIxT K) ix_tup (pv 1) pe_int (fun _ _ => rfl)) pa_nil)))), ?_⟩
  have b60 : i.natAbs ≤ 10 ^ 60 := by
    by_cases c : i.natAbs ≤ 10 ^ 60
    · exact c
    · rw [if_neg c] at ns; exact absurd rfl ns
  rw [if_pos b60] at q
  refine ⟨_, rfl, p.R, CP, p.dx, _, _, rfl, st.r, U.c, U.n _ (by simp), rfl, .inl ⟨rfl, _, SqL.of s1⟩, ?_⟩
  refine ⟨_, rfl, a, _, 1, _, rfl, rfl, SqT.of ha, at1 _ _ _, ?_⟩
  have lr : rs.length < sizeLine := by rw [s2.len, List.length_reverse]; exact many_line fun z => lim (.inr z)
  refine ⟨p.S, _, _, rfl, rfl, s1, lr, ?_⟩
  have g := st.pushV s1 s2 (.int i b60)
  exact q _ _ _ rfl _ g.2 g.1
theorem ok_bl {f : Addr} {fd : FuncData} (Fn : Fun K "begin_local" "begin_local" sBl f fd) (U : FldC K CP fR5) : FnOk P w K mg base (L2.CX P w) 1 f fd ["run", "core", "variables"] (spA CP F C En P1 (fun t => word t = "local") goP) := by
  refine Fn.okX scBl (fun vs H Q E h => ?_) (fun cdv A outer s H vs Q E hr h => ?_)
  · obtain ⟨X, p, m, n, todo, res, c, t, e, env, rfl, _⟩ := h
    rfl
  obtain ⟨X, p, m, n, todo, res, c, t, e, env, rfl, st, rt, wt, wd, re, tg, ns, q, qe⟩ := h
  obtain ⟨x, rfl⟩ := word_local wd
  have lim := partF_at ns
  unfold goP at ns q qe
  unfold partF at ns q
  rw [if_neg lim] at ns q
  dsimp only at ns q
  have nd := scBl.nd
  have hu := hu_of hr
  cases rt with
  | @loc a _ ha =>
  obtain ⟨rs, s1, s2⟩ := st.s
  obtain ⟨kvs, h1, h2, h3, h4⟩ := re
  obtain ⟨y, ey⟩ : ∃ y, evGet x env = some y := by
    cases c : evGet x env with
    | some y => exact ⟨y, rfl⟩
    | none => simp only [c] at ns; exact absurd rfl ns
  obtain ⟨v, hv, rv⟩ := h3.get ey
  refine ⟨_, (pss_one (ps_expr (pe_bm PySem.F.plainAttrs_list PySem.F.slot_list_append PySem.F.type_list_append mt_append (pe_fld (pv 0) rfl) (pa_cons (pe_dget hu (pv 2) (pe_ix (r := rIxT K) ix_tup (pv 1) pe_int (fun _ _ => rfl)) (fun _ _ => rfl)) pa_nil)))), ?_⟩
  simp only [ey] at q
  refine ⟨_, rfl, p.R, CP, p.dx, _, _, rfl, st.r, U.c, U.n _ (by simp), rfl, .inl ⟨rfl, _, SqL.of s1⟩, ?_⟩
  have dg := DGet.k (k := (.inl x : Key)) h1
  rw [hv] at dg
  refine ⟨_, rfl, _, rfl, a, _, 1, _, rfl, rfl, SqT.of ha, at1 _ _ _, e, _, rfl, dg, ?_⟩
  have lr : rs.length < sizeLine := by rw [s2.len, List.length_reverse]; exact many_line fun z => lim (.inr z)
  refine ⟨p.S, _, _, rfl, rfl, s1, lr, ?_⟩
  have g := st.pushV s1 s2 rv
  exact q _ _ _ rfl _ g.2 g.1
theorem ok_bp {f fP : Addr} {fd dP : FuncData} (Fn : Fun K "begin_prim" "begin_prim" sBp f fd) (U : FldC K CP fR5) (MP : MkC P w K mg base 1 "Primitive" ["self", "name"] (spPri C.pr) C.pr fP dP) : FnOk P w K mg base (L2.CX P w) 3 f fd ["run", "core", "_"] (spA CP F C En P1 (fun t => word t = "prim") goP) := by
  refine Fn.okX scBp (fun vs H Q E h => ?_) (fun cdv A outer s H vs Q E hr h => ?_)
  · obtain ⟨X, p, m, n, todo, res, c, t, e, env, rfl, _⟩ := h
    rfl
  obtain ⟨X, p, m, n, todo, res, c, t, e, env, rfl, st, rt, wt, wd, re, tg, ns, q, qe⟩ := h
  obtain ⟨y, rfl⟩ := word_prim wd
  have lim := partF_at ns
  unfold goP at ns q qe
  unfold partF at ns q
  rw [if_neg lim] at ns q
  dsimp only at ns q
  have nd := scBp.nd
  cases rt with
  | @prim a _ ha =>
  obtain ⟨rs, s1, s2⟩ := st.s
  refine ⟨_, (pss_one (ps_expr (pe_bm PySem.F.plainAttrs_list PySem.F.slot_list_append PySem.F.type_list_append mt_append (pe_fld (pv 0) rfl) (pa_cons (pe_make (E := fun _ _ _ => False) MP.m MP.ok hr rfl MP.g MP.b .nil pass0 (pa_cons (pe_ix (r := rIxT K) ix_tup (pv 1) pe_int (fun _ _ => rfl)) pa_nil)) pa_nil)))), ?_⟩
  refine ⟨_, rfl, p.R, CP, p.dx, _, _, rfl, st.r, U.c, U.n _ (by simp), rfl, .inl ⟨rfl, _, SqL.of s1⟩, ?_⟩
  refine ⟨_, rfl, a, _, 1, _, rfl, rfl, SqT.of ha, at1 _ _ _, fun x dx hx hd ne => ⟨x, dx, y, rfl, upd_same, fun H' f => ⟨rfl, ?_⟩⟩⟩
  have f3 : Fr No H (upd H' x (.ins C.pr dx [("parameters", .int (arP y)), ("name", .str y)])) := ((mk_fr hx hd ne).trans f).mut hx (f.keep (fun z => z) rfl upd_same) rfl
  have st3 := st.fr f3
  have s3 := f3.keep (fun z => z) rfl s1
  have lr : rs.length < sizeLine := by rw [s2.len, List.length_reverse]; exact many_line fun z => lim (.inr z)
  refine ⟨p.S, _, _, rfl, rfl, s3, lr, ?_⟩
  have g := st3.pushV s3 (s2.fr f3.no) (.prim (p := y) upd_same (fun z => st.dom x z hx))
  exact q _ _ _ rfl _ (f3.no.trans g.2) g.1
theorem ok_bf {f fU : Addr} {fd dU : FuncData} (Fn : Fun K "begin_fn" "begin_fn" sBf f fd) (B : Blt mg) (U : FldC K CP fR5) (MF : MkC P w K mg base 1 "Function" ["self", "parameters", "body", "kept"] (spIni C.fu 3 (three "parameters" "body" "kept")) C.fu fU dU) : FnOk P w K mg base (L2.CX P w) 3 f fd ["run", "core", "variables"] (spA CP F C En P1 (fun t => word t = "fn") goP) := by
  refine Fn.okX scBf (fun vs H Q E h => ?_) (fun cdv A outer s H vs Q E hr h => ?_)
  · obtain ⟨X, p, m, n, todo, res, c, t, e, env, rfl, _⟩ := h
    rfl
  obtain ⟨X, p, m, n, todo, res, c, t, e, env, rfl, st, rt, wt, wd, re, tg, ns, q, qe⟩ := h
  obtain ⟨ls, b, rfl⟩ := word_fn wd
  have lim := partF_at ns
  unfold goP at ns q qe
  unfold partF at ns q
  rw [if_neg lim] at ns q
  dsimp only at ns q
  have nd := scBf.nd
  have rt0 := rt
  cases rt with
  | @fn a l x _ _ ha hl rb =>
  obtain ⟨rs, s1, s2⟩ := st.s
  obtain ⟨kvs, h1, h2, h3, h4⟩ := re
  refine ⟨_, (pss_one (ps_expr (pe_bm PySem.F.plainAttrs_list PySem.F.slot_list_append PySem.F.type_list_append mt_append (pe_fld (pv 0) rfl) (pa_cons (pe_make (E := fun _ _ _ => False) MF.m MF.ok hr rfl MF.g MF.b .nil pass0 (pa_cons (pe_callB call_len_seq (by rfl) B.len PySem.boot_len (pa_cons (pe_ix (r := rIxT K) ix_tup (pv 1) pe_int (fun _ _ => rfl)) pa_nil)) (pa_cons (pv 1) (pa_cons (pv 2) pa_nil)))) pa_nil)))), ?_⟩
  refine ⟨_, rfl, p.R, CP, p.dx, _, _, rfl, st.r, U.c, U.n _ (by simp), rfl, .inl ⟨rfl, _, SqL.of s1⟩, ?_⟩
  refine ⟨_, rfl, a, _, 1, _, rfl, rfl, SqT.of ha, at1 _ _ _, l, _, rfl, .inr (SqT.of hl), _, rfl, _, rfl, fun o dx ho hd ne => ⟨o, dx, _, rfl, rfl, upd_same, rfl, ?_⟩⟩
  rw [upd_upd]
  have f3 : Fr No H (upd (upd H dx (.own o)) o (.ins C.fu dx [("parameters", .int (ls.map V.int).length), ("body", .ref a), ("kept", .ref e)])) := mk_fr ho hd ne
  have st3 := st.fr f3
  have s3 := f3.keep (fun z => z) rfl s1
  have lr : rs.length < sizeLine := by rw [s2.len, List.length_reverse]; exact many_line fun z => lim (.inr z)
  refine ⟨p.S, _, _, rfl, rfl, s3, lr, ?_⟩
  have ll : ((ls.map V.int).length : Int) = (ls.length : Int) := by rw [List.length_map]
  have g := st3.pushV s3 (s2.fr f3.no) (.fnP (ns := ls) (b := b) (env := env) (by rw [← ll]; exact upd_same) (fun z => st.dom o z ho) (rt0.keep f3.tup) wt (f3.keep (fun z => z) rfl h1) h2 (h3.fr f3.no))
  exact q _ _ _ rfl _ (f3.no.trans g.2) g.1
end
end My
namespace My
open PySem PySem.Spec PyProof.Rows L2 TL HT
/-! ### t[::-1], t a tuple -/
theorem fm_congr {α β : Type} {f g : α → Option β} : ∀ {l : List α}, (∀ k ∈ l, f k = g k) → l.filterMap f = l.filterMap g
  | [], _ => rfl
  | x :: r, h => by
    rw [List.filterMap_cons, List.filterMap_cons, h x List.mem_cons_self, fm_congr fun k m => h k (List.mem_cons_of_mem _ m)]
theorem adj_rev (n : Nat) : Builtin.Slice.sliceAdjust none none (-1) (n : Int) = ((n : Int) - 1, -1) := by
  unfold Builtin.Slice.sliceAdjust
  have h1 : (-1 : Int) < 0 := by omega
  simp only [h1, if_true]
theorem plc_rev (n : Nat) : Builtin.Slice.slicePlaces ((n : Int) - 1) (-1) (-1) = n := by
  unfold Builtin.Slice.slicePlaces
  have h1 : ¬ ((-1 : Int) > 0) := by omega
  simp only [h1, if_false, Int.neg_neg, Int.ediv_one]
  split <;> omega
theorem pick_rev (xs : List Value) : (List.range xs.length).filterMap (fun (k : Nat) => xs.toArray[(((xs.length : Int) - 1) + (k : Int) * (-1)).toNat]?) = xs.reverse := by
  have e : (List.range xs.length).filterMap (fun (k : Nat) => xs.toArray[(((xs.length : Int) - 1) + (k : Int) * (-1)).toNat]?) = (List.range xs.length).filterMap (fun k => xs.reverse[k]?) := by
    refine fm_congr fun k hk => ?_
    have hk := List.mem_range.mp hk
    rw [List.getElem?_reverse hk]
    rw [show (((xs.length : Int) - 1) + (k : Int) * (-1)).toNat = xs.length - 1 - k by omega]
    simp
  rw [e]
  have e2 : ∀ ys : List Value, (List.range ys.length).filterMap (fun k => ys[k]?) = ys := by
    intro ys
    induction ys with
    | nil => rfl
    | cons y r ih =>
      rw [List.length_cons, List.range_succ_eq_map, List.filterMap_cons]
      simp only [List.getElem?_cons_zero]
      rw [List.filterMap_map]
      congr 1
  have := e2 xs.reverse
  rw [List.length_reverse] at this
  exact this
section
variable {prog : Program} {w : World} {A : Around} {E : Value → Shared → Prop} {s : Shared}
theorem getItem_tuple_rev {t sl : Addr} {items : List Value} {vl vu : Value} {k : Tok} {Q : Value → Shared → Prop} (ht : IsTup s.heap t items.toArray) (hs : s.heap.IsSliceOf sl vl vu (.int (-1) k)) (pl : IsPart vl none) (pu : IsPart vu none)
    (h : Q (.ref s.heap.objs.size) { s with heap := s.heap.push { cls := .type "tuple", data := .seq items.reverse.toArray } })
    (hsz : items.length ≤ sizeLine) : wpAny (model prog w) A (getItem (.ref t) (.ref sl)) Q E s := by
  have htake : sizeOk (.seq items.reverse.toArray) := by
    show items.reverse.toArray.size ≤ sizeLine
    rw [List.size_toArray, List.length_reverse]
    exact hsz
  obtain ⟨os, hos, hcs, hds⟩ := id hs
  have hTs : s.TypeIs (.ref sl) "slice" := ⟨os, hos, hcs⟩
  unfold getItem
  try with_reducible refine wpAny_holding ?_
  first | refine wpAny_bind (wpAny_pure ?_) | skip
  refine wpAny_bind (wpAny_sequenceKey ht.typeIs (by decide) ?_)
  refine wpAny_bind (wpAny_callSpecial?_slot (name := Str.ofString "__getitem__") ht.typeIs PyProof.Rows.slot_tuple_getitem
    (wpAny_call_entry PyProof.Rows.slot_tuple_getitem ht.typeIs entry_tuple_getitem ?_ (args_tuple_getitem _ _)))
  show wpAny _ _ (Builtin.Tuple.tupleItemsOf (.ref t) >>= _) _ _ s
  refine wpAny_bind (tupleItemsOf_ ht ?_)
  refine wpAny_bind (wpAny_typeOf hTs ?_)
  rw [if_pos (by decide)]
  refine wpAny_bind ?_
  unfold Builtin.Slice.sliceApplied Builtin.Slice.sliceFields
  refine wpAny_bind (wpAny_bind (wpAny_field hos hds (x := vl) rfl (wpAny_bind (wpAny_field hos hds (x := vu) rfl (wpAny_bind (wpAny_field hos hds (x := .int (-1) k) rfl (wpAny_pure ?_)))))))
  refine wpAny_bind (slicePart_int ?_)
  show wpAny _ _ (if ((-1 : Int) == 0) = true then _ else _) _ _ s
  rw [if_neg (by decide)]
  refine wpAny_bind (slicePart_ pl (wpAny_bind (slicePart_ pu (wpAny_bind (wpAny_pure ?_)))))
  show wpAny _ _ (match Builtin.Slice.sliceAdjust none none (-1) (items.toArray.size : Int) with | (lo, hi) => pure (lo, (-1 : Int), Builtin.Slice.slicePlaces lo hi (-1))) _ _ s
  rw [adj_rev, List.size_toArray]
  show wpAny _ _ (pure ((items.length : Int) - 1, (-1 : Int), Builtin.Slice.slicePlaces ((items.length : Int) - 1) (-1) (-1))) _ _ s
  rw [plc_rev]
  refine wpAny_pure ?_
  have hno : ¬ ((((items.length : Int) - 1) == 0 && (-1 : Int) == 1 && items.length == items.length) = true) := by
    rw [show ((-1 : Int) == 1) = false from rfl, Bool.and_false, Bool.false_and]
    exact Bool.false_ne_true
  show wpAny _ _ (if (((items.length : Int) - 1) == 0 && (-1 : Int) == 1 && items.length == items.length) = true then _ else _) _ _ s
  rw [if_neg hno, pick_rev]
  first
    | exact wpAny_bind (m := Builtin.Tuple.tupleExact _) (wpAny_newObj_type (wpAny_pure ⟨_, rfl, wpAny_pure h⟩) htake)
    | exact wpAny_bind (m := Builtin.Tuple.tupleExact _) (wpAny_newObj_type (wpAny_bind (wpAny_pure (wpAny_pure ⟨_, rfl, wpAny_pure h⟩))) htake)
end
section
variable {X : Cx}
def tRevT (K : PySem.W.Frag) (te : TE) : TE := fun σ H Q => te σ H fun x H1 => ∃ a xs, x = .ref a ∧ SqT K H1 a xs ∧ ∀ p, H1 p = none → Q (.ref p) (upd H1 p (.tup xs.reverse))
theorem pe_revT {e : Expr} {te : TE} {k : Nat} {p1 p2 p3 pos : Pos} (he : PE X e te) : PE X (.Subscript e (.Slice none none (some (.UnaryOp .USub (.Constant (.int 1) k p1) p2)) p3) pos) (tRevT X.K te) := by
  refine ⟨fun pins s σ H Q I h => ?_⟩
  refine Subscript_ (thn (he.run pins s σ H _ I h) fun v s1 ⟨x, H1, I1, r1, q1⟩ => ?_)
  obtain ⟨a, xs, ex, hx, q⟩ := q1
  subst ex
  cases r1
  have hst : PO X (some (.UnaryOp .USub (.Constant (.int 1) k p1) p2)) (tPart (tUn (rU fun i => .int (-i)) (tC (.int 1)))) := po_some (pe_un un_neg pe_int)
  refine wpAny_Slice (thn (po_none.run pins s1 σ H1 (fun o H2 => o = none ∧ H2 = H1) I1 ⟨rfl, rfl⟩) fun vl s2 ⟨l, H2, I2, pl, el, e2⟩ => ?_)
  subst el e2
  refine thn (po_none.run pins s2 σ H2 (fun o H3 => o = none ∧ H3 = H2) I2 ⟨rfl, rfl⟩) fun vu s3 ⟨u, H3, I3, pu, eu, e3⟩ => ?_
  subst eu e3
  refine thn (hst.run pins s3 σ H3 (fun o H4 => o = some (-1) ∧ H4 = H3) I3 ⟨1, rfl, -1, rfl, rfl, rfl⟩) fun vs s4 ⟨o, H4, I4, ps, eo, e4⟩ => ?_
  subst eo e4
  obtain ⟨kk, rfl⟩ : ∃ kk, vs = .int (-1) kk := by
    cases ps with
    | int i t => exact ⟨t, rfl⟩
  have I5 : Inv X pins σ H4 { s4 with heap := s4.heap.push { cls := .type "slice", data := .fields #[vl, vu, .int (-1) kk] } } := I4.kept (t' := s4.toks) fun b ob q => Heap.get?_push_of_some _ q
  obtain ⟨its, r, ht, hz⟩ := I5.tuple hx
  have hlen := r.length
  show wpAny (model X.prog X.w) X.A (subscriptTail e (.Slice none none (some (.UnaryOp .USub (.Constant (.int 1) k p1) p2)) p3) (.ref a) (.ref s4.heap.objs.size)) (EP X pins σ Q) X.xe { s4 with heap := s4.heap.push { cls := .type "slice", data := .fields #[vl, vu, .int (-1) kk] } }
  refine tail_any (ops := [.ref a, .ref s4.heap.objs.size]) ht.typeIs (PyProof.Rows.slot_tuple_getitem.lookup) ?_ (by with_unfolding_all rfl)
  refine getItem_tuple_rev ht (Heap.IsSliceOf.new _ vl vu _) pl pu ?_ (by rw [← hlen]; exact hz)
  refine ⟨.ref _, _, I5.laid (t' := s4.toks) (o := .tup xs.reverse) (fun b ob q => Heap.get?_push_of_some _ q) (Nat.le_refl _) ?_, rfl, q _ (I5.hok.fresh (Nat.le_refl _))⟩
  exact ⟨by rw [List.length_reverse]; exact hz, _, r.reverse, IsTup.new _ _⟩
end
end My
namespace My
open PySem PySem.Spec PyProof.Rows L2 TL
/-- begin with each of these parts, as tuples that were just laid -/
def BgT (F : Acts) (e : Addr) (Hb H' : Hp) (v : V) (t : Tr) : Prop := ∃ (a : Addr) (c : V), v = .ref a ∧ H' a = some (.tup [.ref F.bg, c, .ref e]) ∧ RT Hb c t
theorem BgT.keep {F : Acts} {e : Addr} {Hb H1 H2 : Hp} {v : V} {t : Tr} (k : KpT H1 H2) (h : BgT F e Hb H1 v t) : BgT F e Hb H2 v t := by
  obtain ⟨a, c, h1, h2, h3⟩ := h
  exact ⟨a, c, h1, k _ _ h2, h3⟩
theorem bgs_done {F : Acts} {C : Cs} {X : Addr → Prop} {e : Addr} {Hb H' : Hp} {env : List (Int × Vl)} (f : Fr X Hb H') (re : REn C X Hb e env) : ∀ {us : List V} {ts : List Tr}, Als (BgT F e Hb H') us ts → (∀ t ∈ ts, widT t) → Als (RTk F C X H') us (bgs ts env)
  | _, _, .nil, _ => .nil
  | _, _, .cons (x := t) ⟨a, c, h1, h2, h3⟩ rs, w => .cons ⟨a, c, e, h1, h2, h3.keep f.tup, w t List.mem_cons_self, re.fr f⟩ (bgs_done f re rs fun t m => w t (List.mem_cons_of_mem _ m))
theorem bgs_rev (ts : List Tr) (env : List (Int × Vl)) : bgs ts.reverse env = (bgs ts env).reverse := by
  unfold bgs
  rw [List.map_reverse]
theorem RTs.app {H : Hp} : ∀ {vs ws : List V} {ts us : List Tr}, RTs H vs ts → RTs H ws us → RTs H (vs ++ ws) (ts ++ us)
  | _, _, _, _, .nil, s => s
  | _, _, _, _, .cons r rs, s => .cons r (RTs.app rs s)
theorem RTs.rev {H : Hp} : ∀ {vs : List V} {ts : List Tr}, RTs H vs ts → RTs H vs.reverse ts.reverse
  | _, _, .nil => .nil
  | _, _, .cons r rs => by
    rw [List.reverse_cons, List.reverse_cons]
    exact (RTs.rev rs).app (.cons r .nil)
abbrev sBc : Stmt := top 32
abbrev sBt : Stmt := top 28
abbrev sBif : Stmt := top 30
structure ActG (mg : Str → Option Value) (F : Acts) : Prop where
  bg : mg "begin" = some (.ref F.bg)
  el : mg "end_let" = some (.ref F.el)
  ei : mg "end_if" = some (.ref F.ei)
  ec : mg "end_call" = some (.ref F.ec)
section
variable {P : Program} {w : World} {K : PySem.W.Frag} {mg : Str → Option Value} {base : Heap} {CP En P1 : Addr} {F : Acts} {C : Cs}
/-- a task is pushed -/
theorem PRn.pushT {X : Addr → Prop} {H : Hp} {p : Pn} {m : Wd} {n : Nat} {todo : List Tk} {res : List Vl} {ts : List V} {t0 e : Addr} {c : V} {act : Act} {t : Tr} {env : List (Int × Vl)} (h : PRn CP F C X H p m n todo res) (hT : H p.T = some (.lst ts)) (al : Als (RTk F C X H) ts todo.reverse)
    (ht : H t0 = none) (rt : RT H c t) (wt : widT t) (re : REn C X H e env) :
    (upd H t0 (.tup [.ref (F.at act), c, .ref e])) p.T = some (.lst ts) ∧ PRn CP F C X (upd (upd H t0 (.tup [.ref (F.at act), c, .ref e])) p.T (.lst (ts ++ [.ref t0]))) p m n (⟨act, t, env⟩ :: todo) res ∧
      Fr X H (upd (upd H t0 (.tup [.ref (F.at act), c, .ref e])) p.T (.lst (ts ++ [.ref t0]))) := by
  have f : Fr No H (upd H t0 (.tup [.ref (F.at act), c, .ref e])) := Fr.new ht
  have h1 := h.fr f
  have g := h1.setT (ts := ts ++ [.ref t0]) (todo' := ⟨act, t, env⟩ :: todo) (by
    rw [List.reverse_cons]
    exact (al.mono fun _ _ r => r.fr f.no).app (.one ⟨t0, c, e, rfl, upd_same, rt.keep f.tup, wt, re.fr f.no⟩))
  exact ⟨f.keep (fun z => z) rfl hT, g.1, f.no.trans g.2⟩
theorem scBc : FnScope ["run", "core", "variables", "part"] ["run", "core", "variables"] (defScope sBc) := ⟨rfl, rfl, rfl, by decide +kernel, rfl, by decide +kernel, by decide +kernel⟩
theorem ok_bc {f : Addr} {fd : FuncData} (Fn : Fun K "begin_call" "begin_call" sBc f fd) (U : FldC K CP fR5) (G : ActG mg F) : FnOk P w K mg base (L2.CX P w) 1 f fd ["run", "core", "variables"] (spA CP F C En P1 (fun t => word t = "call") goP) := by
  refine Fn.okX scBc (fun vs H Q E h => ?_) (fun cdv A outer s H vs Q E hr h => ?_)
  · obtain ⟨X, p, m, n, todo, res, c, t, e, env, rfl, _⟩ := h
    rfl
  obtain ⟨X, p, m, n, todo, res, c, t, e, env, rfl, st, rt, wt, wd, re, tg, ns, q, qe⟩ := h
  obtain ⟨tf, ts, rfl⟩ := word_call wd
  have lim := partF_at ns
  unfold goP at ns q qe
  unfold partF at ns q
  rw [if_neg lim] at ns q
  dsimp only at ns q
  have nd := scBc.nd
  have rt0 := rt
  have wt0 := wt
  unfold widT at wt
  cases rt with
  | @call a l x vs _ _ ha hl rf rs =>
  refine ⟨_, (pss_cons (ps_expr (pe_bm PySem.F.plainAttrs_list PySem.F.slot_list_append PySem.F.type_list_append mt_append (pe_fld (pv 0) rfl) (pa_cons (pe_tup (pa_cons (pe_glob (v := .ref F.ec) rfl G.ec rfl) (pa_cons (pv 1) (pa_cons (pv 2) pa_nil)))) pa_nil)))
    (pss_cons (ps_expr (pe_bm PySem.F.plainAttrs_list PySem.F.slot_list_extend PySem.F.type_list_extend mt_extend (pe_fld (pv 0) rfl) (pa_cons (pe_lc (own := [("part", 3)]) (g := gName 3) (tt := tYes) rfl nd (pi_tup (pe_revT (pe_ix (r := rIxT K) ix_tup (pv 1) pe_int (fun _ _ => rfl)))) (blkOk_by (N := ["run", "core", "variables", "part"]) (sc := defScope sBc) (by decide +kernel)) (fun _ _ _ _ _ => (pg_name (i := 3) nd rfl (Or.inl rfl) (hf := Or.inr rfl))) (fun _ _ _ _ _ => pts_nil) (fun _ _ _ _ _ => (pe_tup (pa_cons (pe_glob (v := .ref F.bg) rfl G.bg rfl) (pa_cons (pv 3) (pa_cons (pv 2) pa_nil)))))) pa_nil)))
    (pss_one (ps_expr (pe_bm PySem.F.plainAttrs_list PySem.F.slot_list_append PySem.F.type_list_append mt_append (pe_fld (pv 0) rfl) (pa_cons (pe_tup (pa_cons (pe_glob (v := .ref F.bg) rfl G.bg rfl) (pa_cons (pe_ix (r := rIxT K) ix_tup (pv 1) pe_int (fun _ _ => rfl)) (pa_cons (pv 2) pa_nil)))) pa_nil)))))), ?_⟩
  obtain ⟨us, t1, t2⟩ := st.t
  have lu : us.length < 1000000 := by
    rw [t2.len, List.length_reverse]
    exact Nat.lt_of_not_le fun z => lim (.inl z)
  refine ⟨_, rfl, p.R, CP, p.dx, _, _, rfl, st.r, U.c, U.n _ (by simp), rfl, .inl ⟨rfl, _, SqL.of t1⟩, ?_⟩
  refine ⟨_, rfl, _, rfl, by show 3 ≤ sizeLine; decide, fun t0 ht0 => ?_⟩
  obtain ⟨g1, st1, f1⟩ := st.pushT (act := .endCall) (t0 := t0) t1 t2 ht0 rt0 wt0 re
  refine ⟨p.T, _, _, rfl, rfl, g1, Nat.lt_of_lt_of_le lu (by decide), ?_⟩
  have u1 : (upd (upd H t0 (.tup [.ref F.ec, .ref a, .ref e])) p.T (.lst (us ++ [.ref t0]))) p.T = some (.lst (us ++ [.ref t0])) := upd_same
  have st1 : PRn CP F C X (upd (upd H t0 (.tup [.ref F.ec, .ref a, .ref e])) p.T (.lst (us ++ [.ref t0]))) p m n (⟨.endCall, .call tf ts, env⟩ :: todo) res := st1
  have f1 : Fr X H (upd (upd H t0 (.tup [.ref F.ec, .ref a, .ref e])) p.T (.lst (us ++ [.ref t0]))) := f1
  refine ⟨_, rfl, p.R, CP, p.dx, _, _, rfl, st1.r, U.c, U.n _ (by simp), rfl, .inl ⟨rfl, _, SqL.of u1⟩, ?_⟩
  have rt1 := rt0.keep f1.tup
  have re1 := re.fr f1
  have ha1 := f1.tup _ _ ha
  have hl1 := f1.tup _ _ hl
  have rs1 := rs.keep f1.tup
  have rf1 := rf.keep f1.tup
  generalize hus : us ++ [V.ref t0] = us1 at u1 st1 f1 rt1 re1 ha1 hl1 rs1 rf1 ⊢
  have lu1 : us1.length ≤ 1000000 := by rw [← hus, List.length_append]; show us.length + 1 ≤ _; omega
  generalize upd (upd H t0 (.tup [.ref F.ec, .ref a, .ref e])) p.T (.lst us1) = H1 at u1 st1 f1 rt1 re1 ha1 hl1 rs1 rf1 ⊢
  refine ⟨_, rfl, a, _, 2, _, rfl, rfl, SqT.of ha1, atI_nat (j := 2) rfl, l, vs, rfl, SqT.of hl1, fun pr hpr => ?_⟩
  have f2 : Fr No H1 (upd H1 pr (.tup vs.reverse)) := Fr.new hpr
  have hpr1 : upd H1 pr (.tup vs.reverse) pr = some (.tup vs.reverse) := upd_same
  generalize upd H1 pr (.tup vs.reverse) = H2 at f2 hpr1 ⊢
  refine ⟨pr, rfl, ⟨_, SqT.of hpr1⟩, fun D hD => ?_⟩
  have hD1 : H1 D = none := f2.dom hD
  have rsr := rs1.rev
  have lts : vs.length = ts.length := rs1.len
  refine lc_tup (xs := vs.reverse) (fun i H' => ∃ ws, H' D = some (.lst ws) ∧ ws.length = i ∧ H' pr = some (.tup vs.reverse) ∧ Als (BgT F e H1 H') ws (ts.reverse.take i) ∧ Fr No H1 H') ⟨[], upd_same, rfl, (Fr.new (X := No) hD).tup _ _ hpr1, by rw [List.take_zero]; exact .nil, f2.trans (Fr.new hD)⟩ (fun i H' _ ⟨_, _, _, h, _⟩ => SqT.of h) ?_ ?_
  · rintro i x1 H' hi ⟨ws, h1, h2, h3, h4, h5⟩
    obtain ⟨t1', e1, r1⟩ := rsr.get hi
    have il : i < ts.reverse.length := (List.getElem?_eq_some_iff.mp e1).1
    rw [List.length_reverse] at il
    refine ⟨rfl, _, rfl, _, rfl, by show 3 ≤ sizeLine; decide, fun q1 hq1 => ?_⟩
    have nqD : D ≠ q1 := fun z => by rw [z, hq1] at h1; cases h1
    have e2 : upd H' q1 (.tup [.ref F.bg, x1, .ref e]) D = some (.lst ws) := by rw [upd_ne nqD]; exact h1
    have fN : Fr No H1 (upd (upd H' q1 (.tup [.ref F.bg, x1, .ref e])) D (.lst (ws ++ [.ref q1]))) := (h5.trans (Fr.new hq1)).mut hD1 e2 rfl
    have kN : Fr (fun b => b = D) (upd H' q1 (.tup [.ref F.bg, x1, .ref e])) (upd (upd H' q1 (.tup [.ref F.bg, x1, .ref e])) D (.lst (ws ++ [.ref q1]))) := Fr.set rfl e2 rfl
    have kT : KpT H' (upd (upd H' q1 (.tup [.ref F.bg, x1, .ref e])) D (.lst (ws ++ [.ref q1]))) := (Fr.new (X := No) hq1).tup.trans kN.tup
    refine ⟨ws, e2, by rw [h2]; exact line_of (by omega), ws ++ [.ref q1], upd_same, by simp [h2], kT _ _ h3, ?_, fN⟩
    rw [take_more e1]
    exact (h4.mono fun _ _ b => b.keep kT).app (.one ⟨q1, x1, rfl, kN.tup _ _ upd_same, r1⟩)
  rintro H' ⟨ws, h1, h2, h3, h4, h5⟩
  rw [List.length_reverse, lts, ← List.length_reverse, List.take_length] at h4
  have st2 := st1.fr h5
  have hT2 := h5.keep (fun z => z) rfl u1
  have al2 : Als (RTk F C X H') us1 (⟨.endCall, .call tf ts, env⟩ :: todo : List Tk).reverse := by
    obtain ⟨ts', e1, e2⟩ := st2.t
    rw [hT2] at e1
    cases e1
    exact e2
  have wts : ∀ t ∈ ts.reverse, widT t := fun t m => widTs_mem wt.2.2 t (List.mem_reverse.mp m)
  have bd := bgs_done (C := C) (X := X) (env := env) h5.no re1 h4 wts
  have g2 := st2.setT (ts := us1 ++ ws) (todo' := bgs ts env ++ ⟨.endCall, .call tf ts, env⟩ :: todo) (by
    rw [List.reverse_append, ← bgs_rev]
    exact al2.app bd)
  have lws : ws.length ≤ 900 := by rw [h2, List.length_reverse, lts]; exact wt.1
  refine ⟨p.T, D, _, _, rfl, rfl, hT2, h1, Nat.le_trans (show us1.length + ws.length ≤ 1000900 by omega) (by decide), ?_⟩
  have u3 : upd H' p.T (.lst (us1 ++ ws)) p.T = some (.lst (us1 ++ ws)) := upd_same
  obtain ⟨st3, f3⟩ := g2
  have f13 : Fr X H1 (upd H' p.T (.lst (us1 ++ ws))) := h5.no.trans f3
  have al3 : Als (RTk F C X (upd H' p.T (.lst (us1 ++ ws)))) (us1 ++ ws) (bgs ts env ++ ⟨.endCall, .call tf ts, env⟩ :: todo : List Tk).reverse := by
    obtain ⟨ts', e1, e2⟩ := st3.t
    rw [u3] at e1
    cases e1
    exact e2
  have l3 : (us1 ++ ws).length ≤ 1000900 := by rw [List.length_append]; omega
  generalize us1 ++ ws = us3 at u3 st3 f13 al3 l3 ⊢
  generalize upd H' p.T (.lst us3) = H3 at u3 st3 f13 al3 ⊢
  refine ⟨_, rfl, p.R, CP, p.dx, _, _, rfl, st3.r, U.c, U.n _ (by simp), rfl, .inl ⟨rfl, _, SqL.of u3⟩, ?_⟩
  refine ⟨_, rfl, a, _, 1, _, rfl, rfl, SqT.of (f13.tup _ _ ha1), at1 _ _ _, _, rfl, by show 3 ≤ sizeLine; decide, fun t4 ht4 => ?_⟩
  obtain ⟨g4, st4, f4⟩ := st3.pushT (act := .begin) (t0 := t4) u3 al3 ht4 (rf1.keep f13.tup) wt.2.1 (re1.fr f13)
  refine ⟨p.T, _, _, rfl, rfl, g4, Nat.lt_of_le_of_lt l3 (by decide), ?_⟩
  exact q _ _ _ rfl _ (f1.trans (f13.trans f4)) st4
end
end My
namespace My
open PySem PySem.Spec PyProof.Rows L2 TL
/-- a pair (number, part) -/
def NuP (H : Hp) (v : V) (t : Tr) : Prop := ∃ (q : Addr) (x : V) (n : Int), v = .ref q ∧ H q = some (.tup [.int n, x]) ∧ RT H x t
theorem RTp.nu {H : Hp} : ∀ {vs : List V} {ns : List Int} {ts : List Tr}, RTp H vs ns ts → Als (NuP H) vs ts
  | _, _, _, .nil => .nil
  | _, _, _, .cons h r rs => .cons ⟨_, _, _, rfl, h, r⟩ (RTp.nu rs)
section
variable {α : Type} {R : V → α → Prop}
theorem Als.rev : ∀ {vs : List V} {xs : List α}, Als R vs xs → Als R vs.reverse xs.reverse
  | _, _, .nil => .nil
  | _, _, .cons r rs => by
    rw [List.reverse_cons, List.reverse_cons]
    exact (Als.rev rs).app (.one r)
theorem Als.get : ∀ {vs : List V} {xs : List α} {i : Nat} {v : V}, Als R vs xs → vs[i]? = some v → ∃ x, xs[i]? = some x ∧ R v x
  | _, _, _, _, .nil, e => by simp at e
  | _, _, 0, _, .cons r _, e => by cases e; exact ⟨_, rfl, r⟩
  | _, _, i + 1, _, .cons _ rs, e => by
    obtain ⟨t, h1, h2⟩ := Als.get (i := i) rs (by simpa using e)
    exact ⟨t, by simpa using h1, h2⟩
end
section
variable {P : Program} {w : World} {K : PySem.W.Frag} {mg : Str → Option Value} {base : Heap} {CP En P1 : Addr} {F : Acts} {C : Cs}
theorem scBt : FnScope ["run", "core", "variables", "number", "part"] ["run", "core", "variables"] (defScope sBt) := ⟨rfl, rfl, rfl, by decide +kernel, rfl, by decide +kernel, by decide +kernel⟩
theorem ok_bt {f : Addr} {fd : FuncData} (Fn : Fun K "begin_let" "begin_let" sBt f fd) (U : FldC K CP fR5) (G : ActG mg F) : FnOk P w K mg base (L2.CX P w) 1 f fd ["run", "core", "variables"] (spA CP F C En P1 (fun t => word t = "let") goP) := by
  refine Fn.okX scBt (fun vs H Q E h => ?_) (fun cdv A outer s H vs Q E hr h => ?_)
  · obtain ⟨X, p, m, n, todo, res, c, t, e, env, rfl, _⟩ := h
    rfl
  obtain ⟨X, p, m, n, todo, res, c, t, e, env, rfl, st, rt, wt, wd, re, tg, ns, q, qe⟩ := h
  obtain ⟨ls, ts, tb, rfl⟩ := word_let wd
  have lim := partF_at ns
  unfold goP at ns q qe
  unfold partF at ns q
  rw [if_neg lim] at ns q
  dsimp only at ns q
  have nd := scBt.nd
  have rt0 := rt
  have wt0 := wt
  unfold widT at wt
  cases rt with
  | @let_ a l x vs _ _ _ ha hl rs rb =>
  refine ⟨_, (pss_cons (ps_expr (pe_bm PySem.F.plainAttrs_list PySem.F.slot_list_append PySem.F.type_list_append mt_append (pe_fld (pv 0) rfl) (pa_cons (pe_tup (pa_cons (pe_glob (v := .ref F.el) rfl G.el rfl) (pa_cons (pv 1) (pa_cons (pv 2) pa_nil)))) pa_nil)))
    (pss_one (ps_expr (pe_bm PySem.F.plainAttrs_list PySem.F.slot_list_extend PySem.F.type_list_extend mt_extend (pe_fld (pv 0) rfl) (pa_cons (pe_lc (own := [("number", 3), ("part", 4)]) (g := gTup K 2 (gCons (gName 3) (gCons (gName 4) gNil))) (tt := tYes) rfl nd (pi_tup (pe_revT (pe_ix (r := rIxT K) ix_tup (pv 1) pe_int (fun _ _ => rfl)))) (blkOk_by (N := ["run", "core", "variables", "number", "part"]) (sc := defScope sBt) (by decide +kernel)) (fun _ _ _ _ _ => (pg_tup rfl (pgs_cons (pg_name (i := 3) nd rfl (Or.inl rfl) (hf := Or.inr rfl)) (pgs_cons (pg_name (i := 4) nd rfl (Or.inl rfl) (hf := Or.inr rfl)) pgs_nil)))) (fun _ _ _ _ _ => pts_nil) (fun _ _ _ _ _ => (pe_tup (pa_cons (pe_glob (v := .ref F.bg) rfl G.bg rfl) (pa_cons (pv 4) (pa_cons (pv 2) pa_nil)))))) pa_nil))))), ?_⟩
  obtain ⟨us, t1, t2⟩ := st.t
  have lu : us.length < 1000000 := by
    rw [t2.len, List.length_reverse]
    exact Nat.lt_of_not_le fun z => lim (.inl z)
  refine ⟨_, rfl, p.R, CP, p.dx, _, _, rfl, st.r, U.c, U.n _ (by simp), rfl, .inl ⟨rfl, _, SqL.of t1⟩, ?_⟩
  refine ⟨_, rfl, _, rfl, by show 3 ≤ sizeLine; decide, fun t0 ht0 => ?_⟩
  obtain ⟨g1, st1, f1⟩ := st.pushT (act := .endLet) (t0 := t0) t1 t2 ht0 rt0 wt0 re
  refine ⟨p.T, _, _, rfl, rfl, g1, Nat.lt_of_lt_of_le lu (by decide), ?_⟩
  have u1 : (upd (upd H t0 (.tup [.ref F.el, .ref a, .ref e])) p.T (.lst (us ++ [.ref t0]))) p.T = some (.lst (us ++ [.ref t0])) := upd_same
  have st1 : PRn CP F C X (upd (upd H t0 (.tup [.ref F.el, .ref a, .ref e])) p.T (.lst (us ++ [.ref t0]))) p m n (⟨.endLet, .let_ ls ts tb, env⟩ :: todo) res := st1
  have f1 : Fr X H (upd (upd H t0 (.tup [.ref F.el, .ref a, .ref e])) p.T (.lst (us ++ [.ref t0]))) := f1
  refine ⟨_, rfl, p.R, CP, p.dx, _, _, rfl, st1.r, U.c, U.n _ (by simp), rfl, .inl ⟨rfl, _, SqL.of u1⟩, ?_⟩
  have rt1 := rt0.keep f1.tup
  have re1 := re.fr f1
  have ha1 := f1.tup _ _ ha
  have hl1 := f1.tup _ _ hl
  have rs1 := (rs.keep f1.tup).nu
  generalize hus : us ++ [V.ref t0] = us1 at u1 st1 f1 rt1 re1 ha1 hl1 rs1 ⊢
  have lu1 : us1.length ≤ 1000000 := by rw [← hus, List.length_append]; show us.length + 1 ≤ _; omega
  generalize upd (upd H t0 (.tup [.ref F.el, .ref a, .ref e])) p.T (.lst us1) = H1 at u1 st1 f1 rt1 re1 ha1 hl1 rs1 ⊢
  refine ⟨_, rfl, a, _, 1, _, rfl, rfl, SqT.of ha1, at1 _ _ _, l, vs, rfl, SqT.of hl1, fun pr hpr => ?_⟩
  have f2 : Fr No H1 (upd H1 pr (.tup vs.reverse)) := Fr.new hpr
  have hpr1 : upd H1 pr (.tup vs.reverse) pr = some (.tup vs.reverse) := upd_same
  generalize upd H1 pr (.tup vs.reverse) = H2 at f2 hpr1 ⊢
  refine ⟨pr, rfl, ⟨_, SqT.of hpr1⟩, fun D hD => ?_⟩
  have hD1 : H1 D = none := f2.dom hD
  have rsr := rs1.rev
  have lts : vs.length = ts.length := rs1.len
  have lnt : ts.length ≤ 1000 := by rw [(rs.len).2]; exact wt.1
  refine lc_tup (xs := vs.reverse) (fun i H' => ∃ ws, H' D = some (.lst ws) ∧ ws.length = i ∧ H' pr = some (.tup vs.reverse) ∧ Als (BgT F e H1 H') ws (ts.reverse.take i) ∧ Fr No H1 H') ⟨[], upd_same, rfl, (Fr.new (X := No) hD).tup _ _ hpr1, by rw [List.take_zero]; exact .nil, f2.trans (Fr.new hD)⟩ (fun i H' _ ⟨_, _, _, h, _⟩ => SqT.of h) ?_ ?_
  · rintro i y1 H' hi ⟨ws, h1, h2, h3, h4, h5⟩
    obtain ⟨t1', e1, q0, x1, n0, rfl, hq0, r1⟩ := rsr.get hi
    have il : i < ts.reverse.length := (List.getElem?_eq_some_iff.mp e1).1
    rw [List.length_reverse] at il
    refine ⟨q0, _, rfl, SqT.of (h5.tup _ _ hq0), rfl, _, _, rfl, ?_⟩
    refine ⟨_, _, rfl, rfl, rfl, ?_⟩
    refine ⟨_, rfl, _, rfl, by show 3 ≤ sizeLine; decide, fun q1 hq1 => ?_⟩
    have nqD : D ≠ q1 := fun z => by rw [z, hq1] at h1; cases h1
    have e2 : upd H' q1 (.tup [.ref F.bg, x1, .ref e]) D = some (.lst ws) := by rw [upd_ne nqD]; exact h1
    have fN : Fr No H1 (upd (upd H' q1 (.tup [.ref F.bg, x1, .ref e])) D (.lst (ws ++ [.ref q1]))) := (h5.trans (Fr.new hq1)).mut hD1 e2 rfl
    have kN : Fr (fun b => b = D) (upd H' q1 (.tup [.ref F.bg, x1, .ref e])) (upd (upd H' q1 (.tup [.ref F.bg, x1, .ref e])) D (.lst (ws ++ [.ref q1]))) := Fr.set rfl e2 rfl
    have kT : KpT H' (upd (upd H' q1 (.tup [.ref F.bg, x1, .ref e])) D (.lst (ws ++ [.ref q1]))) := (Fr.new (X := No) hq1).tup.trans kN.tup
    refine ⟨ws, e2, by rw [h2]; exact line_of (by omega), ws ++ [.ref q1], upd_same, by simp [h2], kT _ _ h3, ?_, fN⟩
    rw [take_more e1]
    exact (h4.mono fun _ _ b => b.keep kT).app (.one ⟨q1, x1, rfl, kN.tup _ _ upd_same, r1⟩)
  rintro H' ⟨ws, h1, h2, h3, h4, h5⟩
  rw [List.length_reverse, lts, ← List.length_reverse, List.take_length] at h4
  have st2 := st1.fr h5
  have hT2 := h5.keep (fun z => z) rfl u1
  have al2 : Als (RTk F C X H') us1 (⟨.endLet, .let_ ls ts tb, env⟩ :: todo : List Tk).reverse := by
    obtain ⟨ts', e1, e2⟩ := st2.t
    rw [hT2] at e1
    cases e1
    exact e2
  have wts : ∀ t ∈ ts.reverse, widT t := fun t m => widTs_mem wt.2.1 t (List.mem_reverse.mp m)
  have bd := bgs_done (C := C) (X := X) (env := env) h5.no re1 h4 wts
  have g2 := st2.setT (ts := us1 ++ ws) (todo' := bgs ts env ++ ⟨.endLet, .let_ ls ts tb, env⟩ :: todo) (by
    rw [List.reverse_append, ← bgs_rev]
    exact al2.app bd)
  have lws : ws.length ≤ 1000 := by rw [h2, List.length_reverse, lts]; exact lnt
  refine ⟨p.T, D, _, _, rfl, rfl, hT2, h1, Nat.le_trans (show us1.length + ws.length ≤ 1001000 by omega) (by decide), ?_⟩
  exact q _ _ _ rfl _ (f1.trans (h5.no.trans g2.2)) g2.1
end
end My
namespace My
open PySem PySem.Spec PyProof.Rows L2 TL
theorem rev_cut {α : Type} (xs : List α) (k : Nat) (h : k ≤ xs.length) : xs.reverse.take (xs.length - k) = (xs.drop k).reverse ∧ xs.reverse.drop (xs.length - k) = (xs.take k).reverse := by
  have e : xs.reverse = (xs.drop k).reverse ++ (xs.take k).reverse := by rw [← List.reverse_append, List.take_append_drop]
  have l : (xs.drop k).reverse.length = xs.length - k := by rw [List.length_reverse, List.length_drop]
  rw [e, ← l]
  exact ⟨List.take_left, List.drop_left⟩
abbrev sEl : Stmt := top 29
abbrev sEc : Stmt := top 33
section
variable {P : Program} {w : World} {K : PySem.W.Frag} {mg : Str → Option Value} {base : Heap} {CP En P1 : Addr} {F : Acts} {C : Cs}
/-- the last k results are taken -/
theorem PRn.takeS {X : Addr → Prop} {H : Hp} {p : Pn} {m : Wd} {n k : Nat} {todo : List Tk} {res : List Vl} {rs : List V} {q : Addr} (h : PRn CP F C X H p m n todo res) (hs : H p.S = some (.lst rs)) (r : RVs C X H rs res.reverse) (hk : k ≤ res.length) (hq : H q = none) :
    k ≤ rs.length ∧ PRn CP F C X (upd (upd H q (.lst (rs.drop (rs.length - k)))) p.S (.lst (rs.take (rs.length - k)))) p m n todo (res.drop k) ∧ Fr X H (upd (upd H q (.lst (rs.drop (rs.length - k)))) p.S (.lst (rs.take (rs.length - k)))) ∧
      (upd (upd H q (.lst (rs.drop (rs.length - k)))) p.S (.lst (rs.take (rs.length - k)))) q = some (.lst (rs.drop (rs.length - k))) ∧ RVs C X (upd (upd H q (.lst (rs.drop (rs.length - k)))) p.S (.lst (rs.take (rs.length - k)))) (rs.drop (rs.length - k)) (res.take k).reverse ∧ ¬ X q := by
  have lr : rs.length = res.length := by rw [r.len, List.length_reverse]
  obtain ⟨c1, c2⟩ := rev_cut res k hk
  have f : Fr No H (upd H q (.lst (rs.drop (rs.length - k)))) := Fr.new hq
  have h1 := h.fr f
  have r1 := r.fr f.no
  have ra := r1.take (rs.length - k)
  have rb := r1.drop (rs.length - k)
  have ra' : RVs C X (upd H q (.lst (rs.drop (rs.length - k)))) (rs.take (rs.length - k)) (res.drop k).reverse := by rw [← c1, ← lr]; exact ra
  have rb' : RVs C X (upd H q (.lst (rs.drop (rs.length - k)))) (rs.drop (rs.length - k)) (res.take k).reverse := by rw [← c2, ← lr]; exact rb
  have g := h1.setS ra'
  have nq : q ≠ p.S := fun z => by rw [z, hs] at hq; cases hq
  exact ⟨by omega, g.1, f.no.trans g.2, by rw [upd_ne nq]; exact upd_same, rb'.fr g.2, fun z => h.dom q z hq⟩
theorem scEl : FnScope ["run", "core", "variables", "results"] ["run", "core", "variables"] (defScope sEl) := ⟨rfl, rfl, rfl, by decide +kernel, rfl, by decide +kernel, by decide +kernel⟩
def goEl : Wd → Tr → List (Int × Vl) → Nat → List Tk → List Vl → PRes := fun _ t env n todo res => endLetF t env n todo res
def goEc : Wd → Tr → List (Int × Vl) → Nat → List Tk → List Vl → PRes := fun _ t _ n todo res => endCallF t n todo res
theorem ok_el {f fT fB fW : Addr} {fd dT dB dW : FuncData} (Fn : Fun K "end_let" "end_let" sEl f fd) (B : Blt mg) (U : FldC K CP fR5) (G : ActG mg F) (GT : Cal P w K mg base CX0 1 "take_last" ["stack", "many"] spTak fT dT)
    (GB : Cal P w K mg base CX0 1 "bound_numbers" ["core"] spBn fB dB) (GW : Cal P w K mg base CX0 1 "with_variables" ["variables", "numbers", "results"] (spWv C) fW dW) :
    FnOk P w K mg base (L2.CX P w) 2 f fd ["run", "core", "variables"] (spA CP F C En P1 (fun t => word t = "let") goEl) := by
  refine Fn.okX scEl (fun vs H Q E h => ?_) (fun cdv A outer s H vs Q E hr h => ?_)
  · obtain ⟨X, p, m, n, todo, res, c, t, e, env, rfl, _⟩ := h
    rfl
  obtain ⟨X, p, m, n, todo, res, c, t, e, env, rfl, st, rt, wt, wd, re, tg, ns, q, qe⟩ := h
  obtain ⟨ls, ts, tb, rfl⟩ := word_let wd
  unfold goEl at ns q qe
  unfold endLetF at ns q
  dsimp only at ns q
  have cond : ts.length ≤ res.length ∧ ls.length = ts.length ∧ env.length + ls.length ≤ 1000000 ∧ todo.length < many := by
    by_cases c : ts.length ≤ res.length ∧ ls.length = ts.length ∧ env.length + ls.length ≤ 1000000 ∧ todo.length < many
    · exact c
    · rw [if_neg c] at ns; exact absurd rfl ns
  rw [if_pos cond] at q
  obtain ⟨c1, c2, c3, c4⟩ := cond
  have nd := scEl.nd
  have rt0 := rt
  have wt0 := wt
  unfold widT at wt
  cases rt with
  | @let_ a l x vs _ _ _ ha hl rs rb =>
  have lv : vs.length = ts.length := by rw [rs.len.1, rs.len.2]
  obtain ⟨us, s1, s2⟩ := st.s
  refine ⟨_, (pss_cons (ps_set (i := 3) nd rfl (Or.inl rfl) (pe_call GT.ok hr rfl GT.g GT.k GT.b .nil pass0 (pa_cons (pe_fld (pv 0) rfl) (pa_cons (pe_callB call_len_seq (by rfl) B.len PySem.boot_len (pa_cons (pe_ix (r := rIxT K) ix_tup (pv 1) pe_int (fun _ _ => rfl)) pa_nil)) pa_nil))))
    (pss_one (ps_expr (pe_bm PySem.F.plainAttrs_list PySem.F.slot_list_append PySem.F.type_list_append mt_append (pe_fld (pv 0) rfl) (pa_cons (pe_tup (pa_cons (pe_glob (v := .ref F.bg) rfl G.bg rfl) (pa_cons (pe_ix (r := rIxT K) ix_tup (pv 1) pe_int (fun _ _ => rfl)) (pa_cons (pe_call GW.ok hr rfl GW.g GW.k GW.b .nil pass0 (pa_cons (pv 2) (pa_cons (pe_call GB.ok hr rfl GB.g GB.k GB.b .nil pass0 (pa_cons (pv 1) pa_nil)) (pa_cons (pv 3) pa_nil)))) pa_nil)))) pa_nil))))), ?_⟩
  refine ⟨_, rfl, p.R, CP, p.dx, _, _, rfl, st.r, U.c, U.n _ (by simp), rfl, ?_⟩
  refine ⟨_, rfl, a, _, 1, _, rfl, rfl, SqT.of ha, at1 _ _ _, l, _, rfl, .inr (SqT.of hl), ?_⟩
  have hk : vs.length ≤ us.length := by rw [s2.len, List.length_reverse, lv]; exact c1
  refine ⟨p.S, us, vs.length, rfl, s1, hk, fun o ho => ?_⟩
  have g := st.takeS (k := vs.length) s1 s2 (by rw [lv]; exact c1) ho
  obtain ⟨g0, st1, f1, ho1, rp, nXo⟩ := g
  rw [← lv] at q
  have rt1 := rt0.keep f1.tup
  have re1 := re.fr f1
  have rb1 := rb.keep f1.tup
  have ha1 := f1.tup _ _ ha
  generalize upd (upd H o (.lst (us.drop (us.length - vs.length)))) p.S (.lst (us.take (us.length - vs.length))) = H1 at st1 f1 ho1 rp rt1 re1 rb1 ha1 ⊢
  obtain ⟨ts1, t1, t2⟩ := st1.t
  refine ⟨_, rfl, p.R, CP, p.dx, _, _, rfl, st1.r, U.c, U.n _ (by simp), rfl, .inl ⟨rfl, _, SqL.of t1⟩, ?_⟩
  refine ⟨_, rfl, a, _, 2, _, rfl, rfl, SqT.of ha1, atI_nat (j := 2) rfl, _, rfl, _, rfl, _, _, rfl, rt1, wt0, fun L H2 hL hL2 s2' => ?_⟩
  have f2 : Fr No H1 H2 := Fr.of s2'
  obtain ⟨kvs, k1, k2, k3, k4⟩ := re1.fr f2.no
  have ly : ((res.take vs.length).reverse).length = vs.length := by rw [List.length_reverse, List.length_take]; omega
  refine ⟨_, rfl, X, e, L, o, kvs, env, ls, _, _, rfl, k1, k3, hL2, f2.keep (fun z => z) rfl ho1, rp.fr f2.no, by rw [ly, lv]; exact c2, wt.1, k4, fun d H3 lvs f3 hd hd3 r3 => ?_⟩
  have f13 := f2.trans f3
  refine ⟨by show 3 ≤ sizeLine; decide, fun t4 ht4 => ?_⟩
  have re3 : REn C X H3 d (evPuts ls (res.take vs.length).reverse env) := ⟨lvs, hd3, fun z => st1.dom d z (f2.dom hd), r3, Nat.le_trans (evPuts_len _ _ _) c3⟩
  obtain ⟨g4, st4, f4⟩ := (st1.fr f13).pushT (act := .begin) (t0 := t4) (f13.keep (fun z => z) rfl t1) (t2.mono fun _ _ r => r.fr f13.no) ht4 (rb1.keep f13.tup) wt.2.2 re3
  refine ⟨p.T, _, _, rfl, rfl, g4, ?_, ?_⟩
  · rw [t2.len, List.length_reverse]
    exact Nat.lt_of_lt_of_le c4 (by decide)
  exact q _ _ _ rfl _ (f1.trans (f13.no.trans f4)) st4
theorem scEc : FnScope ["run", "core", "_", "parts", "called", "inside"] ["run", "core", "_"] (defScope sEc) := ⟨rfl, rfl, rfl, by decide +kernel, rfl, by decide +kernel, by decide +kernel⟩
theorem ok_ec {f fT fB fW fC fP : Addr} {fd dT dB dW dC dP : FuncData} (Fn : Fun K "end_call" "end_call" sEc f fd) (B : Blt mg) (VC : ValC K mg C) (U : FldC K CP fR5) (G : ActG mg F) (GT : Cal P w K mg base CX0 1 "take_last" ["stack", "many"] spTak fT dT)
    (GB : Cal P w K mg base CX0 1 "bound_numbers" ["core"] spBn fB dB) (GW : Cal P w K mg base CX0 1 "with_variables" ["variables", "numbers", "results"] (spWv C) fW dW) (GC : Cal P w K mg base (L2.CX P w) 3 "check_call" ["called", "parts"] (spChk C En) fC dC)
    (GP : Cal P w K mg base (L2.CX P w) 4 "call_primitive" ["name", "parts"] (spPrm C En P1) fP dP) :
    FnOk P w K mg base (L2.CX P w) 5 f fd ["run", "core", "_"] (spA CP F C En P1 (fun t => word t = "call") goEc) := by
  refine Fn.okX scEc (fun vs H Q E h => ?_) (fun cdv A outer s H vs Q E hr h => ?_)
  · obtain ⟨X, p, m, n, todo, res, c, t, e, env, rfl, _⟩ := h
    rfl
  obtain ⟨X, p, m, n, todo, res, c, t, e, env, rfl, st, rt, wt, wd, re, tg, ns, q, qe⟩ := h
  obtain ⟨tf, ts, rfl⟩ := word_call wd
  unfold goEc at ns q qe
  unfold endCallF at ns q qe
  dsimp only at ns q qe
  have r1 := hr.mono (show 1 ≤ 4 by decide)
  have r3 := hr.mono (show 3 ≤ 4 by decide)
  cases hd0 : res.drop ts.length with
  | nil => rw [hd0] at ns; exact absurd rfl ns
  | cons called res' =>
  rw [hd0] at ns q qe
  dsimp only at ns q qe
  have cond : ts.length ≤ 900 ∧ todo.length < many ∧ res.length < many := by
    by_cases c : ts.length ≤ 900 ∧ todo.length < many ∧ res.length < many
    · exact c
    · rw [if_neg c] at ns; exact absurd rfl ns
  rw [if_pos cond] at ns q qe
  obtain ⟨c1, c2, c3⟩ := cond
  have lk : ts.length + 1 + res'.length = res.length := by
    have := congrArg List.length hd0
    rw [List.length_drop, List.length_cons] at this
    omega
  have nd := scEc.nd
  unfold widT at wt
  cases rt with
  | @call a l x vs _ _ ha hl rf rs =>
  have lv : vs.length = ts.length := rs.len
  obtain ⟨us, s1, s2⟩ := st.s
  refine ⟨_, (pss_cons (ps_set (i := 3) nd rfl (Or.inl rfl) (pe_call GT.ok r1 rfl GT.g GT.k GT.b .nil pass0 (pa_cons (pe_fld (pv 0) rfl) (pa_cons (pe_callB call_len_seq (by rfl) B.len PySem.boot_len (pa_cons (pe_ix (r := rIxT K) ix_tup (pv 1) pe_int (fun _ _ => rfl)) pa_nil)) pa_nil))))
    (pss_cons (ps_set (i := 4) nd rfl (Or.inl rfl) (pe_bm0 PySem.F.plainAttrs_list PySem.F.slot_list_pop PySem.F.type_list_pop mt_pop (pe_fld (pv 0) rfl)))
    (pss_cons (ps_expr (pe_call GC.ok r3 rfl GC.g GC.k GC.b .nil (passes_call (takes_of rfl rfl rfl rfl) fun _ _ _ _ h => h) (pa_cons (pv 4) (pa_cons (pv 3) pa_nil))))
    (pss_cons (ps_if (pt_val (pe_callB call_isi (by rfl) B.isinstance (by decide +kernel) (pa_cons (pv 4) (pa_cons (pe_glob (v := .ref C.pr) rfl VC.gr rfl) pa_nil)))) (pss_cons (ps_expr (pe_bm PySem.F.plainAttrs_list PySem.F.slot_list_append PySem.F.type_list_append mt_append (pe_fld (pv 0) rfl) (pa_cons (pe_call GP.ok hr rfl GP.g GP.k GP.b .nil (passes_call (takes_of rfl rfl rfl rfl) fun _ _ _ _ h => h) (pa_cons (pe_fld (pv 4) rfl) (pa_cons (pv 3) pa_nil))) pa_nil)))
      (pss_one ps_retN)) pss_nil)
    (pss_cons (ps_set (i := 5) nd rfl (Or.inl rfl) (pe_call GW.ok r1 rfl GW.g GW.k GW.b .nil pass0 (pa_cons (pe_fld (pv 4) rfl) (pa_cons (pe_call GB.ok r1 rfl GB.g GB.k GB.b .nil pass0 (pa_cons (pe_fld (pv 4) rfl) pa_nil)) (pa_cons (pv 3) pa_nil)))))
    (pss_one (ps_expr (pe_bm PySem.F.plainAttrs_list PySem.F.slot_list_append PySem.F.type_list_append mt_append (pe_fld (pv 0) rfl) (pa_cons (pe_tup (pa_cons (pe_glob (v := .ref F.bg) rfl G.bg rfl) (pa_cons (pe_ix (r := rIxT K) ix_tup (pe_fld (pv 4) rfl) pe_int (fun _ _ => rfl)) (pa_cons (pv 5) pa_nil)))) pa_nil))))))))), ?_⟩
  refine ⟨_, rfl, p.R, CP, p.dx, _, _, rfl, st.r, U.c, U.n _ (by simp), rfl, ?_⟩
  refine ⟨_, rfl, a, _, 2, _, rfl, rfl, SqT.of ha, atI_nat (j := 2) rfl, l, _, rfl, .inr (SqT.of hl), ?_⟩
  have hk : vs.length ≤ us.length := by rw [s2.len, List.length_reverse, lv]; omega
  refine ⟨p.S, us, vs.length, rfl, s1, hk, fun o ho => ?_⟩
  have g := st.takeS (k := vs.length) s1 s2 (by rw [lv]; omega) ho
  obtain ⟨g0, st1, f1, ho1, rp, nXo⟩ := g
  rw [← lv] at hd0 q qe ns
  rw [hd0] at st1
  have ha1 := f1.tup _ _ ha
  have lo : (us.drop (us.length - vs.length)).length = vs.length := by rw [List.length_drop]; omega
  have ly : ((res.take vs.length).reverse).length = vs.length := by rw [List.length_reverse, List.length_take]; omega
  generalize us.drop (us.length - vs.length) = ps at st1 f1 ho1 rp ha1 lo ⊢
  generalize us.take (us.length - vs.length) = ws0 at st1 f1 ho1 rp ha1 ⊢
  generalize upd (upd H o (.lst ps)) p.S (.lst ws0) = H1 at st1 f1 ho1 rp ha1 ⊢
  obtain ⟨rs1, e1, e2⟩ := st1.s
  obtain ⟨v, ws, rfl, rv, rws⟩ := e2.last
  refine ⟨_, rfl, p.R, CP, p.dx, _, _, rfl, st1.r, U.c, U.n _ (by simp), rfl, .inl ⟨rfl, _, SqL.of e1⟩, ?_⟩
  refine ⟨p.S, _, v, rfl, rfl, e1, by simp, ?_⟩
  rw [List.dropLast_concat]
  obtain ⟨st2, f2⟩ := st1.setS (rs := ws) (res' := res') rws
  have nX2 := nXo
  have ho2 := f2.keep nXo rfl ho1
  have rp2 := rp.fr f2
  have rv2 := rv.fr f2
  have f12 := f1.trans f2
  have e3 : upd H1 p.S (.lst ws) p.S = some (.lst ws) := upd_same
  have rws2 := rws.fr f2
  generalize upd H1 p.S (.lst ws) = H2 at st2 f2 ho2 rp2 rv2 f12 e3 rws2 ⊢
  refine ⟨_, rfl, _, rfl, X, v, called, o, ps, rfl, rv2, ho2, fun ec H3 f3 => ?_, fun er ee => ?_⟩
  · rw [lo] at ec
    rw [ec] at q qe ns
    dsimp only at q qe ns
    have f13 := f12.trans f3.no
    have st3 := st2.fr f3
    have rv3 := rv2.fr f3.no
    have ho3 := f3.keep (fun z => z) rfl ho2
    have rp3 := rp2.fr f3.no
    have e33 := f3.keep (fun z => z) rfl e3
    have rws3 := rws2.fr f3.no
    refine ⟨_, rfl, _, _, _, _, _, rfl, .own _, rv3.ty VC, VC.prim called, _, rfl, ?_⟩
    cases rv3 with
    | int i hi => unfold chkF at ec; cases ec
    | pair h nn ra rb => unfold chkF at ec; cases ec
    | @prim b dx z hb nb =>
      refine iteT ?_
      dsimp only at q qe ns
      refine ⟨_, rfl, p.R, CP, p.dx, _, _, rfl, st3.r, U.c, U.n _ (by simp), rfl, .inl ⟨rfl, _, SqL.of e33⟩, ?_⟩
      refine ⟨_, rfl, b, C.pr, dx, _, _, rfl, hb, VC.fr.c, VC.fr.n _ (by simp), rfl, _, rfl, ?_⟩
      have ar : (((res.take vs.length).reverse).length : Int) = arP z := by
        rw [ly]
        exact (chk_par ec).symm
      refine ⟨X, z, o, ps, _, rfl, ho3, rp3, ar, f13.sm.tab _ tg, st3.dom, fun y ey u H4 f4 ru => ?_, fun er ee => ?_⟩
      · rw [ey] at q
        have st4 := st3.fr f4
        have e4 := f4.keep (fun z => z) rfl e33
        have g5 := st4.pushV e4 (rws3.fr f4.no) ru
        refine ⟨p.S, _, _, rfl, rfl, e4, ?_, ?_⟩
        · rw [rws.len, List.length_reverse]
          exact Nat.lt_of_lt_of_le (show res'.length < many by omega) (by decide)
        exact q _ _ _ rfl _ (f13.trans (f4.no.trans g5.2)) g5.1
      · rw [ee] at qe
        exact qe _ _ rfl _ f13 st3.r
    | @fnP b dx d c0 ls tb kvs ev hb nb rt2 wt2 hd' nd' rev =>
      refine iteF ?_
      dsimp only at q qe ns
      have cl : ev.length + ls.length ≤ 1000000 := by
        by_cases c : ev.length + ls.length ≤ 1000000
        · exact c
        · rw [if_neg c] at ns; exact absurd rfl ns
      rw [if_pos cl] at q
      have lp : ls.length = vs.length := by have := chk_par ec; exact Int.ofNat.inj this
      refine ⟨_, rfl, b, C.fu, dx, _, _, rfl, hb, VC.ff.c, VC.ff.n _ (by simp), rfl, _, rfl, b, C.fu, dx, _, _, rfl, hb, VC.ff.c, VC.ff.n _ (by simp), rfl, c0, _, rfl, rt2, wt2, fun L H4 hL hL4 s4 => ?_⟩
      have f4 : Fr No H3 H4 := Fr.of s4
      have wt3 := wt2
      unfold widT at wt3
      refine ⟨_, rfl, X, d, L, o, kvs, ev, ls, _, _, rfl, f4.keep (fun z => z) rfl hd', rev.fr f4.no, hL4, f4.keep (fun z => z) rfl ho3, rp3.fr f4.no, by rw [ly]; exact lp, wt3.1, by omega, fun g H5 lvs f5 hg hg5 r5 => ?_⟩
      have f35 := f4.trans f5
      obtain ⟨ts1, t1, t2⟩ := st3.t
      have st5 := st3.fr f35
      have hb5 := f35.keep (fun z => z) rfl hb
      refine ⟨_, rfl, p.R, CP, p.dx, _, _, rfl, st5.r, U.c, U.n _ (by simp), rfl, .inl ⟨rfl, _, SqL.of (f35.keep (fun z => z) rfl t1)⟩, ?_⟩
      cases rt2 with
      | @fn a2 q2 x2 _ _ ha2 hq2 rb2 =>
      refine ⟨_, rfl, b, C.fu, dx, _, _, rfl, hb5, VC.ff.c, VC.ff.n _ (by simp), rfl, _, _, 2, _, rfl, rfl, SqT.of (f35.tup _ _ ha2), atI_nat (j := 2) rfl, _, rfl, by show 3 ≤ sizeLine; decide, fun t4 ht4 => ?_⟩
      have re5 : REn C X H5 g (evPuts ls (res.take vs.length).reverse ev) := ⟨lvs, hg5, fun z => st3.dom g z (f4.dom hg), r5, Nat.le_trans (evPuts_len _ _ _) cl⟩
      obtain ⟨g4, st6, f6⟩ := st5.pushT (act := .begin) (t0 := t4) (f35.keep (fun z => z) rfl t1) (t2.mono fun _ _ r => r.fr f35.no) ht4 (rb2.keep f35.tup) wt3.2 re5
      refine ⟨p.T, _, _, rfl, rfl, g4, ?_, ?_⟩
      · rw [t2.len, List.length_reverse]
        exact Nat.lt_of_lt_of_le c2 (by decide)
      exact q _ _ _ rfl _ (f13.trans (f35.no.trans f6)) st6
    | fnM h nn rc he ne rk => exact absurd rfl ns
  · rw [lo] at ee
    rw [ee] at qe
    exact qe _ _ rfl _ f12 st2.r
end
end My
namespace My
open PySem PySem.Spec PyProof.Rows L2 TL
/-! ### a local name that holds one of several defs, which may raise -/
structure HeldX (P : Program) (w : World) (K : PySem.W.Frag) (mg : Str → Option Value) (base : Heap) (k : Nat) (f : Addr) (sp : Sp) : Prop where
  ex : ∃ (fd : FuncData) (ps : List Str), FnOk P w K mg base (L2.CX P w) k f fd ps sp ∧ PySem.W.keepIn K (.ref f) = true ∧ Binds K fd ps []
def tCallAX (i : Nat) (S : Addr → Sp → Prop) (E : XK) (t : TA) : TE := fun σ H Q => ∃ f sp, σ[i]? = some (some (.ref f)) ∧ S f sp ∧ t σ H fun vs H1 => sp vs H1 Q E
section
variable {X : Cx} {k i : Nat} {E : XK} {x : Str} {p pos : Pos} {e : Expr} {es : List Expr} {t : TA}
theorem pe_callAX {S : Addr → Sp → Prop} (A : ∀ f sp, S f sp → HeldX X.prog X.w X.K X.mg X.base k f sp) (hr : Room k X.A) (hN : X.N[i]? = some x) (hv : Vis X.env.scope x) (hx : Passes (L2.CX X.prog X.w) X E) (ha : PA X (e :: es) t)
    (hdb : (x == ("__debug__" : Str)) = false := by decide) (hcd : (x == ("__classdict__" : Str)) = false := by decide)
    (he : starEach (e :: es) X.env = (false, eval e X.env) :: starEach es X.env := by rfl) (hpl : (backTo pos (starEach es X.env)).any (·.1) = false := by rfl) : PE X (.Call (.Name x p) (e :: es) [] pos) (tCallAX i S E t) := by
  refine ⟨fun pins s σ H Q I h => ?_⟩
  obtain ⟨f, sp, hs, hS, ht⟩ := h
  obtain ⟨fd, ps, F, hk, hb⟩ := (A f sp hS).ex
  refine (pe_callL (i := i) (f := f) (sp := sp) (dvs := []) (E := E) F hr hN hv hk hb .nil hx ha hdb hcd he hpl).run pins s σ H Q I ⟨hs, ?_⟩
  have e0 : (fun (vs : List V) (H1 : Hp) => sp (vs ++ []) H1 Q E) = fun vs H1 => sp vs H1 Q E := by
    funext vs H1
    rw [List.append_nil]
  show t σ H (fun vs H1 => sp (vs ++ []) H1 Q E)
  rw [e0]
  exact ht
end

abbrev sDfn : Stmt := inClass (top 15) 2
/-- definition(self, module, name) -/
def spDfn (CR : Addr) (C : Cs) (En : Addr) : Sp := fun vs H Q E => ∃ (X : Addr → Prop) (R dx D : Addr) (fs : List (Str × V)) (a b : Str) (gl : Gl), vs = [.ref R, .str a, .str b] ∧ H R = some (.ins CR dx fs) ∧ fs.lookup ("defined" : Str) = some (.ref D) ∧ RDf C X H D gl ∧
  (∀ x, glGet (a, b) gl = some x → ∀ u H', Fr No H H' → RV C X H' u x → Q u H') ∧ (glGet (a, b) gl = none → erX No En ["error", "early"] H E)
abbrev sBg : Stmt := top 25
abbrev sEif : Stmt := top 31
abbrev sBeg : Stmt := top 35
def goEi : Wd → Tr → List (Int × Vl) → Nat → List Tk → List Vl → PRes := fun _ t env n todo res => endIfF t env n todo res
def goB : Wd → Tr → List (Int × Vl) → Nat → List Tk → List Vl → PRes := fun m t env n todo res => beginF m t env n todo res
def begW : List Str := ["int", "local", "global", "prim", "fn", "let", "if", "call"]
section
variable {P : Program} {w : World} {K : PySem.W.Frag} {mg : Str → Option Value} {base : Heap} {CP En P1 : Addr} {F : Acts} {C : Cs}
theorem scDfn : FnScope ["self", "module", "name"] ["self", "module", "name"] (defScope sDfn) := ⟨rfl, rfl, rfl, by decide +kernel, rfl, by decide +kernel, by decide +kernel⟩
theorem ok_dfn {f CR fE : Addr} {fd dE : FuncData} (F0 : Fun K "definition" "Run.definition" sDfn f fd) (U : FldC K CR ["defined"]) (XE : ErrO P w K mg base En fE dE) : FnOk P w K mg base (L2.CX P w) 3 f fd ["self", "module", "name"] (spDfn CR C En) := by
  refine F0.okX scDfn (fun vs H Q E h => ?_) (fun cdv A outer s H vs Q E hr h => ?_)
  · obtain ⟨X, R, dx, D, fs, a, b, gl, rfl, _⟩ := h
    rfl
  obtain ⟨X, R, dx, D, fs, a, b, gl, rfl, hR, ld, ⟨kvs, hD, rg⟩, q, qe⟩ := h
  have nd := scDfn.nd
  have hu := hu_of hr
  refine ⟨_, (pss_cons (ps_if (pt_cmp (pc_dnotin hu (pe_tup (pa_cons (pv 1) (pa_cons (pv 2) pa_nil))) (pe_fld (pv 0) rfl))) (pss_one (ps_raise rfl (takes_of rfl rfl rfl rfl) (pmk_oex XE.o XE.iC XE.tI XE.f hr XE.b .nil pass0 rfl XE.g (pa_cons (pe_tup (pa_cons pe_str (pa_cons pe_str pa_nil))) pa_nil)))) pss_nil)
    (pss_one (ps_ret (pe_dget hu (pe_fld (pv 0) rfl) (pe_tup (pa_cons (pv 1) (pa_cons (pv 2) pa_nil))) (fun _ _ => rfl))))), ?_⟩
  refine ⟨_, rfl, _, rfl, by show 2 ≤ sizeLine; decide, fun t ht => ?_⟩
  have ft : Fr No H (upd H t (.tup [.str a, .str b])) := Fr.new ht
  have et : upd H t (.tup [.str a, .str b]) t = some (.tup [.str a, .str b]) := upd_same
  have hR1 := ft.keep (fun z => z) rfl hR
  have hD1 := ft.keep (fun z => z) rfl hD
  generalize upd H t (.tup [.str a, .str b]) = H1 at ft et hR1 hD1 ⊢
  obtain ⟨g1, g2⟩ := rg.get (k := (a, b))
  refine ⟨_, rfl, R, CR, dx, _, _, rfl, hR1, U.c, U.n _ (by simp), ld, D, _, rfl, .inr ⟨kvs, glK (a, b), t, .inl hD1, rfl, et, rfl⟩, ?_⟩
  cases hg : glGet (a, b) gl with
  | none =>
    rw [g2 hg]
    exact ⟨_, rfl, iteT (mkO_2 ((qe hg).fr ft))⟩
  | some x =>
    obtain ⟨v, hv, rv⟩ := g1 x hg
    rw [hv]
    refine ⟨_, rfl, iteF ?_⟩
    refine ⟨_, rfl, R, CR, dx, _, _, rfl, hR1, U.c, U.n _ (by simp), ld, _, rfl, _, rfl, by show 2 ≤ sizeLine; decide, fun t2 ht2 => ?_⟩
    have ft2 : Fr No H1 (upd H1 t2 (.tup [.str a, .str b])) := Fr.new ht2
    have f02 := ft.trans ft2
    refine ⟨D, v, rfl, .inr ⟨kvs, glK (a, b), t2, .inl (ft2.keep (fun z => z) rfl hD1), rfl, upd_same, hv.symm⟩, q x hg v _ f02 (rv.fr f02.no)⟩
theorem scBg : FnScope ["run", "core", "_"] ["run", "core", "_"] (defScope sBg) := ⟨rfl, rfl, rfl, by decide +kernel, rfl, by decide +kernel, by decide +kernel⟩
theorem ok_bg {f fD : Addr} {fd dD : FuncData} (Fn : Fun K "begin_global" "begin_global" sBg f fd) (U : FldC K CP fR5) (MD : MCal P w K mg base (L2.CX P w) 3 CP "definition" ["self", "module", "name"] (spDfn CP C En) fD dD) : FnOk P w K mg base (L2.CX P w) 4 f fd ["run", "core", "_"] (spA CP F C En P1 (fun t => word t = "global") goP) := by
  refine Fn.okX scBg (fun vs H Q E h => ?_) (fun cdv A outer s H vs Q E hr h => ?_)
  · obtain ⟨X, p, m, n, todo, res, c, t, e, env, rfl, _⟩ := h
    rfl
  obtain ⟨X, p, m, n, todo, res, c, t, e, env, rfl, st, rt, wt, wd, re, tg, ns, q, qe⟩ := h
  obtain ⟨y, z, rfl⟩ := word_global wd
  have lim := partF_at ns
  unfold goP at ns q qe
  unfold partF at ns q qe
  rw [if_neg lim] at ns q qe
  dsimp only at ns q qe
  have nd := scBg.nd
  cases rt with
  | @glob a _ _ ha =>
  obtain ⟨rs, s1, s2⟩ := st.s
  refine ⟨_, (pss_one (ps_expr (pe_bm PySem.F.plainAttrs_list PySem.F.slot_list_append PySem.F.type_list_append mt_append (pe_fld (pv 0) rfl) (pa_cons (pe_meth (pv 0) MD.c MD.m MD.ok hr MD.b .nil (passes_call (takes_of rfl rfl rfl rfl) fun _ _ _ _ h => h) (pa_cons (pe_ix (r := rIxT K) ix_tup (pv 1) pe_int (fun _ _ => rfl)) (pa_cons (pe_ix (r := rIxT K) ix_tup (pv 1) pe_int (fun _ _ => rfl)) pa_nil))) pa_nil)))), ?_⟩
  refine ⟨_, rfl, p.R, CP, p.dx, _, _, rfl, st.r, U.c, U.n _ (by simp), rfl, .inl ⟨rfl, _, SqL.of s1⟩, ?_⟩
  refine ⟨_, rfl, p.R, p.dx, _, rfl, st.r, rfl, _, rfl, a, _, 1, _, rfl, rfl, SqT.of ha, at1 _ _ _, _, rfl, a, _, 2, _, rfl, rfl, SqT.of ha, atI_nat (j := 2) rfl, ?_⟩
  refine ⟨X, p.R, p.dx, p.D, _, y, z, m.gl, rfl, st.r, rfl, st.d, fun x hx u H' f ru => ?_, fun hx => ?_⟩
  · rw [hx] at q
    dsimp only at q
    have st1 := st.fr f
    have s1' := f.keep (fun z => z) rfl s1
    refine ⟨p.S, _, _, rfl, rfl, s1', by rw [s2.len, List.length_reverse]; exact many_line fun z => lim (.inr z), ?_⟩
    obtain ⟨g1, g2⟩ := st1.pushV s1' (s2.fr f.no) ru
    exact q _ _ _ rfl _ (f.no.trans g2) g1
  · rw [hx] at qe
    dsimp only at qe
    exact qe _ _ rfl H (Fr.refl _ _) st.r
theorem scBif : FnScope ["run", "core", "variables"] ["run", "core", "variables"] (defScope sBif) := ⟨rfl, rfl, rfl, by decide +kernel, rfl, by decide +kernel, by decide +kernel⟩
theorem ok_bif {f : Addr} {fd : FuncData} (Fn : Fun K "begin_if" "begin_if" sBif f fd) (U : FldC K CP fR5) (G : ActG mg F) : FnOk P w K mg base (L2.CX P w) 1 f fd ["run", "core", "variables"] (spA CP F C En P1 (fun t => word t = "if") goP) := by
  refine Fn.okX scBif (fun vs H Q E h => ?_) (fun cdv A outer s H vs Q E hr h => ?_)
  · obtain ⟨X, p, m, n, todo, res, c, t, e, env, rfl, _⟩ := h
    rfl
  obtain ⟨X, p, m, n, todo, res, c, t, e, env, rfl, st, rt, wt, wd, re, tg, ns, q, qe⟩ := h
  obtain ⟨ta, tb, tc, rfl⟩ := word_if wd
  have lim := partF_at ns
  unfold goP at ns q qe
  unfold partF at ns q
  rw [if_neg lim] at ns q
  dsimp only at ns q
  have nd := scBif.nd
  have rt0 := rt
  have wt0 := wt
  unfold widT at wt
  cases rt with
  | @if_ a x y z _ _ _ ha rx ry rz =>
  refine ⟨_, (pss_cons (ps_expr (pe_bm PySem.F.plainAttrs_list PySem.F.slot_list_append PySem.F.type_list_append mt_append (pe_fld (pv 0) rfl) (pa_cons (pe_tup (pa_cons (pe_glob (v := .ref F.ei) rfl G.ei rfl) (pa_cons (pv 1) (pa_cons (pv 2) pa_nil)))) pa_nil)))
    (pss_one (ps_expr (pe_bm PySem.F.plainAttrs_list PySem.F.slot_list_append PySem.F.type_list_append mt_append (pe_fld (pv 0) rfl) (pa_cons (pe_tup (pa_cons (pe_glob (v := .ref F.bg) rfl G.bg rfl) (pa_cons (pe_ix (r := rIxT K) ix_tup (pv 1) pe_int (fun _ _ => rfl)) (pa_cons (pv 2) pa_nil)))) pa_nil))))), ?_⟩
  obtain ⟨us, t1, t2⟩ := st.t
  have lu : us.length < 1000000 := by
    rw [t2.len, List.length_reverse]
    exact Nat.lt_of_not_le fun z => lim (.inl z)
  refine ⟨_, rfl, p.R, CP, p.dx, _, _, rfl, st.r, U.c, U.n _ (by simp), rfl, .inl ⟨rfl, _, SqL.of t1⟩, ?_⟩
  refine ⟨_, rfl, _, rfl, by show 3 ≤ sizeLine; decide, fun t0 ht0 => ?_⟩
  obtain ⟨g1, st1, f1⟩ := st.pushT (act := .endIf) (t0 := t0) t1 t2 ht0 rt0 wt0 re
  refine ⟨p.T, _, _, rfl, rfl, g1, Nat.lt_of_lt_of_le lu (by decide), ?_⟩
  have u1 : (upd (upd H t0 (.tup [.ref F.ei, .ref a, .ref e])) p.T (.lst (us ++ [.ref t0]))) p.T = some (.lst (us ++ [.ref t0])) := upd_same
  have st1 : PRn CP F C X (upd (upd H t0 (.tup [.ref F.ei, .ref a, .ref e])) p.T (.lst (us ++ [.ref t0]))) p m n (⟨.endIf, .if_ ta tb tc, env⟩ :: todo) res := st1
  have f1 : Fr X H (upd (upd H t0 (.tup [.ref F.ei, .ref a, .ref e])) p.T (.lst (us ++ [.ref t0]))) := f1
  have l1 : (us ++ [V.ref t0]).length ≤ 1000000 := by rw [List.length_append]; show us.length + 1 ≤ _; omega
  generalize us ++ [V.ref t0] = us1 at u1 st1 f1 l1 ⊢
  generalize upd (upd H t0 (.tup [.ref F.ei, .ref a, .ref e])) p.T (.lst us1) = H1 at u1 st1 f1 ⊢
  have al1 : Als (RTk F C X H1) us1 (⟨.endIf, .if_ ta tb tc, env⟩ :: todo : List Tk).reverse := by
    obtain ⟨ts', e1, e2⟩ := st1.t
    rw [u1] at e1
    cases e1
    exact e2
  refine ⟨_, rfl, p.R, CP, p.dx, _, _, rfl, st1.r, U.c, U.n _ (by simp), rfl, .inl ⟨rfl, _, SqL.of u1⟩, ?_⟩
  refine ⟨_, rfl, a, _, 1, _, rfl, rfl, SqT.of (f1.tup _ _ ha), at1 _ _ _, _, rfl, by show 3 ≤ sizeLine; decide, fun t4 ht4 => ?_⟩
  obtain ⟨g4, st4, f4⟩ := st1.pushT (act := .begin) (t0 := t4) u1 al1 ht4 (rx.keep f1.tup) wt.1 (re.fr f1)
  refine ⟨p.T, _, _, rfl, rfl, g4, Nat.lt_of_le_of_lt l1 (by decide), ?_⟩
  exact q _ _ _ rfl _ (f1.trans f4) st4
theorem scEif : FnScope ["run", "core", "variables", "chosen"] ["run", "core", "variables"] (defScope sEif) := ⟨rfl, rfl, rfl, by decide +kernel, rfl, by decide +kernel, by decide +kernel⟩
theorem ok_eif {f : Addr} {fd : FuncData} (Fn : Fun K "end_if" "end_if" sEif f fd) (U : FldC K CP fR5) (G : ActG mg F) (CO : CmpV K (C.pa, C.fu, C.pr)) : FnOk P w K mg base (L2.CX P w) 1 f fd ["run", "core", "variables"] (spA CP F C En P1 (fun t => word t = "if") goEi) := by
  refine Fn.okX scEif (fun vs H Q E h => ?_) (fun cdv A outer s H vs Q E hr h => ?_)
  · obtain ⟨X, p, m, n, todo, res, c, t, e, env, rfl, _⟩ := h
    rfl
  obtain ⟨X, p, m, n, todo, res, c, t, e, env, rfl, st, rt, wt, wd, re, tg, ns, q, qe⟩ := h
  obtain ⟨ta, tb, tc, rfl⟩ := word_if wd
  unfold goEi at ns q qe
  unfold endIfF at ns q
  obtain ⟨x0, res', rfl⟩ : ∃ x res', res = x :: res' := by
    cases res with
    | nil => exact absurd rfl ns
    | cons x r => exact ⟨x, r, rfl⟩
  dsimp only at ns q
  have lt : todo.length < many := by
    by_cases c : todo.length < many
    · exact c
    · rw [if_neg c] at ns; exact absurd rfl ns
  rw [if_pos lt] at q
  have nd := scEif.nd
  have hu0 := rm0 hr
  unfold widT at wt
  cases rt with
  | @if_ a x y z _ _ _ ha rx ry rz =>
  refine ⟨_, (pss_cons (ps_set (i := 3) nd rfl (Or.inl rfl) (pe_ifExp (pt_cmpR (op_eqI hu0) (pe_bm0 PySem.F.plainAttrs_list PySem.F.slot_list_pop PySem.F.type_list_pop mt_pop (pe_fld (pv 0) rfl)) pe_int (nomark _)) (pe_ix (r := rIxT K) ix_tup (pv 1) pe_int (fun _ _ => rfl)) (pe_ix (r := rIxT K) ix_tup (pv 1) pe_int (fun _ _ => rfl))))
    (pss_one (ps_expr (pe_bm PySem.F.plainAttrs_list PySem.F.slot_list_append PySem.F.type_list_append mt_append (pe_fld (pv 0) rfl) (pa_cons (pe_tup (pa_cons (pe_glob (v := .ref F.bg) rfl G.bg rfl) (pa_cons (pv 3) (pa_cons (pv 2) pa_nil)))) pa_nil))))), ?_⟩
  obtain ⟨rs1, e1, e2⟩ := st.s
  obtain ⟨v, ws, rfl, rv, rws⟩ := e2.last
  refine ⟨_, rfl, p.R, CP, p.dx, _, _, rfl, st.r, U.c, U.n _ (by simp), rfl, .inl ⟨rfl, _, SqL.of e1⟩, ?_⟩
  refine ⟨p.S, _, v, rfl, rfl, e1, by simp, ?_⟩
  rw [List.dropLast_concat]
  obtain ⟨st2, f2⟩ := st.setS (rs := ws) (res' := res') rws
  have ha2 := f2.tup _ _ ha
  have re2 := re.fr f2
  have rv2 := rv.fr f2
  have ry2 := ry.keep f2.tup
  have rz2 := rz.keep f2.tup
  generalize upd H p.S (.lst ws) = H2 at st2 f2 ha2 re2 rv2 ry2 rz2 ⊢
  obtain ⟨us, t1, t2⟩ := st2.t
  have push : ∀ {c1 : V} {t1' : Tr}, RT H2 c1 t1' → widT t1' → (if zeroV x0 = true then tc else tb) = t1' → ∃ u : Unit, ∀ t4, H2 t4 = none → (upd H2 t4 (.tup [.ref F.bg, c1, .ref e])) p.T = some (.lst us) ∧ us.length < sizeLine ∧ Q .non (upd (upd H2 t4 (.tup [.ref F.bg, c1, .ref e])) p.T (.lst (us ++ [.ref t4]))) := fun {c1 t1'} r1 w1 et => ⟨(), fun t4 ht4 => by
    obtain ⟨g4, st4, f4⟩ := st2.pushT (act := .begin) (t0 := t4) t1 t2 ht4 r1 w1 re2
    refine ⟨g4, ?_, ?_⟩
    · rw [t2.len, List.length_reverse]
      exact Nat.lt_of_lt_of_le lt (by decide)
    rw [et] at q
    exact q _ _ _ rfl _ (f2.trans f4) st4⟩
  refine eqI_zero CO rv2 ⟨_, rfl, ?_⟩
  refine ite2 (fun c => ?_) (fun c => ?_)
  · have e0 := c
    obtain ⟨_, pu⟩ := push rz2 wt.2.2 (if_pos e0)
    refine ⟨_, rfl, a, _, 3, _, rfl, rfl, SqT.of ha2, atI_nat (j := 3) rfl, ?_⟩
    refine ⟨_, rfl, p.R, CP, p.dx, _, _, rfl, st2.r, U.c, U.n _ (by simp), rfl, .inl ⟨rfl, _, SqL.of t1⟩, ?_⟩
    refine ⟨_, rfl, _, rfl, by show 3 ≤ sizeLine; decide, fun t4 ht4 => ?_⟩
    obtain ⟨g4, l4, q4⟩ := pu t4 ht4
    exact ⟨p.T, _, _, rfl, rfl, g4, l4, q4⟩
  · have e0 := c
    obtain ⟨_, pu⟩ := push ry2 wt.2.1 (if_neg e0)
    refine ⟨_, rfl, a, _, 2, _, rfl, rfl, SqT.of ha2, atI_nat (j := 2) rfl, ?_⟩
    refine ⟨_, rfl, p.R, CP, p.dx, _, _, rfl, st2.r, U.c, U.n _ (by simp), rfl, .inl ⟨rfl, _, SqL.of t1⟩, ?_⟩
    refine ⟨_, rfl, _, rfl, by show 3 ≤ sizeLine; decide, fun t4 ht4 => ?_⟩
    obtain ⟨g4, l4, q4⟩ := pu t4 ht4
    exact ⟨p.T, _, _, rfl, rfl, g4, l4, q4⟩
theorem scBeg : FnScope ["run", "core", "variables", "action"] ["run", "core", "variables"] (defScope sBeg) := ⟨rfl, rfl, rfl, by decide +kernel, rfl, by decide +kernel, by decide +kernel⟩
theorem ok_beg {f fK fc : Addr} {fd dK : FuncData} (Fn : Fun K "begin" "begin" sBeg f fd) (U : FldC K CP fR5) (gB : mg "BEGINNINGS" = some (.ref fc)) (KD : ∃ es n, KDict K w fc es n) (MK : MCal P w K mg base (L2.CX P w) 3 CP "count_step" ["self"] (spCnt CP En) fK dK)
    (TB : ∀ wd ∈ begW, ∃ g, PySem.W.nsIn K fc wd = some (some (.ref g)) ∧ HeldX P w K mg base 4 g (spA CP F C En P1 (fun t => word t = wd) goP)) : FnOk P w K mg base (L2.CX P w) 5 f fd ["run", "core", "variables"] (spA CP F C En P1 (fun _ => True) goB) := by
  refine Fn.okX scBeg (fun vs H Q E h => ?_) (fun cdv A outer s H vs Q E hr h => ?_)
  · obtain ⟨X, p, m, n, todo, res, c, t, e, env, rfl, _⟩ := h
    rfl
  obtain ⟨X, p, m, n, todo, res, c, t, e, env, rfl, st, rt, wt, wd, re, tg, ns, q, qe⟩ := h
  unfold goB at ns q qe
  unfold beginF at ns q qe
  have nd := scBeg.nd
  obtain ⟨es, nn, KD⟩ := KD
  obtain ⟨a, xs, rfl, ha, lx⟩ := rt.head
  have held : ∀ g sp, (∃ wd, wd ∈ begW ∧ PySem.W.nsIn K fc wd = some (some (.ref g)) ∧ sp = spA CP F C En P1 (fun t => word t = wd) goP) → HeldX P w K mg base 4 g sp := by
    rintro g sp ⟨wd, hw, hn, rfl⟩
    obtain ⟨g', h1, h2⟩ := TB wd hw
    rw [hn] at h1
    cases h1
    exact h2
  refine ⟨_, (pss_cons (ps_expr (pe_meth0 (pv 0) MK.c MK.m MK.ok (hr.mono (show 3 ≤ 4 by decide)) MK.b .nil (passes_call (takes_of rfl rfl rfl rfl) fun _ _ _ _ h => h)))
    (pss_cons (ps_set (i := 3) nd rfl (Or.inl rfl) (pe_ix (r := rIxD K w) ix_kdict (pe_glob (v := .ref fc) rfl gB rfl) (pe_ix (r := rIxT K) ix_tup (pv 1) pe_int (fun _ _ => rfl)) (fun _ _ => rfl)))
    (pss_one (ps_expr (pe_callAX (i := 3) held hr rfl (.inl rfl) (passes_call (takes_of rfl rfl rfl rfl) fun _ _ _ _ h => h) (pa_cons (pv 0) (pa_cons (pv 1) (pa_cons (pv 2) pa_nil)))))))), ?_⟩
  refine ⟨_, rfl, p.R, p.dx, _, rfl, st.r, rfl, p.R, p.dx, _, n, m.m, rfl, st.r, rfl, rfl, by show 5 < 1000; decide, fun lt => ?_, fun le => ?_⟩
  · rw [if_neg (Nat.not_le_of_lt lt)] at ns q qe
    obtain ⟨st1, f1⟩ := st.step
    have hw : word t ∈ begW := by cases t <;> simp [begW, word]
    obtain ⟨g, hg, _⟩ := TB _ hw
    have ha1 := f1.tup _ _ ha
    have rt1 := rt.keep f1.tup
    have re1 := re.fr f1
    have tg1 := f1.sm.tab _ tg
    refine ⟨_, rfl, a, _, 0, _, rfl, rfl, SqT.of ha1, at0 _ _, fc, word t, .ref g, rfl, rfl, ⟨es, nn, .ref g, KD.at_, KD.lit, hg, rfl⟩, g, _, rfl, ⟨word t, hw, hg, rfl⟩, _, rfl, _, rfl, _, rfl, ?_⟩
    exact ⟨X, p, m, n + 1, todo, res, _, t, e, env, rfl, st1, rt1, wt, rfl, re1, tg1, ns, fun n' t' r' ee H' f' st' => q n' t' r' ee H' (f1.trans f') st', fun ws n' ee H' f' st' => qe ws n' ee H' (f1.trans f') st'⟩
  · rw [if_pos le] at qe
    exact qe _ _ rfl H (Fr.refl _ _) st.r
end
end My
namespace My
open PySem PySem.Spec PyProof.Rows L2 TL
/-! ### shown values -/
inductive Sh where
  | int (i : Int) | fn | more | pair (a b : Sh)
inductive RSh (H : Hp) : V → Sh → Prop
  | int (i : Int) : RSh H (.int i) (.int i)
  | fn : RSh H (.str "fn") .fn
  | more : RSh H (.str "more") .more
  | pair {a : Addr} {x y : V} {u v : Sh} (h : H a = some (.tup [.str "pair", x, y])) (r : RSh H x u) (s : RSh H y v) : RSh H (.ref a) (.pair u v)
theorem RSh.keep {H H' : Hp} (k : KpT H H') : ∀ {v : V} {s : Sh}, RSh H v s → RSh H' v s
  | _, _, .int i => .int i
  | _, _, .fn => .fn
  | _, _, .more => .more
  | _, _, .pair h r s => .pair (k _ _ h) (RSh.keep k r) (RSh.keep k s)
def showF : Vl → Nat → Nat → Sh × Nat
  | .int i, _, c => (.int i, c)
  | .pair a b, ar, c => if 59 < ar ∨ c = 300 then (.more, c) else (.pair (showF a (ar + 1) (c + 1)).1 (showF b (ar + 1) (showF a (ar + 1) (c + 1)).2).1, (showF b (ar + 1) (showF a (ar + 1) (c + 1)).2).2)
  | _, _, c => (.fn, c)
abbrev sShI : Stmt := inClass (top 10) 0
abbrev sSho : Stmt := inClass (top 10) 1
abbrev sShn : Stmt := top 11
def spShI (CS : Addr) : Sp := fun vs H Q _ => ∃ (x dx : Addr), vs = [.ref x] ∧ H x = some (.ins CS dx []) ∧ Q .non (upd H x (.ins CS dx [("pairs", .int 0)]))
def spSho (C : Cs) (CS : Addr) : Nat → Sp
  | 0 => fun _ _ _ _ => False
  | d + 1 => fun vs H Q _ => ∃ (X : Addr → Prop) (s dx : Addr) (v : V) (x : Vl) (ar c : Nat), vs = [.ref s, v, .int ar] ∧ H s = some (.ins CS dx [("pairs", .int c)]) ∧ RV C X H v x ∧ X s ∧ 60 ≤ ar + d ∧
    ∀ u H', Fr (fun b => b = s) H H' → H' s = some (.ins CS dx [("pairs", .int (showF x ar c).2)]) → RSh H' u (showF x ar c).1 → Q u H'
def spShn (C : Cs) : Sp := fun vs H Q _ => ∃ (X : Addr → Prop) (v : V) (x : Vl), vs = [v] ∧ RV C X H v x ∧ ∀ u H', Fr No H H' → RSh H' u (showF x 0 0).1 → Q u H'
/-- what was new may have changed -/
theorem Fr.drop {Y : Addr → Prop} {H H1 H' : Hp} (a : Fr No H H1) (b : Fr Y H1 H') (h : ∀ q, Y q → H q = none) : Fr No H H' := by
  refine ⟨⟨fun q o _ t e => b.keep (fun z => by rw [h q z] at e; cases e) t (a.keep (fun z => z) t e), fun P t => b.sm.tab P (a.sm.tab P t), fun q e => a.dom (b.dom e)⟩, fun q xs e => b.tup _ _ (a.tup _ _ e)⟩
section
variable {P : Program} {w : World} {K : PySem.W.Frag} {mg : Str → Option Value} {base : Heap} {C : Cs} {CS : Addr}
theorem fn_none {CX : CXT} {k : Nat} {f : Addr} {fd : FuncData} {ps : List Str} : FnOk P w K mg base CX k f fd ps (fun _ _ _ _ => False) := ⟨fun _ _ _ _ h => h.elim, fun _ _ _ _ _ _ _ _ _ _ _ _ _ h => h.elim⟩
theorem scShI : FnScope ["self"] ["self"] (defScope sShI) := ⟨rfl, rfl, rfl, by decide +kernel, rfl, by decide +kernel, by decide +kernel⟩
theorem ok_shI {f : Addr} {fd : FuncData} (F : Fun K "__init__" "Showing.__init__" sShI f fd) (U : FldC K CS ["pairs"]) : FnOk P w K mg base CX0 1 f fd ["self"] (spShI CS) := by
  refine F.ok scShI (fun vs H Q E h => ?_) (fun cdv A outer s H vs Q E hr h => ?_)
  · obtain ⟨x, dx, rfl, _⟩ := h
    rfl
  obtain ⟨x, dx, rfl, hx, q⟩ := h
  have nd := scShI.nd
  refine ⟨_, (pss_one (ps_fld (pv 0) pe_int rfl)), ?_⟩
  exact ⟨_, rfl, x, CS, dx, _, rfl, hx, U.c, U.n _ (by simp), by decide, q⟩
theorem scSho : FnScope ["self", "value", "around", "first", "second"] ["self", "value", "around"] (defScope sSho) := ⟨rfl, rfl, rfl, by decide +kernel, rfl, by decide +kernel, by decide +kernel⟩
theorem ok_sho {f : Addr} {fd : FuncData} (F : Fun K "show" "Showing.show" sSho f fd) (B : Blt mg) (VC : ValC K mg C) (U : FldC K CS ["pairs"]) (hm : Meth K CS "show" f) (hb : Binds K fd ["self", "value", "around"] []) (gA : ∃ t, mg "MOST_AROUND" = some (.int 59 t)) (gP : ∃ t, mg "MOST_PAIRS" = some (.int 300 t)) :
    ∀ d : Nat, FnOk P w K mg base CX0 d f fd ["self", "value", "around"] (spSho C CS d)
  | 0 => fn_none
  | d + 1 => by
    have IH := ok_sho F B VC U hm hb gA gP d
    obtain ⟨tA, gA⟩ := gA
    obtain ⟨tP, gP⟩ := gP
    refine F.ok scSho (fun vs H Q E h => ?_) (fun cdv A outer s0 H vs Q E hr h => ?_)
    · obtain ⟨X, s, dx, v, x, ar, c, rfl, _⟩ := h
      rfl
    obtain ⟨X, s, dx, v, x, ar, c, rfl, hs, rv, Xs, le, q⟩ := h
    have nd := scSho.nd
    refine ⟨_, (pss_cons (ps_if (pt_val (pe_callB call_isi (by rfl) B.isinstance (by decide +kernel) (pa_cons (pv 1) (pa_cons (pe_bltn (v := .ty "int") (by rfl) B.int (by decide +kernel) rfl) pa_nil)))) (pss_one (ps_ret (pv 1))) pss_nil)
    (pss_cons (ps_if (pt_not (pt_val (pe_callB call_isi (by rfl) B.isinstance (by decide +kernel) (pa_cons (pv 1) (pa_cons (pe_glob (v := .ref C.pa) rfl VC.gp rfl) pa_nil))))) (pss_one (ps_ret pe_str)) pss_nil)
    (pss_cons (ps_if (PW.pt (pw_or (pt_cmpR op_gt (pv 2) (pe_glob (v := .int 59) rfl gA ⟨_, rfl⟩) (nomark _)) (pw_or1 (pt_cmpR op_eq (pe_fld (pv 0) rfl) (pe_glob (v := .int 300) rfl gP ⟨_, rfl⟩) (nomark _))))) (pss_one (ps_ret pe_str)) pss_nil)
    (pss_cons (ps_fldaug (pv 0) pe_int in_add)
    (pss_cons (ps_set (i := 3) nd rfl (Or.inl rfl) (pe_meth (pv 0) U.c hm IH hr hb .nil pass0 (pa_cons (pe_fld (pv 1) rfl) (pa_cons (pe_op op_add (pv 2) pe_int) pa_nil))))
    (pss_cons (ps_set (i := 4) nd rfl (Or.inl rfl) (pe_meth (pv 0) U.c hm IH hr hb .nil pass0 (pa_cons (pe_fld (pv 1) rfl) (pa_cons (pe_op op_add (pv 2) pe_int) pa_nil))))
    (pss_one (ps_ret (pe_tup (pa_cons pe_str (pa_cons (pv 3) (pa_cons (pv 4) pa_nil)))))))))))), ?_⟩
    refine ⟨_, rfl, _, _, _, _, _, rfl, .ty "int", rv.ty VC, VC.int x, _, rfl, ?_⟩
    cases rv with
    | int i _ => exact iteT ⟨_, rfl, q _ H (Fr.refl _ _) hs (.int i)⟩
    | prim h n =>
      refine iteF ⟨_, rfl, _, _, _, _, _, rfl, .own _, (RV.prim (X := X) h n).ty VC, VC.pair _, _, rfl, iteT ?_⟩
      exact q _ H (Fr.refl _ _) hs .fn
    | fnP h n rt wt he ne re =>
      refine iteF ⟨_, rfl, _, _, _, _, _, rfl, .own _, (RV.fnP (X := X) h n rt wt he ne re).ty VC, VC.pair _, _, rfl, iteT ?_⟩
      exact q _ H (Fr.refl _ _) hs .fn
    | fnM h n rc he ne re =>
      refine iteF ⟨_, rfl, _, _, _, _, _, rfl, .own _, (RV.fnM (X := X) h n rc he ne re).ty VC, VC.pair _, _, rfl, iteT ?_⟩
      exact q _ H (Fr.refl _ _) hs .fn
    | @pair a dx2 y z yv zv h n ra rb =>
      refine iteF ⟨_, rfl, _, _, _, _, _, rfl, .own _, (RV.pair (X := X) h n ra rb).ty VC, VC.pair _, _, rfl, iteF ?_⟩
      unfold showF at q
      refine ⟨_, rfl, _, _, rfl, rfl, _, rfl, ?_⟩
      refine ite2 (fun c1 => ?_) (fun c1 => ?_)
      · have c2 : 59 < ar := by have := of_decide_eq_true c1; omega
        rw [if_pos (.inl c2)] at q
        exact iteT (q _ H (Fr.refl _ _) hs .more)
      refine ⟨_, rfl, s, CS, dx, _, _, rfl, hs, U.c, U.n _ (by simp), rfl, rfl, _, rfl, ?_⟩
      refine ite2 (fun c2 => ?_) (fun c2 => ?_)
      · have c3 : c = 300 := by have := v_int c2; omega
        rw [if_pos (.inr c3)] at q
        exact q _ H (Fr.refl _ _) hs .more
      have n1 : ¬ (59 < ar ∨ c = 300) := fun o => by
        rcases o with o | o
        · exact c1 (decide_eq_true (by omega))
        · exact c2 (decide_eq_true (by rw [o]; rfl))
      rw [if_neg n1] at q
      refine ⟨_, rfl, s, CS, dx, _, _, rfl, hs, U.c, U.n _ (by simp), rfl, _, _, rfl, rfl, _, _, hs, by show 1 < 1000; decide, ?_⟩
      have f1 : Fr (fun b => b = s) H (upd H s (.ins CS dx [("pairs", .int (c + 1 : Nat))])) := Fr.set rfl hs rfl
      have hs1 : upd H s (.ins CS dx [("pairs", .int (c + 1 : Nat))]) s = some (.ins CS dx [("pairs", .int (c + 1 : Nat))]) := upd_same
      have wX : ∀ b : Addr, b = s → X b := fun b e => by rw [e]; exact Xs
      have h1 := (f1.wide wX).keep n rfl h
      have ra1 := ra.fr (f1.wide wX)
      have rb1 := rb.fr (f1.wide wX)
      show tSeq _ _ _ _ (upd H s (.ins CS dx [("pairs", .int (c + 1 : Nat))]))
      generalize upd H s (.ins CS dx [("pairs", .int (c + 1 : Nat))]) = H1 at f1 hs1 h1 ra1 rb1 ⊢
      obtain ⟨d', rfl⟩ : ∃ d', d = d' + 1 := by
        have : ¬ 59 < ar := fun z => n1 (.inl z)
        exact ⟨d - 1, by omega⟩
      refine ⟨_, rfl, s, dx, _, rfl, hs1, rfl, _, rfl, a, C.pa, dx2, _, _, rfl, h1, VC.fp.c, VC.fp.n _ (by simp), rfl, _, rfl, _, _, rfl, rfl, ?_⟩
      refine ⟨X, s, dx, y, yv, ar + 1, c + 1, rfl, hs1, ra1, Xs, by omega, fun u1 H2 f2 hs2 r2 => ?_⟩
      have h2 := (f2.wide wX).keep n rfl h1
      have rb2 := rb1.fr (f2.wide wX)
      refine ⟨_, rfl, s, dx, _, rfl, hs2, rfl, _, rfl, a, C.pa, dx2, _, _, rfl, h2, VC.fp.c, VC.fp.n _ (by simp), rfl, _, rfl, _, _, rfl, rfl, ?_⟩
      refine ⟨X, s, dx, z, zv, ar + 1, _, rfl, hs2, rb2, Xs, by omega, fun u2 H3 f3 hs3 r3 => ?_⟩
      refine ⟨_, rfl, _, rfl, by show 3 ≤ sizeLine; decide, fun t ht => ?_⟩
      have f4 : Fr (fun b => b = s) H3 (upd H3 t (.tup [.str "pair", u1, u2])) := Fr.new ht
      refine q _ _ (f1.trans (f2.trans (f3.trans f4))) ?_ (.pair upd_same ((r2.keep f3.tup).keep f4.tup) (r3.keep f4.tup))
      rw [upd_ne (ne_of_none hs3 ht)]
      exact hs3
theorem scShn : FnScope ["value", "showing"] ["value"] (defScope sShn) := ⟨rfl, rfl, rfl, by decide +kernel, rfl, by decide +kernel, by decide +kernel⟩
theorem ok_shn {f fI fS : Addr} {fd dI dS : FuncData} (F : Fun K "shown" "shown" sShn f fd) (MI : MkC P w K mg base 1 "Showing" ["self"] (spShI CS) CS fI dI) (U : FldC K CS ["pairs"]) (hm : Meth K CS "show" fS) (hb : Binds K dS ["self", "value", "around"] []) (S : FnOk P w K mg base CX0 61 fS dS ["self", "value", "around"] (spSho C CS 61)) :
    FnOk P w K mg base CX0 62 f fd ["value"] (spShn C) := by
  refine F.ok scShn (fun vs H Q E h => ?_) (fun cdv A outer s0 H vs Q E hr h => ?_)
  · obtain ⟨X, v, x, rfl, _⟩ := h
    rfl
  obtain ⟨X, v, x, rfl, rv, q⟩ := h
  have nd := scShn.nd
  have r2 := hr.mono (show 2 ≤ 61 by decide)
  refine ⟨_, (pss_cons (ps_set (i := 1) nd rfl (Or.inl rfl) (pe_make0 (E := fun _ _ _ => False) MI.m MI.ok r2 rfl MI.g MI.b .nil pass0))
    (pss_one (ps_ret (pe_meth (pv 1) U.c hm S hr hb .nil pass0 (pa_cons (pv 0) (pa_cons pe_int pa_nil)))))), ?_⟩
  refine fun s dx hs hd ne => ⟨s, dx, rfl, upd_same, rfl, ?_⟩
  rw [upd_upd]
  have f1 : Fr No H (upd (upd H dx (.own s)) s (.ins CS dx [("pairs", .int 0)])) := mk_fr hs hd ne
  have hs1 : (upd (upd H dx (.own s)) s (.ins CS dx [("pairs", .int 0)])) s = some (.ins CS dx [("pairs", .int 0)]) := upd_same
  generalize upd (upd H dx (.own s)) s (.ins CS dx [("pairs", .int 0)]) = H1 at f1 hs1 ⊢
  refine ⟨_, rfl, s, dx, _, rfl, hs1, rfl, _, rfl, ?_⟩
  have rv1 : RV C (fun b => X b ∨ b = s) H v x := rv.grow fun a z => z.elim .inl fun e => .inr (by rw [e]; exact hs)
  refine ⟨fun b => X b ∨ b = s, s, dx, v, x, 0, 0, rfl, hs1, rv1.fr f1.no, .inr rfl, by decide, fun u H' f2 hs2 r2 => ?_⟩
  exact q u H' (f1.drop f2 fun q e => by rw [e]; exact hs) r2
end
end My
namespace My
open PySem PySem.Spec PyProof.Rows L2 TL
/-! ### a method's call within a try -/
section
variable {X : Cx} {CX : CXT} {k : Nat} {f C : Addr} {fd : FuncData} {ps : List Str} {sp : Sp} {E : L2.St → XK} {m : Str} {o e : Expr} {es : List Expr} {ta : TE} {t : TA} {apos pos : Pos}
def tMethT (C : Addr) (m : Str) (sp : Sp) (E : L2.St → XK) (ta : TE) (t : TA) : TE := fun σ H Q => ta σ H fun x H1 => ∃ a dx fs, x = .ref a ∧ H1 a = some (.ins C dx fs) ∧ fs.lookup m = none ∧ t σ H1 fun vs H2 => sp (x :: vs) H2 Q (E σ)
theorem pe_methT {pl : Sem Bool} (he : PE X o ta) (c : Cls X.K C) (hm : Meth X.K C m f) (F : FnOk X.prog X.w X.K X.mg X.base CX k f fd ps sp) (hr : Room k X.A) (hb : Binds X.K fd ps []) (hx : ∀ σ, PassesAt CX X σ (E σ)) (ha : PA X (e :: es) t)
    (hst : starEach (e :: es) X.env = (false, eval e X.env) :: starEach es X.env := by rfl) (hpl : (backTo pos (starEach es X.env)).any (·.1) = false := by rfl)
    (ht : eval (.Call (.Attribute o m apos) (e :: es) [] pos) X.env = (do
      let ov ← eval o X.env
      standAt apos.atName
      let (f, first) ← holding [ov] (getMethod ov m pl)
      callWith pos f first (backTo pos (starEach (e :: es) X.env)) (backToKw pos (keywordEach [] X.env))) := by rfl) :
    PE X (.Call (.Attribute o m apos) (e :: es) [] pos) (tMethT C m sp E ta t) := by
  refine ⟨fun pins s σ H Q I h => ?_⟩
  refine PySem.W.methodCall_KW (pl := pl) (thn (he.run pins s σ H _ I h) fun u s1 ⟨x, H1, I1, rx, a, dx, fs, ex, ea, l, q⟩ => ?_) ht
  subst ex
  obtain rfl : u = Value.ref a := rx
  refine getmeth_ok I1 ea c hm l ?_
  refine PySem.W.callWith_K (first := [.ref a]) (h₀ := X.base) I.ok.mod.kin hm.kp (thn (ha.run pos pins s1 σ H1 _ I1 q) fun us s2 ⟨vs, H2, I2, r, q2⟩ => ⟨I2.kIn, ?_⟩) hst hpl
  exact run_fnS (us := .ref a :: us) (vs := .ref a :: vs) F hr hb (hx σ) I2 (.cons rfl r) q2
end
theorem seq_of {t u : TS} {D : Ends} {σ : L2.St} {H : Hp} (h : t { D with nx := u D } σ H) : tSeq t u D σ H := h
theorem while_n {c : TT} {tb : TS} {D : Ends} {σ : L2.St} {H : Hp} (Pv : Nat → L2.St → Hp → Prop) (m0 : Nat) (h0 : Pv m0 σ H)
    (hs : ∀ m σ H, Pv m σ H → c σ H fun b H1 => if b = true then tb { D with nx := fun σ' H' => ∃ m', m' < m ∧ Pv m' σ' H', ct := fun σ' H' => ∃ m', m' < m ∧ Pv m' σ' H', bk := D.nx } σ H1 else D.nx σ H1)
    (mono : ∀ σ H Q Q', (∀ b H1, Q b H1 → Q' b H1) → c σ H Q → c σ H Q') : tWhile c tb D σ H := by
  refine ⟨Pv, ⟨m0, h0⟩, fun m σ H p => mono σ H _ _ (fun b H1 q => ?_) (hs m σ H p)⟩
  cases b with
  | true => exact ⟨_, fun σ' H' z => z, q⟩
  | false => exact q
abbrev sRin : Stmt := inClass (top 15) 0
abbrev sPin : Stmt := inClass (top 36) 0
abbrev sCar : Stmt := inClass (top 36) 1
abbrev sCop : Stmt := inClass (top 15) 3
def spRin (C : Addr) : Sp := fun vs H Q _ => ∃ (x dx : Addr) (m : Int), vs = [.ref x, .int m] ∧ H x = some (.ins C dx []) ∧
  ∀ D H', H D = none → Fr (fun b => b = x) H H' → H' D = some (.dT []) → H' x = some (.ins C dx [("most", .int m), ("steps", .int 0), ("defined", .ref D)]) → Q .non H'
def spPin (CP : Addr) : Sp := fun vs H Q _ => ∃ (x dx : Addr) (m : Int), vs = [.ref x, .int m] ∧ H x = some (.ins CP dx []) ∧
  ∀ D T S H', H D = none → H T = none → H S = none → T ≠ S → Fr (fun b => b = x) H H' → H' D = some (.dT []) → H' T = some (.lst []) → H' S = some (.lst []) → H' x = some (.ins CP dx [("most", .int m), ("steps", .int 0), ("defined", .ref D), ("todo", .ref T), ("results", .ref S)]) → Q .non H'
/-- the loop -/
def runF : Nat → Wd → Nat → List Tk → List Vl → Option (Except (List Str × Nat) (Nat × List Vl))
  | 0, _, _, _, _ => none
  | _ + 1, _, n, [], res => some (.ok (n, res))
  | k + 1, m, n, tk :: todo, res => match actF m tk n todo res with
    | .stuck => none
    | .err ws n' => some (.error (ws, n'))
    | .ok n' todo' res' => runF k m n' todo' res'
def spCar (CP : Addr) (F : Acts) (C : Cs) (En P1 : Addr) : Sp := fun vs H Q E => ∃ (X : Addr → Prop) (p : Pn) (m : Wd) (n : Nat) (c : V) (t : Tr) (k : Nat), vs = [.ref p.R, c] ∧ PRn CP F C X H p m n [] [] ∧ RT H c t ∧ widT t ∧ GxR.TabG H P1 ∧
  (match runF k m n [⟨.begin, t, []⟩] [] with
  | some (.ok (n', [v])) => ∀ u H', Fr X H H' → PRn CP F C X H' p m n' [] [] → RV C X H' u v → Q u H'
  | some (.error (ws, n')) => ∀ H1, Fr X H H1 → H1 p.R = some (.ins CP p.dx (flds p m n')) → erX No En ws H1 E
  | _ => False)
section
variable {P : Program} {w : World} {K : PySem.W.Frag} {mg : Str → Option Value} {base : Heap} {CP En P1 : Addr} {F : Acts} {C : Cs}
theorem scRin : FnScope ["self", "most"] ["self", "most"] (defScope sRin) := ⟨rfl, rfl, rfl, by decide +kernel, rfl, by decide +kernel, by decide +kernel⟩
theorem ok_rin {f C : Addr} {fd : FuncData} (Fn : Fun K "__init__" "Run.__init__" sRin f fd) (U : FldC K C ["most", "steps", "defined"]) : FnOk P w K mg base CX0 1 f fd ["self", "most"] (spRin C) := by
  refine Fn.ok scRin (fun vs H Q E h => ?_) (fun cdv A outer s H vs Q E hr h => ?_)
  · obtain ⟨x, dx, m, rfl, _⟩ := h
    rfl
  obtain ⟨x, dx, m, rfl, hx, q⟩ := h
  have nd := scRin.nd
  refine ⟨_, (pss_cons (ps_fld (pv 0) (pv 1) rfl)
    (pss_cons (ps_fld (pv 0) pe_int rfl)
    (pss_one (ps_fld (pv 0) pe_dnewT rfl)))), ?_⟩
  refine ⟨_, rfl, _, rfl, x, C, dx, _, rfl, hx, U.c, U.n _ (by simp), by decide, ?_⟩
  refine ⟨_, rfl, x, C, dx, _, rfl, upd_same, U.c, U.n _ (by simp), by show 1 < 1000; decide, fun D hD => ?_⟩
  rw [upd_upd] at hD ⊢
  have e1 : upd H x (.ins C dx [("most", .int m), ("steps", .int 0)]) x = some (.ins C dx [("most", .int m), ("steps", .int 0)]) := upd_same
  have f1 : Fr (fun b => b = x) H (upd H x (.ins C dx [("most", .int m), ("steps", .int 0)])) := Fr.set rfl hx rfl
  have nx : x ≠ D := ne_of_none e1 hD
  have e2 : upd (upd H x (.ins C dx [("most", .int m), ("steps", .int 0)])) D (.dT []) x = some (.ins C dx [("most", .int m), ("steps", .int 0)]) := by rw [upd_ne nx]; exact e1
  refine ⟨_, rfl, x, C, dx, _, rfl, e2, U.c, U.n _ (by simp), by show 2 < 1000; decide, ?_⟩
  exact q D _ (f1.dom hD) (f1.trans ((Fr.new hD).trans (Fr.set rfl e2 rfl))) (by rw [upd_ne (Ne.symm nx)]; exact upd_same) upd_same
theorem scPin : FnScope ["self", "most"] ["self", "most"] (defScope sPin) := ⟨rfl, rfl, rfl, by decide +kernel, rfl, by decide +kernel, by decide +kernel⟩
theorem ok_pin {f R fR : Addr} {fd dR : FuncData} (Fn : Fun K "__init__" "PlainRun.__init__" sPin f fd) (U : FldC K CP fR5) (GR : InitC P w K mg base 1 "Run" ["self", "most"] (spRin CP) R fR dR) : FnOk P w K mg base CX0 2 f fd ["self", "most"] (spPin CP) := by
  refine Fn.ok scPin (fun vs H Q E h => ?_) (fun cdv A outer s H vs Q E hr h => ?_)
  · obtain ⟨x, dx, m, rfl, _⟩ := h
    rfl
  obtain ⟨x, dx, m, rfl, hx, q⟩ := h
  have nd := scPin.nd
  refine ⟨_, (pss_cons (ps_expr (pe_initC GR hr rfl (pa_cons (pv 0) (pa_cons (pv 1) pa_nil))))
    (pss_cons (ps_fld (pv 0) (pe_lst pa_nil) rfl)
    (pss_one (ps_fld (pv 0) (pe_lst pa_nil) rfl)))), ?_⟩
  refine ⟨_, rfl, _, rfl, x, dx, m, rfl, hx, fun D H1 hD f1 d1 x1 => ?_⟩
  have nDx : D ≠ x := fun z => by rw [z, x1] at d1; cases d1
  refine ⟨by show 0 ≤ sizeLine; decide, fun T hT => ?_⟩
  have nT : x ≠ T := ne_of_none x1 hT
  have e2 : upd H1 T (.lst []) x = some (.ins CP dx [("most", .int m), ("steps", .int 0), ("defined", .ref D)]) := by rw [upd_ne nT]; exact x1
  refine ⟨_, rfl, x, CP, dx, _, rfl, e2, U.c, U.n _ (by simp), by show 3 < 1000; decide, ?_⟩
  have f2 : Fr (fun b => b = x) H1 (upd (upd H1 T (.lst [])) x (.ins CP dx [("most", .int m), ("steps", .int 0), ("defined", .ref D), ("todo", .ref T)])) := (Fr.new hT).trans (Fr.set rfl e2 rfl)
  have t2 : upd (upd H1 T (.lst [])) x (.ins CP dx [("most", .int m), ("steps", .int 0), ("defined", .ref D), ("todo", .ref T)]) T = some (.lst []) := by rw [upd_ne (Ne.symm nT)]; exact upd_same
  have x2 : upd (upd H1 T (.lst [])) x (.ins CP dx [("most", .int m), ("steps", .int 0), ("defined", .ref D), ("todo", .ref T)]) x = some (.ins CP dx [("most", .int m), ("steps", .int 0), ("defined", .ref D), ("todo", .ref T)]) := upd_same
  have ep : putF ("todo" : Str) (V.ref T) ([("most", .int m), ("steps", .int 0), ("defined", .ref D)] : List (Str × V)) = ([("most", .int m), ("steps", .int 0), ("defined", .ref D), ("todo", .ref T)] : List (Str × V)) := rfl
  rw [ep]
  generalize upd (upd H1 T (.lst [])) x (.ins CP dx [("most", .int m), ("steps", .int 0), ("defined", .ref D), ("todo", .ref T)]) = H2 at f2 t2 x2 ⊢
  refine ⟨by show 0 ≤ sizeLine; decide, fun S hS => ?_⟩
  have nS : x ≠ S := ne_of_none x2 hS
  have nTS : T ≠ S := ne_of_none t2 hS
  have e3 : upd H2 S (.lst []) x = some (.ins CP dx [("most", .int m), ("steps", .int 0), ("defined", .ref D), ("todo", .ref T)]) := by rw [upd_ne nS]; exact x2
  refine ⟨_, rfl, x, CP, dx, _, rfl, e3, U.c, U.n _ (by simp), by show 4 < 1000; decide, ?_⟩
  have f3 : Fr (fun b => b = x) H2 (upd (upd H2 S (.lst [])) x (.ins CP dx [("most", .int m), ("steps", .int 0), ("defined", .ref D), ("todo", .ref T), ("results", .ref S)])) := (Fr.new hS).trans (Fr.set rfl e3 rfl)
  have ht : H T = none := f1.dom hT
  have hs : H S = none := f1.dom (f2.dom hS)
  have d2 := f2.keep nDx rfl d1
  have d3 := f3.keep nDx rfl d2
  refine q D T S _ hD ht hs nTS (f1.trans (f2.trans f3)) d3 ?_ ?_ upd_same
  · rw [upd_ne (Ne.symm nT), upd_ne nTS]; exact t2
  · rw [upd_ne (Ne.symm nS)]; exact upd_same
theorem scCar : FnScope ["self", "core", "action", "tree", "variables"] ["self", "core"] (defScope sCar) := ⟨rfl, rfl, rfl, by decide +kernel, rfl, by decide +kernel, by decide +kernel⟩
theorem ok_car {f fE : Addr} {fd dE : FuncData} (Fn : Fun K "carry_out" "PlainRun.carry_out" sCar f fd) (U : FldC K CP fR5) (G : ActG mg F)
    (H1 : HeldX P w K mg base 5 F.bg (spA CP F C En P1 (fun _ => True) goB)) (H2 : HeldX P w K mg base 5 F.el (spA CP F C En P1 (fun t => word t = "let") goEl)) (H3 : HeldX P w K mg base 5 F.ei (spA CP F C En P1 (fun t => word t = "if") goEi)) (H4 : HeldX P w K mg base 5 F.ec (spA CP F C En P1 (fun t => word t = "call") goEc)) :
    FnOk P w K mg base (L2.CX P w) 6 f fd ["self", "core"] (spCar CP F C En P1) := by
  refine Fn.okX scCar (fun vs H Q E h => ?_) (fun cdv A outer s H vs Q E hr h => ?_)
  · obtain ⟨X, p, m, n, c, t, k, rfl, _⟩ := h
    rfl
  obtain ⟨X, p, m, n, c, t, k, rfl, st, rt, wt, tg, q⟩ := h
  have nd := scCar.nd
  have hu := hu_of hr
  have held : ∀ g sp, ((g = F.bg ∧ sp = spA CP F C En P1 (fun _ => True) goB) ∨ (g = F.el ∧ sp = spA CP F C En P1 (fun t => word t = "let") goEl) ∨ (g = F.ei ∧ sp = spA CP F C En P1 (fun t => word t = "if") goEi) ∨ (g = F.ec ∧ sp = spA CP F C En P1 (fun t => word t = "call") goEc)) → HeldX P w K mg base 5 g sp := by
    rintro g sp (⟨rfl, rfl⟩ | ⟨rfl, rfl⟩ | ⟨rfl, rfl⟩ | ⟨rfl, rfl⟩)
    · exact H1
    · exact H2
    · exact H3
    · exact H4
  refine ⟨_, (pss_cons (ps_expr (pe_bm PySem.F.plainAttrs_list PySem.F.slot_list_append PySem.F.type_list_append mt_append (pe_fld (pv 0) rfl) (pa_cons (pe_tup (pa_cons (pe_glob (v := .ref F.bg) rfl G.bg rfl) (pa_cons (pv 1) (pa_cons pe_dnewK pa_nil)))) pa_nil)))
    (pss_cons (ps_while (passes_of rfl) (pt_truth (pe_fld (pv 0) rfl) (by intro _; rfl))
      (pss_cons (ps_asg (pe_bm0 PySem.F.plainAttrs_list PySem.F.slot_list_pop PySem.F.type_list_pop mt_pop (pe_fld (pv 0) rfl)) (pg_tup rfl (pgs_cons (pg_name (i := 2) nd rfl (Or.inl rfl)) (pgs_cons (pg_name (i := 3) nd rfl (Or.inl rfl)) (pgs_cons (pg_name (i := 4) nd rfl (Or.inl rfl)) pgs_nil)))))
      (pss_one (ps_expr (pe_callAX (i := 2) held hr rfl (.inl rfl) (passes_call (takes_of rfl rfl rfl rfl) fun _ _ _ _ h => h) (pa_cons (pv 0) (pa_cons (pv 3) (pa_cons (pv 4) pa_nil))))))))
    (pss_one (ps_ret (pe_bm0 PySem.F.plainAttrs_list PySem.F.slot_list_pop PySem.F.type_list_pop mt_pop (pe_fld (pv 0) rfl)))))), ?_⟩
  obtain ⟨us, t1, t2⟩ := st.t
  cases us with
  | cons _ _ => have := t2.len; cases this
  | nil =>
  refine ⟨_, rfl, p.R, CP, p.dx, _, _, rfl, st.r, U.c, U.n _ (by simp), rfl, .inl ⟨rfl, _, SqL.of t1⟩, ?_⟩
  refine ⟨_, rfl, fun d hd => ⟨by show 3 ≤ sizeLine; decide, fun t0 ht0 => ?_⟩⟩
  have f0 : Fr No H (upd H d (.dK [])) := Fr.new hd
  have st0 := st.fr f0
  have re0 : REn C X (upd H d (.dK [])) d [] := ⟨[], upd_same, fun z => st.dom d z hd, .nil, Nat.zero_le _⟩
  obtain ⟨g1, st1, f1⟩ := st0.pushT (act := .begin) (t0 := t0) (ts := []) (f0.keep (fun z => z) rfl t1) .nil ht0 (rt.keep f0.tup) wt re0
  refine ⟨p.T, _, _, rfl, rfl, g1, by decide, ?_⟩
  have f01 : Fr X H (upd (upd (upd H d (.dK [])) t0 (.tup [.ref F.bg, c, .ref d])) p.T (.lst ([] ++ [.ref t0]))) := f0.no.trans f1
  have st1 : PRn CP F C X (upd (upd (upd H d (.dK [])) t0 (.tup [.ref F.bg, c, .ref d])) p.T (.lst ([] ++ [.ref t0]))) p m n [⟨.begin, t, []⟩] [] := st1
  generalize upd (upd (upd H d (.dK [])) t0 (.tup [.ref F.bg, c, .ref d])) p.T (.lst ([] ++ [.ref t0])) = H1 at f01 st1 ⊢
  generalize hr0 : runF k m n [⟨.begin, t, []⟩] [] = r at q
  dsimp only
  refine seq_of (while_n (fun kk σ H' => ∃ (n0 : Nat) (todo : List Tk) (res : List Vl) (v2 v3 v4 : Option V), σ = [some (.ref p.R), some c, v2, v3, v4] ∧ PRn CP F C X H' p m n0 todo res ∧ Fr X H H' ∧ runF kk m n0 todo res = r) k
    ⟨n, _, _, none, none, none, rfl, st1, f01, hr0⟩ ?_ ?_)
  · rintro kk σ H' ⟨n0, todo, res, v2, v3, v4, rfl, st', f', er⟩
    cases kk with
    | zero =>
      unfold runF at er
      rw [← er] at q
      exact q.elim
    | succ kk =>
    obtain ⟨ts, s1, s2⟩ := st'.t
    refine ⟨_, rfl, p.R, CP, p.dx, _, _, rfl, st'.r, U.c, U.n _ (by simp), rfl, !ts.isEmpty, .inl ⟨_, SqL.of s1, rfl⟩, ?_⟩
    cases todo with
    | nil =>
      cases s2
      unfold runF at er
      rw [← er] at q
      obtain ⟨rs, r1, r2⟩ := st'.s
      match res, q, r2, st' with
      | [v], q, r2, st' =>
      cases r2 with
      | cons rv r3 =>
      cases r3
      refine iteF ?_
      refine ⟨_, rfl, p.R, CP, p.dx, _, _, rfl, st'.r, U.c, U.n _ (by simp), rfl, .inl ⟨rfl, _, SqL.of r1⟩, p.S, _, _, rfl, rfl, r1, rfl, ?_⟩
      have g := st'.setS (rs := []) (res' := []) .nil
      exact q _ _ (f'.trans g.2) g.1 (rv.fr g.2)
    | cons tk todo =>
      obtain ⟨v, ws, rfl, ⟨a, cc, e, rfl, ha, rt', wt', re'⟩, al⟩ := s2.last
      have ie : (!(ws ++ [V.ref a]).isEmpty) = true := by cases ws <;> rfl
      rw [ie]
      refine iteT ?_
      refine ⟨_, rfl, p.R, CP, p.dx, _, _, rfl, st'.r, U.c, U.n _ (by simp), rfl, .inl ⟨rfl, _, SqL.of s1⟩, p.T, _, .ref a, rfl, rfl, s1, by simp, ?_⟩
      rw [List.dropLast_concat]
      obtain ⟨st2, f2⟩ := st'.setT (ts := ws) (todo' := todo) al
      have ha2 := f2.tup _ _ ha
      have rt2 := rt'.keep f2.tup
      have re2 := re'.fr f2
      have ff := f'.trans f2
      have tg2 := ff.sm.tab _ tg
      generalize upd H' p.T (.lst ws) = H2 at st2 f2 ha2 rt2 re2 ff tg2 ⊢
      refine ⟨a, _, rfl, SqT.of ha2, rfl, _, _, rfl, ?_⟩
      refine ⟨_, _, rfl, ?_⟩
      refine ⟨_, _, rfl, rfl, ?_⟩
      unfold runF at er
      have nst : actF m tk n0 todo res ≠ .stuck := fun z => by rw [z] at er; rw [← er] at q; exact q
      have done : ∀ (ok : Tr → Prop) (go : Wd → Tr → List (Int × Vl) → Nat → List Tk → List Vl → PRes), ok tk.t → go m tk.t tk.env n0 todo res = actF m tk n0 todo res →
          spA CP F C En P1 ok go [.ref p.R, cc, .ref e] H2 (fun v' H'' => ∃ m', m' < kk + 1 ∧ ∃ (n0 : Nat) (todo : List Tk) (res : List Vl) (w2 w3 w4 : Option V), [some (V.ref p.R), some c, some (V.ref (F.at tk.act)), some cc, some (V.ref e)] = [some (.ref p.R), some c, w2, w3, w4] ∧ PRn CP F C X H'' p m n0 todo res ∧ Fr X H H'' ∧ runF m' m n0 todo res = r) E := by
        intro ok go okt eg
        refine ⟨X, p, m, n0, todo, res, cc, tk.t, e, tk.env, rfl, st2, rt2, wt', okt, re2, tg2, by rw [eg]; exact nst, fun n' t' r' ee H'' f'' st'' => ?_, fun ws' n' ee H'' f'' hR => ?_⟩
        · rw [eg] at ee
          rw [ee] at er
          exact ⟨kk, Nat.lt_succ_self _, n', t', r', _, _, _, rfl, st'', ff.trans f'', er⟩
        · rw [eg] at ee
          rw [ee] at er
          rw [← er] at q
          exact q H'' (ff.trans f'') hR
      cases hact : tk.act with
      | begin =>
        try rw [hact] at done
        refine ⟨F.bg, _, rfl, .inl ⟨rfl, rfl⟩, _, rfl, _, rfl, _, rfl, ?_⟩
        exact done (fun _ => True) goB trivial (by unfold actF; rw [hact]; rfl)
      | endLet =>
        try rw [hact] at done
        have ev : goEl m tk.t tk.env n0 todo res = actF m tk n0 todo res := by unfold actF; rw [hact]; rfl
        have wl : word tk.t = "let" := by
          have n2 := nst
          rw [← ev] at n2
          unfold goEl endLetF at n2
          cases ht : tk.t with
          | let_ _ _ _ => rfl
          | _ => rw [ht] at n2; exact absurd rfl n2
        refine ⟨F.el, _, rfl, .inr (.inl ⟨rfl, rfl⟩), _, rfl, _, rfl, _, rfl, ?_⟩
        exact done (fun t => word t = "let") goEl wl ev
      | endIf =>
        try rw [hact] at done
        have ev : goEi m tk.t tk.env n0 todo res = actF m tk n0 todo res := by unfold actF; rw [hact]; rfl
        have wl : word tk.t = "if" := by
          have n2 := nst
          rw [← ev] at n2
          unfold goEi endIfF at n2
          cases ht : tk.t with
          | if_ _ _ _ => rfl
          | _ => rw [ht] at n2; exact absurd rfl n2
        refine ⟨F.ei, _, rfl, .inr (.inr (.inl ⟨rfl, rfl⟩)), _, rfl, _, rfl, _, rfl, ?_⟩
        exact done (fun t => word t = "if") goEi wl ev
      | endCall =>
        try rw [hact] at done
        have ev : goEc m tk.t tk.env n0 todo res = actF m tk n0 todo res := by unfold actF; rw [hact]; rfl
        have wl : word tk.t = "call" := by
          have n2 := nst
          rw [← ev] at n2
          unfold goEc endCallF at n2
          cases ht : tk.t with
          | call _ _ => rfl
          | _ => rw [ht] at n2; exact absurd rfl n2
        refine ⟨F.ec, _, rfl, .inr (.inr (.inr ⟨rfl, rfl⟩)), _, rfl, _, rfl, _, rfl, ?_⟩
        exact done (fun t => word t = "call") goEc wl ev
  · rintro σ H0 Q1 Q2 hm hh
    obtain ⟨x, e, a, C', dx, fs, v, h1, h2, h3, h4, h5, kk, h6, h7⟩ := hh
    exact ⟨x, e, a, C', dx, fs, v, h1, h2, h3, h4, h5, kk, h6, hm _ _ h7⟩
end
end My
namespace My
open PySem PySem.Spec PyProof.Rows L2 TL
/-! ### readings that name K -/
section
variable {X : Cx} {K : PySem.W.Frag}
theorem pe_fldK {e : Expr} {ta : TE} {f : Str} {pos : Pos} (hK : X.K = K) (he : PE X e ta) (hb : attributeBase e f X.env (eval e X.env) = eval e X.env) : PE X (.Attribute e f pos) (tFld K ta f) := by
  subst hK; exact pe_fld he hb
theorem pi_listK {tg e : Expr} {ta : TE} (hK : X.K = K) (he : PE X e ta) : PI X tg e (iList K ta) := by
  subst hK; exact pi_list he
end
/-! ### the program: its definitions, then the last part -/
abbrev NCop : List Str := ["self", "definitions", "last", "module", "name", "body", "end"]
structure EndC (K : PySem.W.Frag) (mg : Str → Option Value) (En : Addr) : Prop where
  g : mg "Ended" = some (.ref En)
  x : XfC K En
  n : PySem.W.findIn K (.ref En) "outcome" = some none
  te : PySem.W.exmOne K (.ref En) (.ref En) = some true
/-- what a run is: its states between two parts that are carried out -/
structure CoD (C : Cs) (CR : Addr) where
  σ : Type
  β : Type
  self : Addr
  D : Addr
  RB : Hp → V → β → Prop
  run : Gl → σ → β → Option (Except (List Str × σ) (σ × Vl))
  I : (Addr → Prop) → Hp → σ → Gl → Prop
  J : Hp → σ → Prop
  keepB : ∀ {H H' : Hp} {v : V} {b : β}, KpT H H' → RB H v b → RB H' v b
  noI : ∀ {X : Addr → Prop} {H H' : Hp} {s : σ} {gl : Gl}, Fr No H H' → I X H s gl → I X H' s gl
  noJ : ∀ {H H' : Hp} {s : σ}, Fr No H H' → J H s → J H' s
  obj : ∀ {X : Addr → Prop} {H : Hp} {s : σ} {gl : Gl}, I X H s gl → ∃ dx fs, H self = some (.ins CR dx fs) ∧ fs.lookup ("carry_out" : Str) = none ∧ fs.lookup ("defined" : Str) = some (.ref D)
  df : ∀ {X : Addr → Prop} {H : Hp} {s : σ} {gl : Gl}, I X H s gl → RDf C X H D gl ∧ X D
  put : ∀ {X : Addr → Prop} {H : Hp} {s : σ} {gl : Gl} {kvs : List (List Key × V)} {k : Str × Str} {v : V} {x : Vl}, I X H s gl → H D = some (.dT kvs) → RV C X H v x → I X (upd H D (.dT (putK kvs (glK k) v))) s (glPut k x gl)
  toJ : ∀ {X : Addr → Prop} {H : Hp} {s : σ} {gl : Gl}, I X H s gl → J H s
  grow : ∀ {X : Addr → Prop} {H : Hp} {s : σ} {gl : Gl}, I X H s gl → ∀ b, X b → H b ≠ none
section
variable {C : Cs} {CR : Addr}
/-- what follows a part -/
def coPost (En : Addr) (cd : CoD C CR) (X : Addr → Prop) (H : Hp) (gl : Gl) (Q : VK) (E : XK) : Option (Except (List Str × cd.σ) (cd.σ × Vl)) → Prop
  | some (.ok (s', x)) => ∀ (X' : Addr → Prop) u H', Fr X H H' → (∀ b, X b → X' b) → (∀ b, X' b → X b ∨ H b = none) → cd.I X' H' s' gl → RV C X' H' u x → Q u H'
  | some (.error (ws, s')) => ∀ H1, Fr X H H1 → cd.J H1 s' → erX No En ws H1 E
  | none => False
def spCo {ι : Type} (En P1 : Addr) (cd : ι → CoD C CR) : Sp := fun vs H Q E => ∃ (i : ι) (X : Addr → Prop) (s : (cd i).σ) (gl : Gl) (v : V) (b : (cd i).β), vs = [.ref (cd i).self, v] ∧ (cd i).I X H s gl ∧ (cd i).RB H v b ∧ GxR.TabG H P1 ∧ coPost En (cd i) X H gl Q E ((cd i).run gl s b)
/-- the definitions one by one, then the last part -/
def progF (cd : CoD C CR) : List ((Str × Str) × cd.β) → cd.β → Gl → cd.σ → Option (Except (List Str × cd.σ) (cd.σ × Vl))
  | [], b, gl, s => cd.run gl s b
  | (k, d) :: ds, b, gl, s => match cd.run gl s d with
    | some (.ok (s', x)) => progF cd ds b (glPut k x gl) s'
    | some (.error e) => some (.error e)
    | none => none
/-- a definition as it stands in the list -/
def RDn (cd : CoD C CR) (H : Hp) (v : V) (d : (Str × Str) × cd.β) : Prop := ∃ (a : Addr) (c : V), v = .ref a ∧ H a = some (.tup [.str d.1.1, .str d.1.2, c]) ∧ cd.RB H c d.2
theorem RDn.keep {cd : CoD C CR} {H H' : Hp} (k : KpT H H') {v : V} {d : (Str × Str) × cd.β} (h : RDn cd H v d) : RDn cd H' v d := by
  obtain ⟨a, c, e, h1, h2⟩ := h
  exact ⟨a, c, e, k _ _ h1, cd.keepB k h2⟩
def spCop {ι : Type} (En P1 : Addr) (cd : ι → CoD C CR) : Sp := fun vs H Q _ => ∃ (i : ι) (X : Addr → Prop) (s : (cd i).σ) (l : Addr) (us : List V) (ds : List ((Str × Str) × (cd i).β)) (v : V) (b : (cd i).β), vs = [.ref (cd i).self, .ref l, v] ∧ (cd i).I X H s [] ∧ H l = some (.lst us) ∧ ¬ X l ∧ Als (RDn (cd i) H) us ds ∧ ds.length ≤ 1000 ∧ (cd i).RB H v b ∧ GxR.TabG H P1 ∧
  (match progF (cd i) ds b [] s with
  | some (.ok (s', x)) => ∀ t u H', Fr X H H' → (cd i).J H' s' → H' t = some (.tup [.str "value", u]) → RSh H' u (showF x 0 0).1 → Q (.ref t) H'
  | some (.error (ws, s')) => ∀ o H', Fr X H H' → (cd i).J H' s' → H' o = some (.tup (ws.map .str)) → Q (.ref o) H'
  | none => False)
end
theorem Fr.drop2 {X Y : Addr → Prop} {H H1 H' : Hp} (a : Fr X H H1) (b : Fr Y H1 H') (h : ∀ q, Y q → X q ∨ H q = none) : Fr X H H' := by
  refine ⟨⟨fun c o n t e => ?_, fun P z => b.sm.tab P (a.sm.tab P z), fun c e => a.dom (b.dom e)⟩, fun c xs e => b.tup _ _ (a.tup _ _ e)⟩
  exact b.keep (fun z => (h c z).elim n fun q => by rw [q] at e; cases e) t (a.keep n t e)
section
variable {P : Program} {w : World} {K : PySem.W.Frag} {mg : Str → Option Value} {base : Heap} {CP En P1 : Addr} {F : Acts} {C : Cs}
theorem glPut_len (k : Str × Str) (y : Vl) (gl : Gl) : (glPut k y gl).length ≤ gl.length + 1 := by
  unfold glPut
  split
  · rw [List.length_map]; omega
  · rw [List.length_append]; exact Nat.le_refl _
theorem scCop : FnScope NCop ["self", "definitions", "last"] (defScope sCop) := ⟨rfl, rfl, rfl, by decide +kernel, rfl, by decide +kernel, by decide +kernel⟩
theorem ok_cop {ι : Type} {CR f fC fS : Addr} {cd : ι → CoD C CR} {fd dC dS : FuncData} {x2 : Str} (Fn : Fun K "carry_out_program" "Run.carry_out_program" sCop f fd) (U : FldC K CR ["defined"]) (T : EndC K mg En) (MC : MCal P w K mg base (L2.CX P w) 70 CR "carry_out" ["self", x2] (spCo En P1 cd) fC dC)
    (GS : Cal P w K mg base CX0 62 "shown" ["value"] (spShn C) fS dS) : FnOk P w K mg base CX0 71 f fd ["self", "definitions", "last"] (spCop En P1 cd) := by
  refine Fn.ok scCop (fun vs H Q E h => ?_) (fun cdv A outer s H vs Q E hr h => ?_)
  · obtain ⟨i, X, s, l, us, ds, v, b, rfl, _⟩ := h
    rfl
  obtain ⟨i, X, s0, l, us, ds, last, b, rfl, hI, hl, nXl, al, ld, rb, tg, q⟩ := h
  have nd := scCop.nd
  have hu := hu_of hr
  have r2 := hr.mono (show 62 ≤ 70 by decide)
  refine ⟨_, pss_one (L2.ps_try_as (n := "end") (i := 6) (Wout := fun _ _ _ _ => False) rfl rfl nd rfl rfl (c := .ref En) ⟨rfl, by decide +kernel, .inl T.g⟩ (fun u s' ⟨a, B, sI, pins, σ, H, cls, d, e, I, nb, up, sky, na, os, ag, w⟩ => w.elim)
      (fun W pn xe tk po => pss_cons (ps_for (g := gTup K 3 (gCons (gName 3) (gCons (gName 4) (gCons (gName 5) gNil)))) po rfl (pi_listK (K := K) rfl (pv 1)) (pg_tup rfl (pgs_cons (pg_name (i := 3) nd rfl (Or.inl rfl)) (pgs_cons (pg_name (i := 4) nd rfl (Or.inl rfl)) (pgs_cons (pg_name (i := 5) nd rfl (Or.inl rfl)) pgs_nil))))
            (pss_one (ps_dput hu (pe_fldK (K := K) rfl (pv 0) rfl) (pe_tup (pa_cons (pv 3) (pa_cons (pv 4) pa_nil))) (pe_methT (pv 0) MC.c MC.m MC.ok hr MC.b (fun σ => passAt tk σ) (pa_cons (pv 5) pa_nil)) rfl)))
          (pss_one (ps_ret (pe_tup (pa_cons pe_str (pa_cons (pe_call GS.ok r2 rfl GS.g GS.k GS.b .nil pass0 (pa_cons (pe_methT (pv 0) MC.c MC.m MC.ok hr MC.b (fun σ => passAt tk σ) (pa_cons (pv 2) pa_nil)) pa_nil)) pa_nil))))))
      (fun a oe cls d pn hz hf => pss_one (ps_ret (pe_xf T.x T.n hz hf (pv 6))))), ?_⟩
  generalize hpr : progF (cd i) ds b [] s0 = pr at q
  refine ⟨_, rfl, l, rfl, ⟨_, SqL.of hl⟩, for_list (xs := us) (fun k σ H' => ∃ (v3 v4 v5 : Option V) (X' : Addr → Prop) (s : (cd i).σ) (gl : Gl), σ = [some (.ref (cd i).self), some (.ref l), some last, v3, v4, v5, none] ∧ (cd i).I X' H' s gl ∧ Fr X H H' ∧ (∀ b, X b → X' b) ∧ (∀ b, X' b → X b ∨ H b = none) ∧ progF (cd i) (ds.drop k) b gl s = pr ∧ gl.length ≤ k)
    ⟨none, none, none, X, s0, [], rfl, hI, Fr.refl _ _, fun b z => z, fun b z => .inl z, hpr, Nat.le_refl _⟩ (fun k σ H' _ ⟨_, _, _, _, _, _, _, _, f, _⟩ => SqL.of (f.keep nXl rfl hl)) ?_ ?_⟩
  · rintro k y σ H' hk ⟨v3, v4, v5, X', s, gl, rfl, hI', f', xa, xb, hp', lgl⟩
    obtain ⟨d, hd, ⟨a, c, rfl, ha, rc⟩⟩ := al.get hk
    have kl : k < ds.length := (List.getElem?_eq_some_iff.mp hd).1
    have hdrop : ds.drop k = d :: ds.drop (k + 1) := by
      rw [List.drop_eq_getElem_cons kl, (List.getElem?_eq_some_iff.mp hd).2]
    rw [hdrop] at hp'
    obtain ⟨⟨m, x⟩, bd⟩ := d
    unfold progF at hp'
    refine ⟨a, _, rfl, SqT.of (f'.tup _ _ ha), rfl, _, _, rfl, ?_⟩
    refine ⟨_, _, rfl, ?_⟩
    refine ⟨_, _, rfl, rfl, ?_⟩
    obtain ⟨dx, fs, o1, o2, o3⟩ := (cd i).obj hI'
    refine ⟨_, rfl, (cd i).self, dx, fs, rfl, o1, o2, _, rfl, ?_⟩
    refine ⟨i, X', s, gl, c, bd, rfl, hI', (cd i).keepB f'.tup rc, f'.sm.tab _ tg, ?_⟩
    cases hrun : (cd i).run gl s bd with
    | none =>
      rw [hrun] at hp'
      rw [← hp'] at q
      exact q.elim
    | some r =>
      rw [hrun] at hp'
      cases r with
      | error e =>
        obtain ⟨ws, s'⟩ := e
        dsimp only at hp'
        rw [← hp'] at q
        intro H1 f1 hJ H2 dd t f2 hdd e1 e2
        have f02 := f'.drop2 (f1.trans f2.no) xb
        exact ⟨true, T.te, fun _ a ha => ⟨_, rfl, rfl, rfl, dd, _, .ref t, rfl, e1, rfl, q t H2 f02 ((cd i).noJ f2 hJ) e2⟩, fun z => by cases z⟩
      | ok r =>
        obtain ⟨s', z⟩ := r
        dsimp only at hp'
        intro X2 u H2 f2 x2 x2n hI2 rv
        obtain ⟨dx2, fs2, p1, p2, p3⟩ := (cd i).obj hI2
        obtain ⟨⟨kvs, hD, rg⟩, XD⟩ := (cd i).df hI2
        refine ⟨_, rfl, (cd i).self, CR, dx2, _, _, rfl, p1, U.c, U.n _ (by simp), p3, _, rfl, _, rfl, by show 2 ≤ sizeLine; decide, fun t ht => ?_⟩
        have ft : Fr No H2 (upd H2 t (.tup [.str m, .str x])) := Fr.new ht
        have hD3 := ft.keep (fun z => z) rfl hD
        have hI3 := (cd i).noI ft hI2
        have rv3 := rv.fr ft.no
        have et : upd H2 t (.tup [.str m, .str x]) t = some (.tup [.str m, .str x]) := upd_same
        generalize upd H2 t (.tup [.str m, .str x]) = H3 at ft hD3 hI3 rv3 et ⊢
        have lk : kvs.length = gl.length := rg.len
        refine ⟨(cd i).D, _, rfl, .inr ⟨kvs, glK (m, x), t, hD3, rfl, et, Nat.lt_of_le_of_lt (show kvs.length ≤ 1000 by omega) (by decide), rfl⟩, ?_⟩
        have fD : Fr X2 H3 (upd H3 (cd i).D (.dT (putK kvs (glK (m, x)) u))) := Fr.set XD hD3 rfl
        have x0n : ∀ b, X2 b → X b ∨ H b = none := fun b q => (x2n b q).elim (xb b) fun n => .inr (f'.dom n)
        have f02 := (f'.drop2 f2 xb).trans ft.no
        have lp := glPut_len (m, x) z gl
        exact ⟨_, _, _, X2, s', glPut (m, x) z gl, rfl, (cd i).put hI3 hD3 rv3, f02.drop2 fD x0n, fun b q => x2 b (xa b q), x0n, hp', by omega⟩
  · rintro σ H' ⟨v3, v4, v5, X', s, gl, rfl, hI', f', xa, xb, hp', lgl⟩
    have lu := al.len
    rw [lu, List.drop_length] at hp'
    unfold progF at hp'
    obtain ⟨dx, fs, o1, o2, o3⟩ := (cd i).obj hI'
    refine ⟨_, rfl, (cd i).self, dx, fs, rfl, o1, o2, _, rfl, ?_⟩
    refine ⟨i, X', s, gl, last, b, rfl, hI', (cd i).keepB f'.tup rb, f'.sm.tab _ tg, ?_⟩
    rw [hp']
    match pr, q with
    | some (.ok (s', x)), q =>
      intro X2 u H2 f2 x2 x2n hI2 rv
      refine ⟨X2, u, x, rfl, rv, fun u2 H3 f3 rs => ⟨by show 2 ≤ sizeLine; decide, fun t ht => ?_⟩⟩
      have ft : Fr No H3 (upd H3 t (.tup [.str "value", u2])) := Fr.new ht
      exact q t u2 _ ((f'.drop2 f2 xb).trans (f3.trans ft).no) ((cd i).noJ (f3.trans ft) ((cd i).toJ hI2)) upd_same (rs.keep ft.tup)
    | some (.error (ws, s')), q =>
      intro H1 f1 hJ H2 dd t f2 hdd e1 e2
      exact ⟨true, T.te, fun _ a ha => ⟨_, rfl, rfl, rfl, dd, _, .ref t, rfl, e1, rfl, q t H2 (f'.drop2 (f1.trans f2.no) xb) ((cd i).noJ f2 hJ) e2⟩, fun z => by cases z⟩
end
end My
namespace My
open PySem PySem.Spec PyProof.Rows L2 TL
/-! ### run_plain -/
theorem FnOk.imp {P : Program} {w : World} {K : PySem.W.Frag} {mg : Str → Option Value} {base : Heap} {CX : CXT} {k : Nat} {f : Addr} {fd : FuncData} {ps : List Str} {sp sp' : Sp} (F : FnOk P w K mg base CX k f fd ps sp) (h : ∀ vs H Q E, sp' vs H Q E → sp vs H Q E) : FnOk P w K mg base CX k f fd ps sp' :=
  ⟨fun vs H Q E z => F.1 vs H Q E (h _ _ _ _ z), fun a b c d e f g i j k l m n z => F.2 a b c d e f g i j k l m n (h _ _ _ _ z)⟩
def plRun (k m : Nat) (gl : Gl) (n : Nat) (t : Tr) : Option (Except (List Str × Nat) (Nat × Vl)) := match runF k ⟨m, gl⟩ n [⟨.begin, t, []⟩] [] with
  | some (.ok (n', [v])) => some (.ok (n', v))
  | some (.error e) => some (.error e)
  | _ => none
structure IxP where
  p : Pn
  m : Nat
  k : Nat
section
variable {CP : Addr} {F : Acts} {C : Cs}
theorem PRn.put {X : Addr → Prop} {H : Hp} {p : Pn} {m n : Nat} {gl : Gl} {kvs : List (List Key × V)} {k : Str × Str} {v : V} {x : Vl} (h : PRn CP F C X H p ⟨m, gl⟩ n [] []) (XD : X p.D) (hD : H p.D = some (.dT kvs)) (rv : RV C X H v x) :
    PRn CP F C X (upd H p.D (.dT (putK kvs (glK k) v))) p ⟨m, glPut k x gl⟩ n [] [] := by
  obtain ⟨ts, t1, t2⟩ := h.t
  obtain ⟨rs, s1, s2⟩ := h.s
  obtain ⟨kvs', d1, d2⟩ := h.d
  rw [hD] at d1
  cases d1
  have f : Fr X H (upd H p.D (.dT (putK kvs (glK k) v))) := Fr.set XD hD rfl
  refine ⟨by rw [upd_ne (Ne.symm h.neRD)]; exact h.r, ⟨ts, by rw [upd_ne (Ne.symm h.neTD)]; exact t1, t2.mono fun _ _ r => r.fr f⟩, ⟨rs, by rw [upd_ne (Ne.symm h.neSD)]; exact s1, s2.fr f⟩, h.xr, h.xt, h.xs, ⟨_, upd_same, (d2.fr f).put (rv.fr f)⟩, h.ne, fun b z => f.dom' (h.dom b z)⟩
def cdP (CP : Addr) (F : Acts) (C : Cs) (i : IxP) : CoD C CP where
  σ := Nat
  β := Tr
  self := i.p.R
  D := i.p.D
  RB := fun H v t => RT H v t ∧ widT t
  run := plRun i.k i.m
  I := fun X H n gl => PRn CP F C X H i.p ⟨i.m, gl⟩ n [] [] ∧ X i.p.D
  J := fun H n => H i.p.R = some (.ins CP i.p.dx (flds i.p ⟨i.m, []⟩ n))
  keepB := fun k h => ⟨h.1.keep k, h.2⟩
  noI := fun f h => ⟨h.1.fr f, h.2⟩
  noJ := fun f h => f.keep (fun z => z) rfl h
  obj := fun h => ⟨_, _, h.1.r, rfl, rfl⟩
  df := fun h => ⟨h.1.d, h.2⟩
  put := fun h hD rv => ⟨h.1.put h.2 hD rv, h.2⟩
  toJ := fun h => h.1.r
  grow := fun h b z => h.1.dom b z
theorem car_co {En P1 : Addr} : ∀ vs H Q E, spCo En P1 (cdP CP F C) vs H Q E → spCar CP F C En P1 vs H Q E := by
  rintro vs H Q E ⟨⟨p, m, k⟩, X, n, gl, c, t, rfl, ⟨st, xD⟩, ⟨rt, wt⟩, tg, q⟩
  refine ⟨X, p, ⟨m, gl⟩, n, c, t, k, rfl, st, rt, wt, tg, ?_⟩
  have q : coPost En (cdP CP F C ⟨p, m, k⟩) X H gl Q E (plRun k m gl n t) := q
  unfold plRun at q
  generalize runF k ⟨m, gl⟩ n [⟨.begin, t, []⟩] [] = r at q ⊢
  match r, q with
  | some (.ok (n', [v])), q => exact fun u H' f st' rv => q X u H' f (fun b z => z) (fun b z => .inl z) ⟨st', xD⟩ rv
  | some (.error (ws, n')), q => exact fun H1 f e => q H1 f e
end
abbrev sRp : Stmt := top 37
/-- a definition as it is handed in -/
def RDp (H : Hp) (v : V) (d : (Str × Str) × Tr) : Prop := ∃ (a : Addr) (c : V), v = .ref a ∧ H a = some (.tup [.str d.1.1, .str d.1.2, c]) ∧ RT H c d.2 ∧ widT d.2
theorem RDp.keep {H H' : Hp} (k : KpT H H') {v : V} {d : (Str × Str) × Tr} (h : RDp H v d) : RDp H' v d := by
  obtain ⟨a, c, e, h1, h2, h3⟩ := h
  exact ⟨a, c, e, k _ _ h1, h2.keep k, h3⟩
/-- the program by the plain run: steps and value, or the outcome -/
def plainF (k m : Nat) : List ((Str × Str) × Tr) → Tr → Gl → Nat → Option (Except (List Str × Nat) (Nat × Vl))
  | [], t, gl, n => plRun k m gl n t
  | (key, d) :: ds, t, gl, n => match plRun k m gl n d with
    | some (.ok (n', x)) => plainF k m ds t (glPut key x gl) n'
    | some (.error e) => some (.error e)
    | none => none
theorem progF_cons {C : Cs} {CR : Addr} (cd : CoD C CR) (key : Str × Str) (d : cd.β) (ds : List ((Str × Str) × cd.β)) (t : cd.β) (gl : Gl) (n : cd.σ) : progF cd ((key, d) :: ds) t gl n = (match cd.run gl n d with
    | some (.ok (s', x)) => progF cd ds t (glPut key x gl) s'
    | some (.error e) => some (.error e)
    | none => none) := rfl
theorem plainF_cons (k m : Nat) (key : Str × Str) (d : Tr) (ds : List ((Str × Str) × Tr)) (t : Tr) (gl : Gl) (n : Nat) : plainF k m ((key, d) :: ds) t gl n = (match plRun k m gl n d with
    | some (.ok (n', x)) => plainF k m ds t (glPut key x gl) n'
    | some (.error e) => some (.error e)
    | none => none) := rfl
theorem plainF_prog (CP : Addr) (F : Acts) (C : Cs) (i : IxP) : ∀ (ds : List ((Str × Str) × Tr)) (t : Tr) (gl : Gl) (n : Nat), progF (cdP CP F C i) ds t gl n = plainF i.k i.m ds t gl n
  | [], _, _, _ => rfl
  | (key, d) :: ds, t, gl, n => by
    rw [plainF_cons]
    refine (progF_cons (cdP CP F C i) key d ds t gl n).trans ?_
    have e : (cdP CP F C i).run gl n d = plRun i.k i.m gl n d := rfl
    rw [e]
    generalize plRun i.k i.m gl n d = r
    match r with
    | none => rfl
    | some (.error e) => rfl
    | some (.ok (s', x)) => exact plainF_prog CP F C i ds t _ _
def rpPost (H : Hp) (Q : VK) : Option (Except (List Str × Nat) (Nat × Vl)) → Prop
  | some (.ok (n', v)) => ∀ a o u H', Fr No H H' → H' a = some (.tup [.ref o, .int (n' : Nat)]) → H' o = some (.tup [.str "value", u]) → RSh H' u (showF v 0 0).1 → Q (.ref a) H'
  | some (.error (ws, n')) => ∀ a o H', Fr No H H' → H' a = some (.tup [.ref o, .int (n' : Nat)]) → H' o = some (.tup (ws.map .str)) → Q (.ref a) H'
  | none => False
def spRp (P1 : Addr) : Sp := fun vs H Q _ => ∃ (l : Addr) (us : List V) (ds : List ((Str × Str) × Tr)) (c : V) (m : Nat) (t : Tr) (k : Nat), vs = [.ref l, c, .int m] ∧ H l = some (.lst us) ∧ Als (RDp H) us ds ∧ ds.length ≤ 1000 ∧ RT H c t ∧ widT t ∧ GxR.TabG H P1 ∧ rpPost H Q (plainF k m ds t [] 0)
section
variable {P : Program} {w : World} {K : PySem.W.Frag} {mg : Str → Option Value} {base : Heap} {CP En P1 : Addr} {F : Acts} {C : Cs}
theorem scRp : FnScope ["definitions", "core", "most", "run", "outcome"] ["definitions", "core", "most"] (defScope sRp) := ⟨rfl, rfl, rfl, by decide +kernel, rfl, by decide +kernel, by decide +kernel⟩
theorem ok_rp {f fI fC : Addr} {fd dI dC : FuncData} (Fn : Fun K "run_plain" "run_plain" sRp f fd) (U : FldC K CP fR5) (MP : MkC P w K mg base 2 "PlainRun" ["self", "most"] (spPin CP) CP fI dI)
    (MC : MCal P w K mg base CX0 71 CP "carry_out_program" ["self", "definitions", "last"] (spCop En P1 (cdP CP F C)) fC dC) : FnOk P w K mg base CX0 72 f fd ["definitions", "core", "most"] (spRp P1) := by
  refine Fn.ok scRp (fun vs H Q E h => ?_) (fun cdv A outer s H vs Q E hr h => ?_)
  · obtain ⟨l, us, ds, c, m, t, k, rfl, _⟩ := h
    rfl
  obtain ⟨l, us, ds, c, m, t, k, rfl, hl, al, ld, rt, wt, tg, q⟩ := h
  have nd := scRp.nd
  have r3 := hr.mono (show 3 ≤ 71 by decide)
  refine ⟨_, (pss_cons (ps_set (i := 3) nd rfl (Or.inl rfl) (pe_make (E := fun _ _ _ => False) MP.m MP.ok r3 rfl MP.g MP.b .nil pass0 (pa_cons (pv 2) pa_nil)))
    (pss_cons (ps_set (i := 4) nd rfl (Or.inl rfl) (pe_meth (pv 3) MC.c MC.m MC.ok hr MC.b .nil pass0 (pa_cons (pv 0) (pa_cons (pv 1) pa_nil))))
    (pss_one (ps_ret (pe_tup (pa_cons (pv 4) (pa_cons (pe_fld (pv 3) rfl) pa_nil))))))), ?_⟩
  refine ⟨_, rfl, fun R dx hR hd ne => ⟨R, dx, m, rfl, upd_same, fun D T S H1 hD hT hS nTS f1 d1 t1 s1 r1 => ⟨rfl, ?_⟩⟩⟩
  have fx : Fr No H (upd (upd H dx (.own R)) R (.ins CP dx [])) := mk_fr hR hd ne
  have f01 : Fr No H H1 := fx.drop f1 fun b e => by rw [e]; exact hR
  have hT0 : H T = none := fx.dom hT
  have hS0 : H S = none := fx.dom hS
  have hD0 : H D = none := fx.dom hD
  have newX : ∀ b, (b = R ∨ b = T ∨ b = S ∨ b = D) → H b = none := fun b e => by
    rcases e with e | e | e | e <;> rw [e]
    · exact hR
    · exact hT0
    · exact hS0
    · exact hD0
  have st : PRn CP F C (fun b => b = R ∨ b = T ∨ b = S ∨ b = D) H1 ⟨R, dx, T, S, D⟩ ⟨m, []⟩ 0 [] [] := ⟨r1, ⟨[], t1, .nil⟩, ⟨[], s1, .nil⟩, .inl rfl, .inr (.inl rfl), .inr (.inr (.inl rfl)), ⟨[], d1, .nil⟩, nTS, fun b e => by
    rcases e with e | e | e | e <;> rw [e]
    · rw [r1]; simp
    · rw [t1]; simp
    · rw [s1]; simp
    · rw [d1]; simp⟩
  have nl : ¬ (l = R ∨ l = T ∨ l = S ∨ l = D) := fun z => by have := newX l z; rw [hl] at this; cases this
  refine ⟨_, rfl, R, dx, _, rfl, r1, rfl, _, rfl, _, rfl, ?_⟩
  refine ⟨⟨⟨R, dx, T, S, D⟩, m, k⟩, fun b => b = R ∨ b = T ∨ b = S ∨ b = D, (0 : Nat), l, us, ds, c, t, rfl, ⟨st, .inr (.inr (.inr rfl))⟩, f01.keep (fun z => z) rfl hl, nl, al.mono fun _ _ r => r.keep f01.tup, ld, ⟨rt.keep f01.tup, wt⟩, f01.sm.tab _ tg, ?_⟩
  rw [plainF_prog]
  dsimp only
  generalize plainF k m ds t [] 0 = r at q ⊢
  match r, q with
  | some (.ok (n', v)), q =>
    intro o u H2 f2 e2 ho rs
    refine ⟨_, rfl, _, rfl, R, CP, dx, _, _, rfl, e2, U.c, U.n _ (by simp), rfl, by show 2 ≤ sizeLine; decide, fun a ha => ?_⟩
    have fa : Fr No H2 (upd H2 a (.tup [.ref o, .int (n' : Nat)])) := Fr.new ha
    exact q a o u _ ((f01.drop (f2.trans fa.no) newX)) upd_same (fa.tup _ _ ho) (rs.keep fa.tup)
  | some (.error (ws, n')), q =>
    intro o H2 f2 e2 ho
    refine ⟨_, rfl, _, rfl, R, CP, dx, _, _, rfl, e2, U.c, U.n _ (by simp), rfl, by show 2 ≤ sizeLine; decide, fun a ha => ?_⟩
    have fa : Fr No H2 (upd H2 a (.tup [.ref o, .int (n' : Nat)])) := Fr.new ha
    exact q a o _ (f01.drop (f2.trans fa.no) newX) upd_same (fa.tup _ _ ho)
end
end My
namespace My
open PySem PySem.Spec PyProof.Rows L2 TL
/-! ### the plain run, step by step -/
theorem runF_ok {m : Wd} {k n n' : Nat} {tk : Tk} {todo todo' : List Tk} {res res' : List Vl} (h : actF m tk n todo res = .ok n' todo' res') : runF (k + 1) m n (tk :: todo) res = runF k m n' todo' res' := by
  conv => lhs; unfold runF
  rw [h]
theorem runF_err {m : Wd} {k n n' : Nat} {tk : Tk} {todo : List Tk} {res : List Vl} {ws : List Str} (h : actF m tk n todo res = .err ws n') : runF (k + 1) m n (tk :: todo) res = some (.error (ws, n')) := by
  conv => lhs; unfold runF
  rw [h]
theorem runF_nil {m : Wd} {k n : Nat} {res : List Vl} : runF (k + 1) m n [] res = some (.ok (n, res)) := by
  unfold runF
  rfl
theorem beg {t : Tr} {env : List (Int × Vl)} {m : Wd} {n : Nat} {todo : List Tk} {res : List Vl} (hm : n < m.m) : actF m ⟨.begin, t, env⟩ n todo res = partF m.gl t env (n + 1) todo res := by
  show beginF m t env n todo res = _
  unfold beginF
  rw [if_neg (Nat.not_le_of_lt hm)]
section
variable {env : List (Int × Vl)} {m : Wd} {n k : Nat} {todo : List Tk} {res : List Vl}
theorem room {a b : Nat} (ht : a < many) (hr : b < many) : ¬ (many ≤ a ∨ many ≤ b) := by omega
theorem run_int {i : Int} (hm : n < m.m) (ht : todo.length < many) (hr : res.length < many) (hi : i.natAbs ≤ 10 ^ 60) : runF (k + 1) m n (⟨.begin, .int i, env⟩ :: todo) res = runF k m (n + 1) todo (.int i :: res) := by
  refine runF_ok ((beg hm).trans ?_)
  unfold partF
  rw [if_neg (room ht hr)]
  show (if i.natAbs ≤ 10 ^ 60 then _ else _) = _
  rw [if_pos hi]
theorem run_prim {p : Str} (hm : n < m.m) (ht : todo.length < many) (hr : res.length < many) : runF (k + 1) m n (⟨.begin, .prim p, env⟩ :: todo) res = runF k m (n + 1) todo (.prim p :: res) := by
  refine runF_ok ((beg hm).trans ?_)
  unfold partF
  rw [if_neg (room ht hr)]
theorem run_fn {ns : List Int} {b : Tr} (hm : n < m.m) (ht : todo.length < many) (hr : res.length < many) : runF (k + 1) m n (⟨.begin, .fn ns b, env⟩ :: todo) res = runF k m (n + 1) todo (.fnP ns b env :: res) := by
  refine runF_ok ((beg hm).trans ?_)
  unfold partF
  rw [if_neg (room ht hr)]
theorem run_loc {x : Int} {v : Vl} (hm : n < m.m) (ht : todo.length < many) (hr : res.length < many) (hv : evGet x env = some v) : runF (k + 1) m n (⟨.begin, .loc x, env⟩ :: todo) res = runF k m (n + 1) todo (v :: res) := by
  refine runF_ok ((beg hm).trans ?_)
  unfold partF
  rw [if_neg (room ht hr)]
  dsimp only
  rw [hv]
theorem run_call {f : Tr} {ts : List Tr} (hm : n < m.m) (ht : todo.length < many) (hr : res.length < many) : runF (k + 1) m n (⟨.begin, .call f ts, env⟩ :: todo) res = runF k m (n + 1) (⟨.begin, f, env⟩ :: (bgs ts env ++ ⟨.endCall, .call f ts, env⟩ :: todo)) res := by
  refine runF_ok ((beg hm).trans ?_)
  unfold partF
  rw [if_neg (room ht hr)]
theorem run_let {ns : List Int} {ts : List Tr} {b : Tr} (hm : n < m.m) (ht : todo.length < many) (hr : res.length < many) : runF (k + 1) m n (⟨.begin, .let_ ns ts b, env⟩ :: todo) res = runF k m (n + 1) (bgs ts env ++ ⟨.endLet, .let_ ns ts b, env⟩ :: todo) res := by
  refine runF_ok ((beg hm).trans ?_)
  unfold partF
  rw [if_neg (room ht hr)]
theorem run_endLet {ns : List Int} {ts : List Tr} {b : Tr} {vs : List Vl} (hl : vs.length = ts.length) (hn : ns.length = ts.length) (he : env.length + ns.length ≤ 1000000) (ht : todo.length < many) : runF (k + 1) m n (⟨.endLet, .let_ ns ts b, env⟩ :: todo) (vs.reverse ++ res) = runF k m n (⟨.begin, b, evPuts ns vs env⟩ :: todo) res := by
  refine runF_ok ?_
  show endLetF (.let_ ns ts b) env n todo (vs.reverse ++ res) = _
  unfold endLetF
  have l0 : ts.length = vs.reverse.length := by rw [List.length_reverse, hl]
  dsimp only
  rw [if_pos ⟨by rw [List.length_append, ← l0]; omega, hn, he, ht⟩, l0, List.take_left, List.drop_left, List.reverse_reverse]
/-- a call of a primitive -/
def primR (name : Str) (vs : List Vl) (n : Nat) (todo : List Tk) (res : List Vl) : PRes := match chkF (.prim name) vs.length with
  | some ws => .err ws n
  | none => match primF name vs with
    | .ok y => .ok n todo (y :: res)
    | .error ws => .err ws n
theorem run_endCall {f : Tr} {ts : List Tr} {vs : List Vl} {name : Str} (hl : vs.length = ts.length) (h9 : ts.length ≤ 900) (ht : todo.length < many) (hr : vs.length + 1 + res.length < many) : actF m ⟨.endCall, .call f ts, env⟩ n todo (vs.reverse ++ .prim name :: res) = primR name vs n todo res := by
  show endCallF (.call f ts) n todo (vs.reverse ++ .prim name :: res) = _
  unfold endCallF
  have l0 : ts.length = vs.reverse.length := by rw [List.length_reverse, hl]
  dsimp only
  rw [l0, List.drop_left, List.take_left, List.reverse_reverse]
  dsimp only
  rw [List.length_reverse, if_pos ⟨by omega, ht, by rw [List.length_append, List.length_reverse, List.length_cons]; omega⟩]
  rfl
theorem primR_pair (x y : Vl) (n : Nat) (todo : List Tk) (res : List Vl) : primR "pair" [x, y] n todo res = .ok n todo (.pair x y :: res) := by
  unfold primR
  have e1 : chkF (.prim "pair") [x, y].length = none := by
    unfold chkF
    rw [if_pos (show (isF (Vl.prim "pair") || isR (Vl.prim "pair")) = true from rfl), if_pos (by show arP "pair" = 2; unfold arP; rw [if_neg (by decide +kernel)])]
  have e2 : primF "pair" [x, y] = .ok (.pair x y) := by
    unfold primF
    rw [if_pos (show ("pair" : Str) = "pair" from rfl)]
  rw [e1]
  dsimp only
  rw [e2]
end
end My
namespace My
open PySem PySem.Spec PyProof.Rows L2 TL
/-! ### the meaning of a tree: an evaluator with steps and depth, and the plain run by it -/
inductive Rs where
  | val (v : Vl)
  | out (ws : List Str)
abbrev Ev := List (Int × Vl)
/-- parts from left to right -/
def evL (r : Tr → Nat → Nat → Option (Rs × Nat × Nat)) : List Tr → Nat → Nat → Option ((List Vl ⊕ List Str) × Nat × Nat)
  | [], l, s => some (.inl [], l, s)
  | t :: ts, l, s => match r t l s with
    | some (.val v, l', s') => (match evL r ts l' s' with
      | some (.inl vs, z) => some (.inl (v :: vs), z)
      | some (.inr ws, z) => some (.inr ws, z)
      | none => none)
    | some (.out ws, z) => some (.inr ws, z)
    | none => none
/-- fuel, definitions, variables, tree, steps left, greatest depth so far, depth, in last place -/
def evT : Nat → Gl → Ev → Tr → Nat → Nat → Nat → Bool → Option (Rs × Nat × Nat)
  | 0, _, _, _, _, _, _, _ => none
  | f + 1, gl, env, t, left, s, d, last =>
    if left = 0 then some (.out ["steps"], 0, s) else
    match t with
    | .int i => if i.natAbs ≤ 10 ^ 60 then some (.val (.int i), left - 1, s) else none
    | .loc x => match evGet x env with
      | some v => some (.val v, left - 1, s)
      | none => none
    | .glob a b => match glGet (a, b) gl with
      | some v => some (.val v, left - 1, s)
      | none => some (.out ["error", "early"], left - 1, s)
    | .prim q => some (.val (.prim q), left - 1, s)
    | .fn ns b => some (.val (.fnP ns b env), left - 1, s)
    | .let_ ns ts b => if ts.length ≤ 60 ∧ ns.length = ts.length ∧ env.length + ns.length ≤ 1000000 then (match evL (fun t l s => evT f gl env t l s d false) ts (left - 1) s with
      | some (.inl vs, l', s') => evT f gl (evPuts ns vs env) b l' s' d last
      | some (.inr ws, z) => some (.out ws, z)
      | none => none) else none
    | .if_ a b c => match evT f gl env a (left - 1) s d false with
      | some (.val v, l', s') => evT f gl env (if zeroV v = true then c else b) l' s' d last
      | some (.out ws, z) => some (.out ws, z)
      | none => none
    | .call g ts => if ts.length ≤ 60 then (match evL (fun t l s => evT f gl env t l s d false) (g :: ts) (left - 1) s with
      | some (.inl (called :: vs), l', s') => (match chkF called vs.length with
        | some ws => some (.out ws, l', s')
        | none => match called with
          | .prim q => (match primF q vs with
            | .ok y => some (.val y, l', s')
            | .error ws => some (.out ws, l', s'))
          | .fnP ns b en => if en.length + ns.length ≤ 1000000 then evT f gl (evPuts ns vs en) b l' (max s' (d + if last then 0 else 1)) (d + if last then 0 else 1) true else none
          | _ => none)
      | some (.inl [], _) => none
      | some (.inr ws, z) => some (.out ws, z)
      | none => none) else none
/-- the plain run comes from here to there -/
def Goes (m : Nat) (gl : Gl) (n : Nat) (todo : List Tk) (res : List Vl) (n' : Nat) (todo' : List Tk) (res' : List Vl) : Prop := ∃ j, ∀ k, runF (k + j) ⟨m, gl⟩ n todo res = runF k ⟨m, gl⟩ n' todo' res'
def Ends (m : Nat) (gl : Gl) (n : Nat) (todo : List Tk) (res : List Vl) (n' : Nat) (ws : List Str) : Prop := ∃ j, ∀ k, runF (k + j) ⟨m, gl⟩ n todo res = some (.error (ws, n'))
section
variable {m : Nat} {gl : Gl} {n n' n1 : Nat} {todo todo' todo1 : List Tk} {res res' res1 : List Vl} {ws : List Str} {tk : Tk}
theorem Goes.refl : Goes m gl n todo res n todo res := ⟨0, fun _ => rfl⟩
theorem Goes.trans (a : Goes m gl n todo res n1 todo1 res1) (b : Goes m gl n1 todo1 res1 n' todo' res') : Goes m gl n todo res n' todo' res' := by
  obtain ⟨i, a⟩ := a
  obtain ⟨j, b⟩ := b
  exact ⟨j + i, fun k => by rw [← Nat.add_assoc, a, b]⟩
theorem Goes.ends (a : Goes m gl n todo res n1 todo1 res1) (b : Ends m gl n1 todo1 res1 n' ws) : Ends m gl n todo res n' ws := by
  obtain ⟨i, a⟩ := a
  obtain ⟨j, b⟩ := b
  exact ⟨j + i, fun k => by rw [← Nat.add_assoc, a, b]⟩
theorem Goes.one (h : actF ⟨m, gl⟩ tk n todo res = .ok n' todo' res') : Goes m gl n (tk :: todo) res n' todo' res' := ⟨1, fun k => runF_ok h⟩
theorem Ends.one (h : actF ⟨m, gl⟩ tk n todo res = .err ws n') : Ends m gl n (tk :: todo) res n' ws := ⟨1, fun k => runF_err h⟩
end
/-- a call by its values -/
def callR (n : Nat) (todo : List Tk) (res : List Vl) (called : Vl) (vs : List Vl) : PRes := match chkF called vs.length with
  | some ws => .err ws n
  | none => match called with
    | .prim q => (match primF q vs with
      | .ok y => .ok n todo (y :: res)
      | .error ws => .err ws n)
    | .fnP ns b en => if en.length + ns.length ≤ 1000000 then .ok n (⟨.begin, b, evPuts ns vs en⟩ :: todo) res else .stuck
    | _ => .stuck
/-- what the plain run does with a part whose meaning is r -/
def PlOk (m : Nat) (gl : Gl) (n : Nat) (start todo : List Tk) (res : List Vl) (l' : Nat) : Rs → Prop
  | .val v => Goes m gl n start res (m - l') todo (v :: res)
  | .out ws => Ends m gl n start res (m - l') ws
def PlsOk (m : Nat) (gl : Gl) (n k : Nat) (start todo : List Tk) (res : List Vl) (l' : Nat) : List Vl ⊕ List Str → Prop
  | .inl vs => vs.length = k ∧ Goes m gl n start res (m - l') todo (vs.reverse ++ res)
  | .inr ws => Ends m gl n start res (m - l') ws
def PlGo (f : Nat) : Prop := ∀ (gl : Gl) (env : Ev) (t : Tr) (l s d : Nat) (last : Bool) (r : Rs) (l' s' m : Nat) (todo : List Tk) (res : List Vl), evT f gl env t l s d last = some (r, l', s') → l ≤ m → todo.length + 64 * f < many → res.length + 64 * f < many →
  l' ≤ l ∧ PlOk m gl (m - l) (⟨.begin, t, env⟩ :: todo) todo res l' r
theorem plain_list {f : Nat} (IH : PlGo f) (gl : Gl) (env : Ev) (d m : Nat) : ∀ (ts : List Tr) (l s : Nat) (r : List Vl ⊕ List Str) (l' s' : Nat) (todo : List Tk) (res : List Vl), evL (fun t l s => evT f gl env t l s d false) ts l s = some (r, l', s') → l ≤ m → todo.length + ts.length + 64 * f < many → res.length + ts.length + 64 * f < many →
    l' ≤ l ∧ PlsOk m gl (m - l) ts.length (bgs ts env ++ todo) todo res l' r
  | [], l, s, r, l', s', todo, res, h, hl, _, _ => by
    cases h
    exact ⟨Nat.le_refl _, rfl, Goes.refl⟩
  | t :: ts, l, s, r, l', s', todo, res, h, hl, ht, hr => by
    unfold evL at h
    simp only [List.length_cons] at ht hr
    have lb : (bgs ts env ++ todo).length = ts.length + todo.length := by simp [bgs]
    cases h1 : evT f gl env t l s d false with
    | none => rw [h1] at h; cases h
    | some q =>
    obtain ⟨r1, l1, s1⟩ := q
    rw [h1] at h
    obtain ⟨a1, a2⟩ := IH gl env t l s d false r1 l1 s1 m (bgs ts env ++ todo) res h1 hl (by omega) (by omega)
    cases r1 with
    | out ws =>
      cases h
      exact ⟨a1, a2⟩
    | val v =>
    dsimp only at h
    have a2 : Goes m gl (m - l) (⟨.begin, t, env⟩ :: (bgs ts env ++ todo)) res (m - l1) (bgs ts env ++ todo) (v :: res) := a2
    cases h2 : evL (fun t l s => evT f gl env t l s d false) ts l1 s1 with
    | none => rw [h2] at h; cases h
    | some q =>
    obtain ⟨r2, l2, s2⟩ := q
    rw [h2] at h
    obtain ⟨b1, b2⟩ := plain_list IH gl env d m ts l1 s1 r2 l2 s2 todo (v :: res) h2 (by omega) (by omega) (by simp only [List.length_cons]; omega)
    cases r2 with
    | inr ws =>
      cases h
      exact ⟨by omega, a2.ends b2⟩
    | inl vs =>
      cases h
      obtain ⟨c1, c2⟩ := b2
      refine ⟨by omega, by rw [List.length_cons, c1]; rfl, ?_⟩
      rw [List.reverse_cons, List.append_assoc]
      exact a2.trans c2
theorem plain_sim : ∀ f, PlGo f
  | 0 => fun gl env t l s d last r l' s' m todo res h => by cases h
  | f + 1 => fun gl env t l s d last r l' s' m todo res h hl ht hr => by
    have IH := plain_sim f
    unfold evT at h
    by_cases l0 : l = 0
    · rw [if_pos l0] at h
      cases h
      refine ⟨Nat.zero_le _, Ends.one ?_⟩
      show beginF ⟨m, gl⟩ t env (m - l) todo res = _
      unfold beginF
      subst l0
      exact if_pos (show m ≤ m - 0 by omega)
    rw [if_neg l0] at h
    have hm : m - l < m := by omega
    have e1 : m - l + 1 = m - (l - 1) := by omega
    have rm : ¬ (many ≤ todo.length ∨ many ≤ res.length) := by omega
    have bg : ∀ {x : PRes}, partF gl t env (m - l + 1) todo res = x → actF ⟨m, gl⟩ ⟨.begin, t, env⟩ (m - l) todo res = x := fun e => (beg hm).trans e
    rw [e1] at bg
    cases t with
    | int i =>
      dsimp only at h
      by_cases hi : i.natAbs ≤ 10 ^ 60
      case neg => rw [if_neg hi] at h; cases h
      rw [if_pos hi] at h
      cases h
      refine ⟨by omega, Goes.one (bg ?_)⟩
      unfold partF
      rw [if_neg rm]
      dsimp only
      rw [if_pos hi]
    | loc x =>
      dsimp only at h
      cases hv : evGet x env with
      | none => rw [hv] at h; cases h
      | some v =>
      rw [hv] at h
      cases h
      refine ⟨by omega, Goes.one (bg ?_)⟩
      unfold partF
      rw [if_neg rm]
      dsimp only
      rw [hv]
    | glob a b =>
      dsimp only at h
      cases hv : glGet (a, b) gl with
      | none =>
        rw [hv] at h
        cases h
        refine ⟨by omega, Ends.one (bg ?_)⟩
        unfold partF
        rw [if_neg rm]
        dsimp only
        rw [hv]
      | some v =>
      rw [hv] at h
      cases h
      refine ⟨by omega, Goes.one (bg ?_)⟩
      unfold partF
      rw [if_neg rm]
      dsimp only
      rw [hv]
    | prim q =>
      cases h
      refine ⟨by omega, Goes.one (bg ?_)⟩
      unfold partF
      rw [if_neg rm]
    | fn ns b =>
      cases h
      refine ⟨by omega, Goes.one (bg ?_)⟩
      unfold partF
      rw [if_neg rm]
    | let_ ns ts b =>
      dsimp only at h
      by_cases lim : ts.length ≤ 60 ∧ ns.length = ts.length ∧ env.length + ns.length ≤ 1000000
      case neg => rw [if_neg lim] at h; cases h
      rw [if_pos lim] at h
      have g1 : Goes m gl (m - l) (⟨.begin, .let_ ns ts b, env⟩ :: todo) res (m - (l - 1)) (bgs ts env ++ ⟨.endLet, .let_ ns ts b, env⟩ :: todo) res := Goes.one (bg (by
        unfold partF
        rw [if_neg rm]))
      cases h2 : evL (fun t l s => evT f gl env t l s d false) ts (l - 1) s with
      | none => rw [h2] at h; cases h
      | some q =>
      obtain ⟨r2, l2, s2⟩ := q
      rw [h2] at h
      obtain ⟨b1, b2⟩ := plain_list IH gl env d m ts (l - 1) s r2 l2 s2 (⟨.endLet, .let_ ns ts b, env⟩ :: todo) res h2 (by omega) (by simp only [List.length_cons]; omega) (by omega)
      cases r2 with
      | inr ws =>
        cases h
        exact ⟨by omega, g1.ends b2⟩
      | inl vs =>
      dsimp only at h
      obtain ⟨c1, c2⟩ := b2
      have g2 : Goes m gl (m - l2) (⟨.endLet, .let_ ns ts b, env⟩ :: todo) (vs.reverse ++ res) (m - l2) (⟨.begin, b, evPuts ns vs env⟩ :: todo) res := ⟨1, fun k => run_endLet c1 lim.2.1 lim.2.2 (by omega)⟩
      obtain ⟨d1, d2⟩ := IH gl _ b l2 s2 d last r l' s' m todo res h (by omega) (by omega) (by omega)
      refine ⟨by omega, ?_⟩
      cases r with
      | val v => exact (g1.trans (c2.trans g2)).trans d2
      | out ws => exact (g1.trans (c2.trans g2)).ends d2
    | if_ a b c =>
      dsimp only at h
      have g1 : Goes m gl (m - l) (⟨.begin, .if_ a b c, env⟩ :: todo) res (m - (l - 1)) (⟨.begin, a, env⟩ :: ⟨.endIf, .if_ a b c, env⟩ :: todo) res := Goes.one (bg (by
        unfold partF
        rw [if_neg rm]))
      cases h2 : evT f gl env a (l - 1) s d false with
      | none => rw [h2] at h; cases h
      | some q =>
      obtain ⟨r2, l2, s2⟩ := q
      rw [h2] at h
      obtain ⟨b1, b2⟩ := IH gl env a (l - 1) s d false r2 l2 s2 m (⟨.endIf, .if_ a b c, env⟩ :: todo) res h2 (by omega) (by simp only [List.length_cons]; omega) (by omega)
      cases r2 with
      | out ws =>
        cases h
        exact ⟨by omega, g1.ends b2⟩
      | val v =>
        dsimp only at h
        have b2 : Goes m gl (m - (l - 1)) (⟨.begin, a, env⟩ :: ⟨.endIf, .if_ a b c, env⟩ :: todo) res (m - l2) (⟨.endIf, .if_ a b c, env⟩ :: todo) (v :: res) := b2
        have g2 : Goes m gl (m - l2) (⟨.endIf, .if_ a b c, env⟩ :: todo) (v :: res) (m - l2) (⟨.begin, if zeroV v = true then c else b, env⟩ :: todo) res := Goes.one (by
          show endIfF (.if_ a b c) env (m - l2) todo (v :: res) = _
          unfold endIfF
          dsimp only
          rw [if_pos (show todo.length < many by omega)])
        obtain ⟨d1, d2⟩ := IH gl env _ l2 s2 d last r l' s' m todo res h (by omega) (by omega) (by omega)
        refine ⟨by omega, ?_⟩
        cases r with
        | val v => exact (g1.trans (b2.trans g2)).trans d2
        | out ws => exact (g1.trans (b2.trans g2)).ends d2
    | call g ts =>
      dsimp only at h
      by_cases lim : ts.length ≤ 60
      case neg => rw [if_neg lim] at h; cases h
      rw [if_pos lim] at h
      have g1 : Goes m gl (m - l) (⟨.begin, .call g ts, env⟩ :: todo) res (m - (l - 1)) (bgs (g :: ts) env ++ ⟨.endCall, .call g ts, env⟩ :: todo) res := Goes.one (bg (by
        unfold partF
        rw [if_neg rm]
        rfl))
      cases h2 : evL (fun t l s => evT f gl env t l s d false) (g :: ts) (l - 1) s with
      | none => rw [h2] at h; cases h
      | some q =>
      obtain ⟨r2, l2, s2⟩ := q
      rw [h2] at h
      obtain ⟨b1, b2⟩ := plain_list IH gl env d m (g :: ts) (l - 1) s r2 l2 s2 (⟨.endCall, .call g ts, env⟩ :: todo) res h2 (by omega) (by simp only [List.length_cons]; omega) (by simp only [List.length_cons]; omega)
      cases r2 with
      | inr ws =>
        cases h
        exact ⟨by omega, g1.ends b2⟩
      | inl vs =>
      obtain ⟨c1, c2⟩ := b2
      cases vs with
      | nil => cases h
      | cons called vs =>
      dsimp only at h
      have lv : vs.length = ts.length := by simpa using c1
      have c2 : Goes m gl (m - (l - 1)) (bgs (g :: ts) env ++ ⟨.endCall, .call g ts, env⟩ :: todo) res (m - l2) (⟨.endCall, .call g ts, env⟩ :: todo) (vs.reverse ++ called :: res) := by
        rw [List.reverse_cons, List.append_assoc] at c2
        exact c2
      have g12 := g1.trans c2
      have ec : ∀ {x : PRes}, callR (m - l2) todo res called vs = x → actF ⟨m, gl⟩ ⟨.endCall, .call g ts, env⟩ (m - l2) todo (vs.reverse ++ called :: res) = x := fun {x} e => by
        show endCallF (.call g ts) (m - l2) todo (vs.reverse ++ called :: res) = x
        unfold endCallF
        have l0 : ts.length = vs.reverse.length := by rw [List.length_reverse, lv]
        dsimp only
        rw [l0, List.drop_left, List.take_left, List.reverse_reverse]
        dsimp only
        rw [List.length_reverse, if_pos ⟨by omega, by omega, by rw [List.length_append, List.length_reverse, List.length_cons]; omega⟩]
        exact e
      cases hc : chkF called vs.length with
      | some ws =>
        rw [hc] at h
        cases h
        exact ⟨by omega, g12.ends (Ends.one (ec (by unfold callR; rw [hc])))⟩
      | none =>
      rw [hc] at h
      dsimp only at h
      cases called with
      | prim q =>
        dsimp only at h
        cases hp : primF q vs with
        | ok y =>
          rw [hp] at h
          cases h
          exact ⟨by omega, g12.trans (Goes.one (ec (by unfold callR; rw [hc]; dsimp only; rw [hp])))⟩
        | error ws =>
          rw [hp] at h
          cases h
          exact ⟨by omega, g12.ends (Ends.one (ec (by unfold callR; rw [hc]; dsimp only; rw [hp])))⟩
      | fnP ns b en =>
        dsimp only at h
        by_cases le : en.length + ns.length ≤ 1000000
        case neg => rw [if_neg le] at h; cases h
        rw [if_pos le] at h
        have g3 := g12.trans (Goes.one (ec (by unfold callR; rw [hc]; dsimp only; rw [if_pos le])))
        obtain ⟨d1, d2⟩ := IH gl _ b l2 _ _ true r l' s' m todo res h (by omega) (by omega) (by omega)
        refine ⟨by omega, ?_⟩
        cases r with
        | val v => exact g3.trans d2
        | out ws => exact g3.ends d2
      | _ => cases h
end My
namespace My
open PySem PySem.Spec PyProof.Rows L2 TL
theorem evGet_put (n x : Int) (y : Vl) : ∀ (env : Ev), evGet x (evPut n y env) = if n = x then some y else evGet x env := by
  have hmap : ∀ (env : Ev), evHas n env = true → evGet x (env.map fun p => if p.1 = n then (p.1, y) else p) = if n = x then some y else evGet x env := by
    intro env
    induction env with
    | nil => intro h; cases h
    | cons p r ih =>
      obtain ⟨m, z⟩ := p
      intro h
      by_cases hr : evHas n r = true
      · have ih := ih hr
        by_cases c : m = n
        · subst c
          by_cases d : m = x
          · subst d
            simp [evGet]
          · rw [if_neg d] at ih ⊢
            simp only [List.map_cons, if_true, evGet, if_neg d]
            exact ih
        · simp only [List.map_cons, if_neg c, evGet]
          by_cases d : m = x
          · subst d
            rw [if_pos rfl, if_neg (Ne.symm c), if_pos rfl]
          · rw [if_neg d, ih]
            by_cases e : n = x
            · rw [if_pos e, if_pos e]
            · rw [if_neg e, if_neg e, if_neg d]
      · have hm : m = n := by
          have h' : (decide (m = n) || evHas n r) = true := h
          rw [Bool.eq_false_iff.mpr hr, Bool.or_false] at h'
          exact of_decide_eq_true h'
        subst hm
        have same : r.map (fun p => if p.1 = m then (p.1, y) else p) = r := by
          refine (List.map_congr_left fun p hp => ?_).trans (List.map_id r)
          rw [if_neg]
          · rfl
          · intro e
            exact hr (List.any_eq_true.mpr ⟨p, hp, decide_eq_true e⟩)
        simp only [List.map_cons, if_true, evGet, same]
        by_cases d : m = x
        · rw [if_pos d, if_pos d]
        · rw [if_neg d, if_neg d, if_neg d]
  have happ : ∀ (env : Ev), evHas n env = false → evGet x (env ++ [(n, y)]) = if n = x then some y else evGet x env := by
    intro env
    induction env with
    | nil =>
      intro _
      simp [evGet]
    | cons p r ih =>
      obtain ⟨m, z⟩ := p
      intro h
      have h' : (decide (m = n) || evHas n r) = false := h
      obtain ⟨h1, h2⟩ := Bool.or_eq_false_iff.mp h'
      have h1 := of_decide_eq_false h1
      simp only [List.cons_append, evGet]
      by_cases d : m = x
      · subst d
        rw [if_pos rfl, if_neg (Ne.symm h1), if_pos rfl]
      · rw [if_neg d, ih h2]
        by_cases e : n = x
        · rw [if_pos e, if_pos e]
        · rw [if_neg e, if_neg e, if_neg d]
  intro env
  unfold evPut
  by_cases c : evHas n env = true
  · rw [if_pos c]; exact hmap env c
  · rw [if_neg c]; exact happ env (Bool.eq_false_iff.mpr c)
theorem evL_le {r : Tr → Nat → Nat → Option (Rs × Nat × Nat)} (h : ∀ t l s x l' s', r t l s = some (x, l', s') → l' ≤ l ∧ s ≤ s') : ∀ (ts : List Tr) (l s : Nat) (x : List Vl ⊕ List Str) (l' s' : Nat), evL r ts l s = some (x, l', s') → l' ≤ l ∧ s ≤ s'
  | [], l, s, x, l', s', e => by cases e; exact ⟨Nat.le_refl _, Nat.le_refl _⟩
  | t :: ts, l, s, x, l', s', e => by
    unfold evL at e
    cases h1 : r t l s with
    | none => rw [h1] at e; cases e
    | some q =>
    obtain ⟨r1, l1, s1⟩ := q
    obtain ⟨a1, a2⟩ := h _ _ _ _ _ _ h1
    rw [h1] at e
    cases r1 with
    | out ws => cases e; exact ⟨a1, a2⟩
    | val v =>
    dsimp only at e
    cases h2 : evL r ts l1 s1 with
    | none => rw [h2] at e; cases e
    | some q =>
    obtain ⟨r2, l2, s2⟩ := q
    obtain ⟨b1, b2⟩ := evL_le h ts l1 s1 _ _ _ h2
    rw [h2] at e
    cases r2 with
    | inl vs => cases e; omega
    | inr ws => cases e; omega
theorem evT_le : ∀ (f : Nat) (gl : Gl) (env : Ev) (t : Tr) (l s d : Nat) (last : Bool) (r : Rs) (l' s' : Nat), evT f gl env t l s d last = some (r, l', s') → l' ≤ l ∧ s ≤ s'
  | 0, gl, env, t, l, s, d, last, r, l', s', h => by cases h
  | f + 1, gl, env, t, l, s, d, last, r, l', s', h => by
    have IH := evT_le f
    have IL := fun (env : Ev) => evL_le (r := fun t l s => evT f gl env t l s d false) (fun t l s x l' s' e => IH gl env t l s d false x l' s' e)
    unfold evT at h
    by_cases l0 : l = 0
    · rw [if_pos l0] at h; cases h; omega
    rw [if_neg l0] at h
    cases t with
    | int i =>
      dsimp only at h
      by_cases hi : i.natAbs ≤ 10 ^ 60
      case neg => rw [if_neg hi] at h; cases h
      rw [if_pos hi] at h; cases h; omega
    | loc x =>
      dsimp only at h
      cases hv : evGet x env with
      | none => rw [hv] at h; cases h
      | some v => rw [hv] at h; cases h; omega
    | glob a b =>
      dsimp only at h
      cases hv : glGet (a, b) gl with
      | none => rw [hv] at h; cases h; omega
      | some v => rw [hv] at h; cases h; omega
    | prim q => cases h; omega
    | fn ns b => cases h; omega
    | let_ ns ts b =>
      dsimp only at h
      by_cases lim : ts.length ≤ 60 ∧ ns.length = ts.length ∧ env.length + ns.length ≤ 1000000
      case neg => rw [if_neg lim] at h; cases h
      rw [if_pos lim] at h
      cases h2 : evL (fun t l s => evT f gl env t l s d false) ts (l - 1) s with
      | none => rw [h2] at h; cases h
      | some q =>
      obtain ⟨r2, l2, s2⟩ := q
      have b := IL env ts _ _ _ _ _ h2
      rw [h2] at h
      cases r2 with
      | inr ws => cases h; omega
      | inl vs =>
        have c := IH _ _ _ _ _ _ _ _ _ _ h
        omega
    | if_ a b c =>
      dsimp only at h
      cases h2 : evT f gl env a (l - 1) s d false with
      | none => rw [h2] at h; cases h
      | some q =>
      obtain ⟨r2, l2, s2⟩ := q
      have e1 := IH _ _ _ _ _ _ _ _ _ _ h2
      rw [h2] at h
      cases r2 with
      | out ws => cases h; omega
      | val v =>
        have e2 := IH _ _ _ _ _ _ _ _ _ _ h
        omega
    | call g ts =>
      dsimp only at h
      by_cases lim : ts.length ≤ 60
      case neg => rw [if_neg lim] at h; cases h
      rw [if_pos lim] at h
      cases h2 : evL (fun t l s => evT f gl env t l s d false) (g :: ts) (l - 1) s with
      | none => rw [h2] at h; cases h
      | some q =>
      obtain ⟨r2, l2, s2⟩ := q
      have b := IL env (g :: ts) _ _ _ _ _ h2
      rw [h2] at h
      cases r2 with
      | inr ws => cases h; omega
      | inl vs =>
      cases vs with
      | nil => cases h
      | cons called vs =>
      dsimp only at h
      cases hc : chkF called vs.length with
      | some ws => rw [hc] at h; cases h; omega
      | none =>
      rw [hc] at h
      dsimp only at h
      cases called with
      | prim q =>
        dsimp only at h
        cases hp : primF q vs with
        | ok y => rw [hp] at h; cases h; omega
        | error ws => rw [hp] at h; cases h; omega
      | fnP ns b en =>
        dsimp only at h
        by_cases le : en.length + ns.length ≤ 1000000
        case neg => rw [if_neg le] at h; cases h
        rw [if_pos le] at h
        have c := IH _ _ _ _ _ _ _ _ _ _ h
        omega
      | _ => cases h
end My
namespace My
open PySem PySem.Spec PyProof.Rows L2 TL
mutual
def depT : Tr → Nat
  | .fn _ b => 1 + depT b
  | .let_ _ ts b => 1 + max (depTs ts) (depT b)
  | .if_ a b c => 1 + max (depT a) (max (depT b) (depT c))
  | .call f ts => 1 + max (depT f) (depTs ts)
  | _ => 1
def depTs : List Tr → Nat
  | [] => 0
  | t :: ts => max (depT t) (depTs ts)
end
theorem depTs_mem : ∀ {ts : List Tr} {t : Tr}, t ∈ ts → depT t ≤ depTs ts
  | [], _, h => by cases h
  | x :: r, t, h => by
    unfold depTs
    rcases List.mem_cons.mp h with e | e
    · rw [e]; exact Nat.le_max_left _ _
    · exact Nat.le_trans (depTs_mem e) (Nat.le_max_right _ _)
mutual
def fv (x : Int) : Tr → Prop
  | .loc n => n = x
  | .fn ns b => fv x b ∧ x ∉ ns
  | .let_ ns ts b => fvs x ts ∨ (fv x b ∧ x ∉ ns)
  | .if_ a b c => fv x a ∨ fv x b ∨ fv x c
  | .call f ts => fv x f ∨ fvs x ts
  | _ => False
def fvs (x : Int) : List Tr → Prop
  | [] => False
  | t :: ts => fv x t ∨ fvs x ts
end
theorem fvs_mem {x : Int} : ∀ {ts : List Tr}, fvs x ts ↔ ∃ t ∈ ts, fv x t
  | [] => ⟨fun h => (by unfold fvs at h; exact h.elim), fun ⟨t, m, _⟩ => (by cases m)⟩
  | t :: ts => by
    unfold fvs
    rw [fvs_mem]
    constructor
    · rintro (h | ⟨u, m, h⟩)
      · exact ⟨t, List.mem_cons_self, h⟩
      · exact ⟨u, List.mem_cons_of_mem _ m, h⟩
    · rintro ⟨u, m, h⟩
      rcases List.mem_cons.mp m with e | m
      · rw [e] at h; exact .inl h
      · exact .inr ⟨u, m, h⟩
mutual
def wT : Tr → Nat
  | .fn ns b => 4 + ns.length + wT b
  | .let_ ns ts b => 1 + ns.length + wTs ts + wT b
  | .if_ a b c => 8 + wT a + wT b + wT c
  | .call f ts => 2 + wT f + wTs ts
  | _ => 3
def wTs : List Tr → Nat
  | [] => 0
  | t :: ts => 1 + wT t + wTs ts
end
end My
namespace My
open PySem PySem.Spec PyProof.Rows L2 TL
theorem glGet_put (k x : Str × Str) (y : Vl) : ∀ (gl : Gl), glGet x (glPut k y gl) = if k = x then some y else glGet x gl := by
  have hmap : ∀ (gl : Gl), glHas k gl = true → glGet x (gl.map fun p => if p.1 = k then (p.1, y) else p) = if k = x then some y else glGet x gl := by
    intro gl
    induction gl with
    | nil => intro h; cases h
    | cons p r ih =>
      obtain ⟨m, z⟩ := p
      intro h
      by_cases hr : glHas k r = true
      · have ih := ih hr
        by_cases c : m = k
        · subst c
          by_cases d : m = x
          · subst d
            simp [glGet]
          · rw [if_neg d] at ih ⊢
            simp only [List.map_cons, if_true, glGet, if_neg d]
            exact ih
        · simp only [List.map_cons, if_neg c, glGet]
          by_cases d : m = x
          · subst d
            rw [if_pos rfl, if_neg (Ne.symm c), if_pos rfl]
          · rw [if_neg d, ih]
            by_cases e : k = x
            · rw [if_pos e, if_pos e]
            · rw [if_neg e, if_neg e, if_neg d]
      · have hm : m = k := by
          have h' : (decide (m = k) || glHas k r) = true := h
          rw [Bool.eq_false_iff.mpr hr, Bool.or_false] at h'
          exact of_decide_eq_true h'
        subst hm
        have same : r.map (fun p => if p.1 = m then (p.1, y) else p) = r := by
          refine (List.map_congr_left fun p hp => ?_).trans (List.map_id r)
          rw [if_neg]
          · rfl
          · intro e
            exact hr (List.any_eq_true.mpr ⟨p, hp, decide_eq_true e⟩)
        simp only [List.map_cons, if_true, glGet, same]
        by_cases d : m = x
        · rw [if_pos d, if_pos d]
        · rw [if_neg d, if_neg d, if_neg d]
  have happ : ∀ (gl : Gl), glHas k gl = false → glGet x (gl ++ [(k, y)]) = if k = x then some y else glGet x gl := by
    intro gl
    induction gl with
    | nil =>
      intro _
      simp [glGet]
    | cons p r ih =>
      obtain ⟨m, z⟩ := p
      intro h
      have h' : (decide (m = k) || glHas k r) = false := h
      obtain ⟨h1, h2⟩ := Bool.or_eq_false_iff.mp h'
      have h1 := of_decide_eq_false h1
      simp only [List.cons_append, glGet]
      by_cases d : m = x
      · subst d
        rw [if_pos rfl, if_neg (Ne.symm h1), if_pos rfl]
      · rw [if_neg d, ih h2]
        by_cases e : k = x
        · rw [if_pos e, if_pos e]
        · rw [if_neg e, if_neg e, if_neg d]
  intro gl
  unfold glPut
  by_cases c : glHas k gl = true
  · rw [if_pos c]; exact hmap gl c
  · rw [if_neg c]; exact happ gl (Bool.eq_false_iff.mpr c)
def evP (f : Nat) : List ((Str × Str) × Tr) → Tr → Gl → Nat → Nat → Option (Rs × Nat × Nat)
  | [], t, gl, l, s => evT f gl [] t l s 1 true
  | (key, d) :: ds, t, gl, l, s => match evT f gl [] d l s 1 true with
    | some (.val v, l', s') => evP f ds t (glPut key v gl) l' s'
    | some (.out ws, z) => some (.out ws, z)
    | none => none
def plOut (m l' : Nat) : Rs → Option (Except (List Str × Nat) (Nat × Vl))
  | .val v => some (.ok (m - l', v))
  | .out ws => some (.error (ws, m - l'))
theorem plRun_ev {f : Nat} {gl : Gl} {t : Tr} {l s d : Nat} {last : Bool} {r : Rs} {l' s' m : Nat} (h : evT f gl [] t l s d last = some (r, l', s')) (hl : l ≤ m) (hf : 64 * f < many) : ∃ k0, ∀ k, k0 ≤ k → plRun k m gl (m - l) t = plOut m l' r := by
  obtain ⟨_, g⟩ := plain_sim f gl [] t l s d last r l' s' m [] [] h hl (by show 0 + 64 * f < many; omega) (by show 0 + 64 * f < many; omega)
  cases r with
  | val v =>
    obtain ⟨j, g⟩ := g
    refine ⟨j + 1, fun k hk => ?_⟩
    obtain ⟨i, rfl⟩ : ∃ i, k = i + 1 + j := ⟨k - 1 - j, by omega⟩
    unfold plRun
    rw [g (i + 1), runF_nil]
    rfl
  | out ws =>
    obtain ⟨j, g⟩ := g
    refine ⟨j, fun k hk => ?_⟩
    obtain ⟨i, rfl⟩ : ∃ i, k = i + j := ⟨k - j, by omega⟩
    unfold plRun
    rw [g i]
    rfl
theorem plainF_ev {f m : Nat} (hf : 64 * f < many) : ∀ (ds : List ((Str × Str) × Tr)) (t : Tr) (gl : Gl) (l s : Nat) (r : Rs) (l' s' : Nat), evP f ds t gl l s = some (r, l', s') → l ≤ m → ∃ k0, ∀ k, k0 ≤ k → plainF k m ds t gl (m - l) = plOut m l' r
  | [], t, gl, l, s, r, l', s', h, hl => plRun_ev h hl hf
  | (key, d) :: ds, t, gl, l, s, r, l', s', h, hl => by
    unfold evP at h
    cases h1 : evT f gl [] d l s 1 true with
    | none => rw [h1] at h; cases h
    | some q =>
    obtain ⟨r1, l1, s1⟩ := q
    rw [h1] at h
    obtain ⟨k1, g1⟩ := plRun_ev h1 hl hf
    cases r1 with
    | out ws =>
      cases h
      exact ⟨k1, fun k hk => by rw [plainF_cons, g1 k hk]; rfl⟩
    | val v =>
      dsimp only at h
      have e1 := (evT_le _ _ _ _ _ _ _ _ _ _ _ h1).1
      obtain ⟨k2, g2⟩ := plainF_ev (m := m) hf ds t (glPut key v gl) l1 s1 r l' s' h (by omega)
      refine ⟨max k1 k2, fun k hk => ?_⟩
      rw [plainF_cons, g1 k (by omega)]
      exact g2 k (by omega)
end My
namespace My
open PySem PySem.Spec PyProof.Rows L2 TL
/-! ### the draws' state among frames -/
theorem Sm.kpT2 {H H' : Hp} {S L : Addr} (s : Sm (Two S L) H H') (l : LS H S L) : KpT H H' := fun a xs h => s.keep a _ (fun z => by
  obtain ⟨cs, d, h1, h2, _⟩ := l
  rcases z with z | z
  · rw [z, h1] at h; cases h
  · rw [z, h2] at h; cases h) rfl h
theorem frTwo {H H' : Hp} {S L : Addr} (s : Sm (Two S L) H H') (l : LS H S L) : Fr (Two S L) H H' := ⟨s, s.kpT2 l⟩
theorem LS.two {H : Hp} {S L p : Addr} (h : LS H S L) (hp : H p = none) : ¬ Two S L p := by
  obtain ⟨h1, h2⟩ := h.some
  rintro (z | z)
  · rw [z] at hp; exact h1 hp
  · rw [z] at hp; exact h2 hp
theorem LS.laid {H : Hp} {S L p : Addr} {o : HO} (h : LS H S L) (hp : H p = none) : LS (upd H p o) S L := h.sm (Sm.new hp)
theorem LS.put {H : Hp} {S L p : Addr} {o : HO} (h : LS H S L) (hp : ¬ Two S L p) : LS (upd H p o) S L := by
  obtain ⟨cs, d, a1, a2, a3⟩ := h
  exact ⟨cs, d, by rw [upd_ne (fun z => hp (.inl z.symm))]; exact a1, by rw [upd_ne (fun z => hp (.inr z.symm))]; exact a2, a3⟩
theorem nbs {n : Int} (h : n.natAbs ≤ 2000000000) : n.natAbs < 2 ^ 8000 :=
  Nat.lt_of_lt_of_le (Nat.lt_of_le_of_lt h (show 2000000000 < 2 ^ 32 by decide)) (Nat.pow_le_pow_right (by decide) (by decide))
end My
namespace My
open PySem PySem.Spec PyProof.Rows L2 TL
/-! ### _law_same of the same data -/
inductive Dq where
  | int (i : Int) | str (s : Str) | tup (ds : List Dq)
mutual
inductive RDq (H : Hp) : V → Dq → Prop
  | int (i : Int) : RDq H (.int i) (.int i)
  | str (s : Str) : RDq H (.str s) (.str s)
  | tup {a : Addr} {vs : List V} {ds : List Dq} (h : H a = some (.tup vs)) (r : RDqs H vs ds) : RDq H (.ref a) (.tup ds)
inductive RDqs (H : Hp) : List V → List Dq → Prop
  | nil : RDqs H [] []
  | cons {v : V} {d : Dq} {vs : List V} {ds : List Dq} (r : RDq H v d) (rs : RDqs H vs ds) : RDqs H (v :: vs) (d :: ds)
end
mutual
theorem RDq.keep {H H' : Hp} (k : KpT H H') : ∀ {v : V} {d : Dq}, RDq H v d → RDq H' v d
  | _, _, .int i => .int i
  | _, _, .str s => .str s
  | _, _, .tup h r => .tup (k _ _ h) (RDqs.keep k r)
theorem RDqs.keep {H H' : Hp} (k : KpT H H') : ∀ {vs : List V} {ds : List Dq}, RDqs H vs ds → RDqs H' vs ds
  | _, _, .nil => .nil
  | _, _, .cons r rs => .cons (RDq.keep k r) (RDqs.keep k rs)
end
theorem RDqs.len {H : Hp} : ∀ {vs : List V} {ds : List Dq}, RDqs H vs ds → vs.length = ds.length
  | _, _, .nil => rfl
  | _, _, .cons _ r => congrArg (· + 1) (RDqs.len r)
theorem RDqs.get {H : Hp} : ∀ {vs : List V} {ds : List Dq} {i : Nat}, RDqs H vs ds → i < ds.length → ∃ v d, vs[i]? = some v ∧ ds[i]? = some d ∧ RDq H v d
  | _, _, _, .nil, e => by simp at e
  | _, _, 0, .cons r _, _ => ⟨_, _, rfl, rfl, r⟩
  | _, _, i + 1, .cons _ rs, e => by
    obtain ⟨v, d, h1, h2, h3⟩ := RDqs.get (i := i) rs (by simpa using e)
    exact ⟨v, d, by simpa using h1, by simpa using h2, h3⟩
mutual
def depQ : Dq → Nat
  | .tup ds => 1 + depQs ds
  | _ => 1
def depQs : List Dq → Nat
  | [] => 0
  | d :: ds => max (depQ d) (depQs ds)
end
theorem depQs_mem : ∀ {ds : List Dq} {d : Dq}, d ∈ ds → depQ d ≤ depQs ds
  | [], _, h => by cases h
  | x :: r, t, h => by
    unfold depQs
    rcases List.mem_cons.mp h with e | e
    · rw [e]; exact Nat.le_max_left _ _
    · exact Nat.le_trans (depQs_mem e) (Nat.le_max_right _ _)
mutual
def widQ : Dq → Prop
  | .tup ds => ds.length ≤ 900 ∧ widQs ds
  | _ => True
def widQs : List Dq → Prop
  | [] => True
  | d :: ds => widQ d ∧ widQs ds
end
theorem widQs_mem : ∀ {ds : List Dq} {d : Dq}, widQs ds → d ∈ ds → widQ d
  | [], _, _, h => by cases h
  | x :: r, t, w, h => by
    unfold widQs at w
    rcases List.mem_cons.mp h with e | e
    · rw [e]; exact w.1
    · exact widQs_mem w.2 e
theorem depQ_pos (d : Dq) : 1 ≤ depQ d := by
  cases d <;> (unfold depQ; omega)
def Sh.dq : Sh → Dq
  | .int i => .int i
  | .fn => .str "fn"
  | .more => .str "more"
  | .pair a b => .tup [.str "pair", a.dq, b.dq]
theorem RSh.dq {H : Hp} : ∀ {v : V} {s : Sh}, RSh H v s → RDq H v s.dq
  | _, _, .int i => .int i
  | _, _, .fn => .str _
  | _, _, .more => .str _
  | _, _, .pair h r s => .tup h (.cons (.str _) (.cons (RSh.dq r) (.cons (RSh.dq s) .nil)))
abbrev sSam : Stmt := top 42
abbrev NSa : List Str := ["one", "two", "k"]
def spSam : Nat → Sp
  | 0 => fun _ _ _ _ => False
  | n + 1 => fun vs H Q _ => ∃ (u v : V) (d : Dq), vs = [u, v] ∧ RDq H u d ∧ RDq H v d ∧ depQ d ≤ n + 1 ∧ widQ d ∧ ∀ H', Fr No H H' → Q (.bl true) H'
section
variable {P : Program} {w : World} {K : PySem.W.Frag} {mg : Str → Option Value} {base : Heap}
theorem scSam : FnScope NSa ["one", "two"] (defScope sSam) := ⟨rfl, rfl, rfl, by decide +kernel, rfl, by decide +kernel, by decide +kernel⟩
theorem ok_sam {f : Addr} {fd : FuncData} (F : Fun K "_law_same" "_law_same" sSam f fd) (B : Blt mg) (gS : mg "_law_same" = some (.ref f)) (kS : PySem.W.keepIn K (.ref f) = true) (bS : Binds K fd ["one", "two"] []) : ∀ n : Nat, FnOk P w K mg base CX0 n f fd ["one", "two"] (spSam n)
  | 0 => fn_none
  | n + 1 => by
    have IH : Cal P w K mg base CX0 n "_law_same" ["one", "two"] (spSam n) f fd := ⟨ok_sam F B gS kS bS n, kS, gS, bS⟩
    refine F.ok scSam (fun vs H Q E h => ?_) (fun cdv A outer s H vs Q E hr h => ?_)
    · obtain ⟨u, v, d, rfl, _⟩ := h
      rfl
    obtain ⟨u, v, d, rfl, ru, rv, dd, wd, q⟩ := h
    have nd := scSam.nd
    refine ⟨_, (pss_cons (ps_if (PW.pt (pw_and (pt_val (pe_callB call_isiT (by rfl) B.isinstance (by decide +kernel) (pa_cons (pv 0) (pa_cons (pe_tup (pa_cons (pe_bltn (v := .ty "list") (by rfl) B.list (by decide +kernel) rfl) (pa_cons (pe_bltn (v := .ty "tuple") (by rfl) B.tuple (by decide +kernel) rfl) pa_nil))) pa_nil)))) (pw_and1 (pt_val (pe_callB call_isiT (by rfl) B.isinstance (by decide +kernel) (pa_cons (pv 1) (pa_cons (pe_tup (pa_cons (pe_bltn (v := .ty "list") (by rfl) B.list (by decide +kernel) rfl) (pa_cons (pe_bltn (v := .ty "tuple") (by rfl) B.tuple (by decide +kernel) rfl) pa_nil))) pa_nil))))))) (pss_cons (ps_if (PW.pt (pw_or (pt_cmpR op_ne (pe_callB call_isi (by rfl) B.isinstance (by decide +kernel) (pa_cons (pv 0) (pa_cons (pe_bltn (v := .ty "list") (by rfl) B.list (by decide +kernel) rfl) pa_nil))) (pe_callB call_isi (by rfl) B.isinstance (by decide +kernel) (pa_cons (pv 1) (pa_cons (pe_bltn (v := .ty "list") (by rfl) B.list (by decide +kernel) rfl) pa_nil))) (nomark _)) (pw_or1 (pt_cmpR op_ne (pe_callB call_len_seq (by rfl) B.len PySem.boot_len (pa_cons (pv 0) pa_nil)) (pe_callB call_len_seq (by rfl) B.len PySem.boot_len (pa_cons (pv 1) pa_nil)) (nomark _))))) (pss_one (ps_ret pe_bl)) pss_nil)
      (pss_one (ps_ret (pe_cmpR op_eq (pe_callB call_len_seq (by rfl) B.len PySem.boot_len (pa_cons (pe_lc (own := [("k", 2)]) (g := gName 2) rfl nd (pi_range1 (by rfl) B.range (pa_cons (pe_callB call_len_seq (by rfl) B.len PySem.boot_len (pa_cons (pv 0) pa_nil)) pa_nil)) (blkOk_by (N := NSa) (sc := defScope sSam) (by decide +kernel)) (fun _ _ _ _ _ => (pg_name (i := 2) nd rfl (Or.inl rfl) (hf := Or.inr rfl))) (fun _ _ _ _ _ => pts_one (pt_not (pt_val (pe_call IH.ok hr rfl IH.g IH.k IH.b .nil pass0 (pa_cons (pe_ix (r := rIxT K) ix_tup (pv 0) (pv 2) (fun _ _ => rfl)) (pa_cons (pe_ix (r := rIxT K) ix_tup (pv 1) (pv 2) (fun _ _ => rfl)) pa_nil)))))) (fun _ _ _ _ _ => (pv 2))) pa_nil)) pe_int (nomark _))))) pss_nil)
    (pss_cons (ps_if (PW.pt (pw_and (pt_val (pe_callB call_isi (by rfl) B.isinstance (by decide +kernel) (pa_cons (pv 0) (pa_cons (pe_bltn (v := .ty "int") (by rfl) B.int (by decide +kernel) rfl) pa_nil)))) (pw_and1 (pt_val (pe_callB call_isi (by rfl) B.isinstance (by decide +kernel) (pa_cons (pv 1) (pa_cons (pe_bltn (v := .ty "int") (by rfl) B.int (by decide +kernel) rfl) pa_nil))))))) (pss_one (ps_ret (pe_and (pe_not (pe_callB call_isi (by rfl) B.isinstance (by decide +kernel) (pa_cons (pv 0) (pa_cons (pe_bltn (v := .ty "bool") (by rfl) B.bool (by decide +kernel) rfl) pa_nil)))) (pe_and (pe_not (pe_callB call_isi (by rfl) B.isinstance (by decide +kernel) (pa_cons (pv 1) (pa_cons (pe_bltn (v := .ty "bool") (by rfl) B.bool (by decide +kernel) rfl) pa_nil)))) (pe_one (pe_cmpR op_eq (pv 0) (pv 1) (nomark _))))))) pss_nil)
    (pss_one (ps_ret (pe_and (pe_callB call_isi (by rfl) B.isinstance (by decide +kernel) (pa_cons (pv 0) (pa_cons (pe_bltn (v := .ty "str") (by rfl) B.str (by decide +kernel) rfl) pa_nil))) (pe_and (pe_callB call_isi (by rfl) B.isinstance (by decide +kernel) (pa_cons (pv 1) (pa_cons (pe_bltn (v := .ty "str") (by rfl) B.str (by decide +kernel) rfl) pa_nil))) (pe_one (pe_cmpR op_eq (pv 0) (pv 1) (nomark _))))))))), ?_⟩
    have ka : ∀ {a : String} {r1 r2 : Bool}, kitB a "list" = some r1 → kitB a "tuple" = some r2 → PySem.W.kitAny K (.type a) [.type "list", .type "tuple"] = some (r1 || r2) := fun {a r1 r2} h1 h2 =>
      kitAny_cons (kit_ty h1) (fun e => kitAny_cons (kit_ty h2) (fun e2 => by rw [e, e2]; rfl) fun e2 => by rw [e2]; simp) fun e => by rw [e]; rfl
    cases ru with
    | int i =>
      cases rv
      refine ⟨_, rfl, by show 2 ≤ sizeLine; decide, fun t ht => ⟨.int i, t, _, _, _, _, rfl, upd_same, .cons (.ty _) (.cons (.ty _) .nil), .base (.int i), ka (show kitB "int" "list" = some false by decide +kernel) (show kitB "int" "tuple" = some false by decide +kernel), _, rfl, iteF (iteF ?_)⟩⟩
      have f1 : Fr No H (upd H t (.tup [.ty "list", .ty "tuple"])) := Fr.new ht
      refine ⟨_, rfl, _, _, _, _, true, rfl, .ty "int", .base (.int i), kit_ty (show kitB "int" "int" = some true by decide +kernel), _, rfl, iteT ⟨_, rfl, _, _, _, _, true, rfl, .ty "int", .base (.int i), kit_ty (show kitB "int" "int" = some true by decide +kernel), _, rfl, iteT ?_⟩⟩
      refine ⟨_, rfl, _, _, _, _, false, rfl, .ty "bool", .base (.int i), kit_ty (show kitB "int" "bool" = some false by decide +kernel), _, rfl, _, rfl, iteT ?_⟩
      refine ⟨_, rfl, _, _, _, _, false, rfl, .ty "bool", .base (.int i), kit_ty (show kitB "int" "bool" = some false by decide +kernel), _, rfl, _, rfl, iteT ?_⟩
      refine ⟨_, rfl, _, rfl, rfl, ?_⟩
      rw [decide_eq_true rfl]
      exact q _ f1
    | str z =>
      cases rv
      refine ⟨_, rfl, by show 2 ≤ sizeLine; decide, fun t ht => ⟨.str z, t, _, _, _, _, rfl, upd_same, .cons (.ty _) (.cons (.ty _) .nil), .base (.str z), ka (show kitB "str" "list" = some false by decide +kernel) (show kitB "str" "tuple" = some false by decide +kernel), _, rfl, iteF (iteF ?_)⟩⟩
      have f1 : Fr No H (upd H t (.tup [.ty "list", .ty "tuple"])) := Fr.new ht
      refine ⟨_, rfl, _, _, _, _, false, rfl, .ty "int", .base (.str z), kit_ty (show kitB "str" "int" = some false by decide +kernel), _, rfl, iteF (iteF ?_)⟩
      refine ⟨_, rfl, _, _, _, _, true, rfl, .ty "str", .base (.str z), kit_ty (show kitB "str" "str" = some true by decide +kernel), _, rfl, iteT ?_⟩
      refine ⟨_, rfl, _, _, _, _, true, rfl, .ty "str", .base (.str z), kit_ty (show kitB "str" "str" = some true by decide +kernel), _, rfl, iteT ?_⟩
      refine ⟨_, rfl, _, rfl, rfl, ?_⟩
      rw [decide_eq_true rfl]
      exact q _ f1
    | @tup a us ds ha ra =>
      cases rv with
      | @tup b vs _ hb rb =>
      have lu := ra.len
      have lv := rb.len
      refine ⟨_, rfl, by show 2 ≤ sizeLine; decide, fun t ht => ⟨.ref a, t, _, _, _, _, rfl, upd_same, .cons (.ty _) (.cons (.ty _) .nil), .base (.tup ((Fr.new (X := No) ht).tup _ _ ha)), ka (show kitB "tuple" "list" = some false by decide +kernel) (show kitB "tuple" "tuple" = some true by decide +kernel), _, rfl, iteT ?_⟩⟩
      refine ⟨_, rfl, by show 2 ≤ sizeLine; decide, fun t' ht' => ?_⟩
      have f1 : Fr No H (upd H t (.tup [.ty "list", .ty "tuple"])) := Fr.new ht
      have f2 : Fr No (upd H t (.tup [.ty "list", .ty "tuple"])) (upd (upd H t (.tup [.ty "list", .ty "tuple"])) t' (.tup [.ty "list", .ty "tuple"])) := Fr.new ht'
      have f := f1.trans f2
      have et : upd (upd H t (.tup [.ty "list", .ty "tuple"])) t' (.tup [.ty "list", .ty "tuple"]) t' = some (.tup [.ty "list", .ty "tuple"]) := upd_same
      generalize upd (upd H t (.tup [.ty "list", .ty "tuple"])) t' (.tup [.ty "list", .ty "tuple"]) = H1 at f et ⊢
      have ha1 := f.tup _ _ ha
      have hb1 := f.tup _ _ hb
      refine ⟨.ref b, t', _, _, _, _, rfl, et, .cons (.ty _) (.cons (.ty _) .nil), .base (.tup hb1), ka (show kitB "tuple" "list" = some false by decide +kernel) (show kitB "tuple" "tuple" = some true by decide +kernel), _, rfl, iteT ?_⟩
      refine ⟨_, rfl, _, _, _, _, false, rfl, .ty "list", .base (.tup ha1), kit_ty (show kitB "tuple" "list" = some false by decide +kernel), _, rfl, _, _, _, _, false, rfl, .ty "list", .base (.tup hb1), kit_ty (show kitB "tuple" "list" = some false by decide +kernel), rfl, _, rfl, iteF ?_⟩
      refine ⟨_, rfl, a, _, rfl, .inr (SqT.of ha1), _, rfl, b, _, rfl, .inr (SqT.of hb1), rfl, _, rfl, ?_⟩
      have lab : us.length = vs.length := by rw [lu, lv]
      rw [lab, decide_eq_true rfl]
      refine iteF ?_
      unfold depQ at dd
      unfold widQ at wd
      have l900 : vs.length ≤ 900 := by rw [lv]; exact wd.1
      refine ⟨_, rfl, a, _, rfl, .inr (SqT.of ha1), _, rfl, by omega, by omega, fun D hD => ?_⟩
      refine lc_range (lo := 0) (fun i H' => H' D = some (.lst []) ∧ Fr No H H') ⟨upd_same, f.trans (Fr.new hD)⟩ ?_ ?_
      · rintro i H5 hi ⟨p1, p2⟩
        rw [Int.toNat_natCast, lu] at hi
        obtain ⟨x1, d1, g1, g2, g3⟩ := ra.get hi
        obtain ⟨x2, d2, g4, g5, g6⟩ := rb.get hi
        rw [g2] at g5
        cases g5
        have a0 : (0 : Int) + (i : Int) = ((i : Nat) : Int) := by omega
        rw [a0]
        have m1 := List.mem_of_getElem? g2
        have h1 := depQs_mem m1
        have h2 := depQ_pos d1
        obtain ⟨n', rfl⟩ : ∃ n', n = n' + 1 := ⟨n - 1, by omega⟩
        refine ⟨rfl, ?_⟩
        refine ⟨_, rfl, _, rfl, a, _, _, _, rfl, rfl, SqT.of (p2.tup _ _ ha), atI_nat g1, _, rfl, _, rfl, b, _, _, _, rfl, rfl, SqT.of (p2.tup _ _ hb), atI_nat g4, ?_⟩
        exact ⟨x1, x2, d1, rfl, g3.keep p2.tup, g6.keep p2.tup, by omega, widQs_mem wd.2 m1, fun H6 s6 => ⟨_, rfl, s6.keep (fun z => z) rfl p1, p2.trans s6⟩⟩
      · rintro H5 ⟨p1, p2⟩
        exact ⟨D, _, rfl, .inl (SqL.of p1), rfl, q _ p2⟩
end
end My
namespace My
open PySem PySem.Spec PyProof.Rows L2 TL
/-! ### the drawn programs of k50, k53, k54: what the trees are -/
def nmOk (n : Int) : Prop := 0 ≤ n ∧ n < 7
def globM : List Str := ["m", "ma", "n"]
def globX : List Str := ["a", "aa", "b", "e"]
def prims8 : List Str := ["+", "-", "*", "<", "=", "pair", "first", "second"]
mutual
def gdT : Tr → Prop
  | .int i => i.natAbs ≤ 10 ^ 40
  | .loc _ => True
  | .glob m x => m ∈ globM ∧ x ∈ globX
  | .prim p => p ∈ prims8
  | .fn ns b => ns.length ≤ 5 ∧ (∀ n ∈ ns, nmOk n) ∧ gdT b
  | .let_ ns ts b => ns.length ≤ 5 ∧ ns.length = ts.length ∧ (∀ n ∈ ns, nmOk n) ∧ gdTs ts ∧ gdT b
  | .if_ a b c => gdT a ∧ gdT b ∧ gdT c
  | .call f ts => ts.length ≤ 5 ∧ gdT f ∧ gdTs ts
def gdTs : List Tr → Prop
  | [] => True
  | t :: ts => gdT t ∧ gdTs ts
end
mutual
theorem gd_wid : ∀ {t : Tr}, gdT t → widT t
  | .int _, _ => trivial
  | .loc _, _ => trivial
  | .glob m x, h => by
    obtain ⟨h1, h2⟩ : m ∈ globM ∧ x ∈ globX := h
    simp only [globM, globX, List.mem_cons, List.not_mem_nil, or_false] at h1 h2
    show m.length ≤ big ∧ x.length ≤ big
    rcases h1 with e | e | e <;> rcases h2 with g | g | g | g <;> subst e <;> subst g <;> exact ⟨by decide, by decide⟩
  | .prim _, _ => trivial
  | .fn ns b, h => by
    obtain ⟨h1, _, h3⟩ : ns.length ≤ 5 ∧ (∀ n ∈ ns, nmOk n) ∧ gdT b := h
    exact ⟨by omega, gd_wid h3⟩
  | .let_ ns ts b, h => by
    obtain ⟨h1, _, _, h3, h4⟩ : ns.length ≤ 5 ∧ ns.length = ts.length ∧ (∀ n ∈ ns, nmOk n) ∧ gdTs ts ∧ gdT b := h
    exact ⟨by omega, gd_wids h3, gd_wid h4⟩
  | .if_ a b c, h => by
    obtain ⟨h1, h2, h3⟩ : gdT a ∧ gdT b ∧ gdT c := h
    exact ⟨gd_wid h1, gd_wid h2, gd_wid h3⟩
  | .call f ts, h => by
    obtain ⟨h1, h2, h3⟩ : ts.length ≤ 5 ∧ gdT f ∧ gdTs ts := h
    exact ⟨by omega, gd_wid h2, gd_wids h3⟩
theorem gd_wids : ∀ {ts : List Tr}, gdTs ts → widTs ts
  | [], _ => trivial
  | t :: ts, h => by
    obtain ⟨h1, h2⟩ : gdT t ∧ gdTs ts := h
    exact ⟨gd_wid h1, gd_wids h2⟩
end
theorem gdTs_mem : ∀ {ts : List Tr}, gdTs ts → ∀ t ∈ ts, gdT t
  | [], _, _, m => by cases m
  | x :: r, h, t, m => by
    obtain ⟨h1, h2⟩ : gdT x ∧ gdTs r := h
    rcases List.mem_cons.mp m with e | e
    · rw [e]; exact h1
    · exact gdTs_mem h2 t e
theorem gdTs_all : ∀ {ts : List Tr}, (∀ t ∈ ts, gdT t) → gdTs ts
  | [], _ => trivial
  | x :: r, h => ⟨h x List.mem_cons_self, gdTs_all fun t m => h t (List.mem_cons_of_mem _ m)⟩
/-- a drawn tree, small, of the known variables -/
structure GT (ks : List (Int × Int)) (W D : Nat) (t : Tr) : Prop where
  g : gdT t
  f : ∀ x, fv x t → x ∈ ks.map Prod.fst
  w : wT t ≤ W
  d : depT t ≤ D
theorem GT.wide {ks : List (Int × Int)} {W D W' D' : Nat} {t : Tr} (h : GT ks W D t) (hw : W ≤ W') (hd : D ≤ D') : GT ks W' D' t := ⟨h.g, h.f, Nat.le_trans h.w hw, Nat.le_trans h.d hd⟩
/-! ### the heap: what is known, the world -/
def RK (H : Hp) (u : V) (p : Int × Int) : Prop := ∃ r, u = .ref r ∧ H r = some (.tup [.int p.1, .int p.2])
theorem RK.keep {H H' : Hp} (k : KpT H H') {u : V} {p : Int × Int} (h : RK H u p) : RK H' u p := let ⟨r, e, h⟩ := h; ⟨r, e, k _ _ h⟩
structure KnR (S L : Addr) (H : Hp) (v : V) (ks : List (Int × Int)) : Prop where
  h : ∃ a us, v = .ref a ∧ H a = some (.lst us) ∧ Als (RK H) us ks ∧ ¬ Two S L a
  n : ∀ p ∈ ks, nmOk p.1
theorem KnR.fr {S L : Addr} {H H' : Hp} {v : V} {ks : List (Int × Int)} (h : KnR S L H v ks) (f : Fr (Two S L) H H') : KnR S L H' v ks := by
  obtain ⟨⟨a, us, e, h1, h2, h3⟩, n⟩ := h
  exact ⟨⟨a, us, e, f.keep h3 rfl h1, h2.mono fun _ _ r => r.keep f.tup, h3⟩, n⟩
def wdNames : List Str := ["m a", "ma a", "m aa", "m b"]
def WdR (H : Hp) (v : V) : Prop := ∃ (a : Addr) (ps : List (Str × Int)), v = .ref a ∧ H a = some (.dK (ps.map fun p => (Sum.inr p.1, V.int p.2))) ∧ ps.length ≤ 4 ∧ ∀ p ∈ ps, p.1 ∈ wdNames
theorem WdR.fr {S L : Addr} {H H' : Hp} {v : V} (h : WdR H v) (l : LS H S L) (f : Fr (Two S L) H H') : WdR H' v := by
  obtain ⟨a, ps, e, h1, h2, h3⟩ := h
  refine ⟨a, ps, e, f.keep (fun z => ?_) rfl h1, h2, h3⟩
  obtain ⟨cs, d, k1, k2, _⟩ := l
  rcases z with z | z
  · rw [z, k1] at h1; cases h1
  · rw [z, k2] at h1; cases h1
/-! ### _law_locals -/
abbrev sLoc : Stmt := top 43
abbrev NLo : List Str := ["known", "sort", "found", "seen", "k", "number", "own"]
def spLoc : Sp := fun vs H Q _ => ∃ (a : Addr) (us : List V) (ks : List (Int × Int)) (so : Int), vs = [.ref a, .int so] ∧ H a = some (.lst us) ∧ Als (RK H) us ks ∧ ks.length ≤ 200 ∧ ∀ p (ns : List Int) H', Fr No H H' → H p = none → H' p = some (.lst (ns.map V.int)) → (∀ n ∈ ns, n ∈ ks.map Prod.fst) → ns.length ≤ 200 → Q (.ref p) H'
theorem Als.at {α : Type} {R : V → α → Prop} {vs : List V} {xs : List α} (h : Als R vs xs) {i : Nat} (hi : i < vs.length) : ∃ v x, vs[i]? = some v ∧ xs[i]? = some x ∧ R v x := by
  obtain ⟨x, hx, r⟩ := h.get (List.getElem?_eq_getElem hi)
  exact ⟨_, x, List.getElem?_eq_getElem hi, hx, r⟩
section
variable {P : Program} {w : World} {K : PySem.W.Frag} {mg : Str → Option Value} {base : Heap}
theorem scLoc : FnScope NLo ["known", "sort"] (defScope sLoc) := ⟨rfl, rfl, rfl, by decide +kernel, rfl, by decide +kernel, by decide +kernel⟩
theorem ok_loc {f : Addr} {fd : FuncData} (F : Fun K "_law_locals" "_law_locals" sLoc f fd) (B : Blt mg) : FnOk P w K mg base CX0 1 f fd ["known", "sort"] spLoc := by
  refine F.ok scLoc (fun vs H Q E h => ?_) (fun cdv A outer s H vs Q E hr h => ?_)
  · obtain ⟨a, us, ks, so, rfl, _⟩ := h
    rfl
  obtain ⟨a, us, ks, so, rfl, ha, al, ll, q⟩ := h
  have nd := scLoc.nd
  refine ⟨_, (pss_cons (ps_set (i := 2) nd rfl (Or.inl rfl) (pe_lst pa_nil))
    (pss_cons (ps_set (i := 3) nd rfl (Or.inl rfl) (pe_lst pa_nil))
    (pss_cons (ps_for PassesOwn.never rfl (pi_range1 (by rfl) B.range (pa_cons (pe_callB call_len_seq (by rfl) B.len PySem.boot_len (pa_cons (pv 0) pa_nil)) pa_nil)) (pg_name (i := 4) nd rfl (Or.inl rfl))
      (pss_cons (ps_asg (pe_ix (r := rIxL K) ix_list (pv 0) (pe_op op_sub (pe_op op_sub (pe_callB call_len_seq (by rfl) B.len PySem.boot_len (pa_cons (pv 0) pa_nil)) pe_int) (pv 4)) (fun _ _ => rfl)) (pg_tup rfl (pgs_cons (pg_name (i := 5) nd rfl (Or.inl rfl)) (pgs_cons (pg_name (i := 6) nd rfl (Or.inl rfl)) pgs_nil))))
      (pss_one (ps_if (pt_cmpR op_notIn_seq (pv 5) (pv 3) (by rfl)) (pss_cons (ps_expr (pe_bm PySem.F.plainAttrs_list PySem.F.slot_list_append PySem.F.type_list_append mt_append (pv 3) (pa_cons (pv 5) pa_nil)))
        (pss_one (ps_if (pt_cmpR op_eq (pv 6) (pv 1) (nomark _)) (pss_one (ps_expr (pe_bm PySem.F.plainAttrs_list PySem.F.slot_list_append PySem.F.type_list_append mt_append (pv 2) (pa_cons (pv 5) pa_nil)))) pss_nil))) pss_nil))))
    (pss_one (ps_ret (pv 2)))))), ?_⟩
  have lu := al.len
  refine ⟨by show 0 ≤ sizeLine; decide, fun Fa hF => ?_⟩
  have f1 := Fr.new (X := No) (o := .lst []) hF
  refine ⟨by show 0 ≤ sizeLine; decide, fun Se hSe => ?_⟩
  have f2 := Fr.new (X := No) (o := .lst []) hSe
  have hF1 := f2.keep (fun z => z) rfl (show upd H Fa (.lst []) Fa = _ from upd_same)
  have nFS : Fa ≠ Se := ne_of_none (show upd H Fa (.lst []) Fa = some _ from upd_same) hSe
  have hSe0 : H Se = none := f1.dom hSe
  have f12 := f1.trans f2
  refine ⟨_, rfl, a, us, rfl, .inl (SqL.of (f12.keep (fun z => z) rfl ha)), us.length, rfl, by omega, by omega, for_range (n := us.length) (fun i σ H' => ∃ (v4 v5 v6 : Option V) (ns ss : List Int), σ = [some (.ref a), some (.int so), some (.ref Fa), some (.ref Se), v4, v5, v6] ∧ H' Fa = some (.lst (ns.map V.int)) ∧ H' Se = some (.lst (ss.map V.int)) ∧ Fr No H H' ∧ ns.length ≤ i ∧ ss.length ≤ i ∧ ∀ n ∈ ns, n ∈ ks.map Prod.fst)
    ⟨none, none, none, [], [], rfl, hF1, upd_same, f12, Nat.le_refl _, Nat.le_refl _, fun _ m => by cases m⟩ ?_ ?_⟩
  · rintro i σ H' hi ⟨v4, v5, v6, ns, ss, rfl, h1, h2, f, l1, l2, hn⟩
    have ha' := f.keep (fun z => z) rfl ha
    obtain ⟨u, ⟨n, so'⟩, hu, hk, ⟨r, rfl, hr0⟩⟩ := al.at (i := us.length - 1 - i) (by omega)
    refine ⟨_, rfl, _, rfl, a, us, rfl, .inl (SqL.of ha'), _, _, rfl, rfl, _, rfl, _, _, rfl, rfl, a, us, _, .ref r, rfl, rfl, SqL.of ha', ?_, ?_⟩
    · rw [show ((us.length : Int) - 1 - (0 + (i : Nat))) = ((us.length - 1 - i : Nat) : Int) by omega]
      exact atI_nat hu
    refine ⟨r, _, rfl, SqT.of (f.tup _ _ hr0), rfl, _, _, rfl, _, _, rfl, rfl, ?_⟩
    refine ⟨_, rfl, _, rfl, Se, _, rfl, .inl (SqL.of h2), rfl, flat_map V.int (fun _ => rfl) ss, _, rfl, ?_⟩
    have mem : n ∈ ks.map Prod.fst := List.mem_map.mpr ⟨_, List.mem_of_getElem? hk, rfl⟩
    refine ite2 (fun _ => ?_) (fun _ => ⟨_, _, _, ns, ss, rfl, h1, h2, f, by omega, by omega, hn⟩)
    refine ⟨_, rfl, .inl ⟨rfl, _, SqL.of h2⟩, _, rfl, Se, _, _, rfl, rfl, h2, Nat.lt_of_le_of_lt (show _ ≤ 1000000 by rw [List.length_map]; omega) (by decide), ?_⟩
    have h1' : upd H' Se (.lst (ss.map V.int ++ [.int n])) Fa = some (.lst (ns.map V.int)) := by rw [upd_ne nFS]; exact h1
    have f' : Fr No H (upd H' Se (.lst (ss.map V.int ++ [.int n]))) := f.mut hSe0 h2 rfl
    have h2' : upd H' Se (.lst (ss.map V.int ++ [.int n])) Se = some (.lst ((ss ++ [n]).map V.int)) := by rw [upd_same, List.map_append]; rfl
    refine ⟨_, rfl, _, rfl, rfl, _, rfl, ?_⟩
    refine ite2 (fun _ => ?_) (fun _ => ⟨_, _, _, ns, ss ++ [n], rfl, h1', h2', f', by omega, by rw [List.length_append]; exact Nat.succ_le_succ l2, hn⟩)
    refine ⟨_, rfl, .inl ⟨rfl, _, SqL.of h1'⟩, _, rfl, Fa, _, _, rfl, rfl, h1', Nat.lt_of_le_of_lt (show _ ≤ 1000000 by rw [List.length_map]; omega) (by decide), ?_⟩
    refine ⟨_, _, _, ns ++ [n], ss ++ [n], rfl, by rw [upd_same, List.map_append]; rfl, by rw [upd_ne (Ne.symm nFS)]; exact h2', f'.mut hF h1' rfl, by rw [List.length_append]; exact Nat.succ_le_succ l1, by rw [List.length_append]; exact Nat.succ_le_succ l2, fun m hm => ?_⟩
    rcases List.mem_append.mp hm with hm | hm
    · exact hn m hm
    · rw [List.mem_singleton.mp hm]; exact mem
  · rintro σ H' ⟨v4, v5, v6, ns, ss, rfl, h1, h2, f, l1, l2, hn⟩
    exact ⟨_, rfl, q Fa ns H' f hF h1 hn (by omega)⟩
end
end My
namespace My
open PySem PySem.Spec PyProof.Rows L2 TL
/-! ### _law_numbers, _law_small -/
abbrev sNus : Stmt := top 44
abbrev NNu : List Str := ["state", "count", "numbers", "k", "number", "j"]
def spNus : Sp := fun vs H Q _ => ∃ (S L : Addr) (c : Nat), vs = [.ref S, .int c] ∧ LS H S L ∧ c ≤ 100 ∧ ∀ p (ns : List Int) H', LS H' S L → Fr (Two S L) H H' → H p = none → H' p = some (.lst (ns.map V.int)) → ns.length = c → (∀ n ∈ ns, nmOk n) → ¬ Two S L p → Q (.ref p) H'
abbrev sSml : Stmt := top 45
abbrev NSm : List Str := ["state", "pick"]
def spSml : Sp := fun vs H Q _ => ∃ (S L : Addr), vs = [.ref S] ∧ LS H S L ∧ ∀ (i : Int) u H', i.natAbs ≤ 10 ^ 40 → LS H' S L → Fr (Two S L) H H' → RT H' u (.int i) → Q u H'
section
variable {P : Program} {w : World} {K : PySem.W.Frag} {mg : Str → Option Value} {base : Heap}
theorem scNus : FnScope NNu ["state", "count"] (defScope sNus) := ⟨rfl, rfl, rfl, by decide +kernel, rfl, by decide +kernel, by decide +kernel⟩
theorem ok_nus {f fT : Addr} {fd dT : FuncData} (F : Fun K "_law_numbers" "_law_numbers" sNus f fd) (B : Blt mg) (GT : Cal P w K mg base CX0 2 "_law_take" ["state", "limit"] spTake fT dT) : FnOk P w K mg base CX0 3 f fd ["state", "count"] spNus := by
  refine F.ok scNus (fun vs H Q E h => ?_) (fun cdv A outer s H vs Q E hr h => ?_)
  · obtain ⟨S, L, c, rfl, _⟩ := h
    rfl
  obtain ⟨S, L, c, rfl, hl, lc, q⟩ := h
  have nd := scNus.nd
  refine ⟨_, (pss_cons (ps_set (i := 2) nd rfl (Or.inl rfl) (pe_lst pa_nil))
    (pss_cons (ps_for PassesOwn.never rfl (pi_range1 (by rfl) B.range (pa_cons (pv 1) pa_nil)) (pg_name (i := 3) nd rfl (Or.inl rfl))
      (pss_cons (ps_set (i := 4) nd rfl (Or.inl rfl) (pe_call GT.ok hr rfl GT.g GT.k GT.b .nil pass0 (pa_cons (pv 0) (pa_cons pe_int pa_nil))))
      (pss_cons (ps_for PassesOwn.never rfl (pi_range1 (by rfl) B.range (pa_cons pe_int pa_nil)) (pg_name (i := 5) nd rfl (Or.inl rfl))
        (pss_one (ps_if (pt_cmpR op_in_seq (pv 4) (pv 2) (by rfl)) (pss_one (ps_set (i := 4) nd rfl (Or.inl rfl) (pe_op op_mod (pe_callTy call_int1 (by rfl) B.int (by decide +kernel) (pa_cons (pe_op op_add (pv 4) pe_int) pa_nil)) pe_int))) pss_nil)))
      (pss_one (ps_expr (pe_bm PySem.F.plainAttrs_list PySem.F.slot_list_append PySem.F.type_list_append mt_append (pv 2) (pa_cons (pv 4) pa_nil)))))))
    (pss_one (ps_ret (pv 2))))), ?_⟩
  refine ⟨by show 0 ≤ sizeLine; decide, fun D hD => ?_⟩
  have nD := hl.two hD
  refine ⟨_, rfl, c, rfl, by omega, by omega, for_range (n := c) (fun i σ H' => ∃ (v3 v4 v5 : Option V) (ns : List Int), σ = [some (.ref S), some (.int c), some (.ref D), v3, v4, v5] ∧ H' D = some (.lst (ns.map V.int)) ∧ ns.length = i ∧ (∀ n ∈ ns, nmOk n) ∧ LS H' S L ∧ Fr (Two S L) H H')
    ⟨none, none, none, [], rfl, upd_same, rfl, (fun _ m => by cases m), hl.laid hD, Fr.new hD⟩ ?_ ?_⟩
  · rintro i σ H1 hi ⟨v3, v4, v5, ns, rfl, h1, h2, h3, l1, f1⟩
    refine ⟨_, rfl, S, L, 7, rfl, l1, by decide, nbs (by decide), fun g H2 a2 b2 l2 s2 => ?_⟩
    have f2 := f1.trans (frTwo s2 l1)
    have hD2 := (frTwo s2 l1).keep nD rfl h1
    refine ⟨7, rfl, by decide, by decide, for_range (n := 7) (fun j σ H' => ∃ (v5 : Option V) (m : Int), σ = [some (.ref S), some (.int c), some (.ref D), some (.int (0 + (i : Nat))), some (.int m), v5] ∧ nmOk m ∧ H' = H2) ⟨_, g, rfl, ⟨a2, b2⟩, rfl⟩ ?_ ?_⟩
    · rintro j σ H' hj ⟨v5, m, rfl, hm, rfl⟩
      refine ⟨_, rfl, _, rfl, D, _, rfl, .inl (SqL.of hD2), rfl, flat_map V.int (fun _ => rfl) ns, _, rfl, ?_⟩
      refine ite2 (fun _ => ?_) (fun _ => ⟨_, m, rfl, hm, rfl⟩)
      refine ⟨_, rfl, _, _, rfl, rfl, .inl ⟨_, rfl, _, _, rfl, rfl, (by show (0 : Int) < 7; decide), ?_⟩⟩
      exact ⟨_, _, rfl, ⟨Int.emod_nonneg _ (by decide), Int.emod_lt_of_pos _ (by decide)⟩, rfl⟩
    · rintro σ H' ⟨v5, m, rfl, hm, rfl⟩
      refine ⟨_, rfl, .inl ⟨rfl, _, SqL.of hD2⟩, _, rfl, D, _, _, rfl, rfl, hD2, Nat.lt_of_le_of_lt (show _ ≤ 1000000 by rw [List.length_map]; omega) (by decide), ?_⟩
      refine ⟨_, _, _, ns ++ [m], rfl, by rw [upd_same, List.map_append]; rfl, by rw [List.length_append, h2]; rfl, fun n hn => ?_, l2.put nD, f2.mut hD hD2 rfl⟩
      rcases List.mem_append.mp hn with hn | hn
      · exact h3 n hn
      · rw [List.mem_singleton.mp hn]; exact hm
  · rintro σ H1 ⟨v3, v4, v5, ns, rfl, h1, h2, h3, l1, f1⟩
    exact ⟨_, rfl, q D ns H1 l1 f1 hD h1 h2 h3 nD⟩
theorem scSml : FnScope NSm ["state"] (defScope sSml) := ⟨rfl, rfl, rfl, by decide +kernel, rfl, by decide +kernel, by decide +kernel⟩
theorem ok_sml {f fT : Addr} {fd dT : FuncData} (F : Fun K "_law_small" "_law_small" sSml f fd) (GT : Cal P w K mg base CX0 2 "_law_take" ["state", "limit"] spTake fT dT) : FnOk P w K mg base CX0 3 f fd ["state"] spSml := by
  refine F.ok scSml (fun vs H Q E h => ?_) (fun cdv A outer s H vs Q E hr h => ?_)
  · obtain ⟨S, L, rfl, _⟩ := h
    rfl
  obtain ⟨S, L, rfl, hl, q⟩ := h
  have nd := scSml.nd
  refine ⟨_, (pss_cons (ps_set (i := 1) nd rfl (Or.inl rfl) (pe_call GT.ok hr rfl GT.g GT.k GT.b .nil pass0 (pa_cons (pv 0) (pa_cons pe_int pa_nil))))
    (pss_cons (ps_if (pt_cmpR op_eq (pv 1) pe_int (nomark _)) (pss_one (ps_ret (pe_tup (pa_cons pe_str (pa_cons (pe_ix (r := rIxL K) ix_list (pe_lst (pa_cons (pe_op op_sub (pe_op op_pow pe_int pe_int) pe_int) (pa_cons (pe_op op_sub pe_int (pe_op op_pow pe_int pe_int)) (pa_cons (pe_op op_pow pe_int pe_int) (pa_cons (pe_un un_neg pe_int) pa_nil))))) (pe_call GT.ok hr rfl GT.g GT.k GT.b .nil pass0 (pa_cons (pv 0) (pa_cons pe_int pa_nil))) (fun _ _ => rfl)) pa_nil))))) pss_nil)
    (pss_one (ps_ret (pe_tup (pa_cons pe_str (pa_cons (pe_call GT.ok hr rfl GT.g GT.k GT.b .nil pass0 (pa_cons (pv 0) (pa_cons pe_int pa_nil))) pa_nil))))))), ?_⟩
  refine ⟨_, rfl, S, L, 8, rfl, hl, by decide, nbs (by decide), fun g1 H1 a1 b1 l1 s1 => ?_⟩
  have f1 := frTwo s1 hl
  refine ⟨_, rfl, rfl, _, rfl, ?_⟩
  refine ite2 (fun _ => ?_) (fun _ => ?_)
  · have e30 : (10 : Int) ^ (30 : Int).toNat = 1000000000000000000000000000000 := by decide +kernel
    have e40 : (10 : Int) ^ (40 : Int).toNat = 10000000000000000000000000000000000000000 := by decide +kernel
    have b40 : (10 ^ 40 : Nat) = 10000000000000000000000000000000000000000 := by decide +kernel
    refine ⟨_, _, rfl, rfl, ⟨by decide, by decide, by decide⟩, _, _, rfl, rfl, _, _, rfl, rfl, ⟨by decide, by decide, by decide⟩, _, _, rfl, rfl, _, _, rfl, rfl, ⟨by decide, by decide, by decide⟩, ?_⟩
    dsimp only
    rw [e30, e40]
    refine ⟨_, rfl, by show 4 ≤ sizeLine; decide, fun p hp => ?_⟩
    refine ⟨_, rfl, S, L, 4, rfl, l1.laid hp, by decide, nbs (by decide), fun g2 H2 a2 b2 l2 s2 => ?_⟩
    have hp2 := s2.keep p _ (l1.two hp) rfl upd_same
    have f2 := f1.trans ((Fr.new hp).trans (frTwo s2 (l1.laid hp)))
    have pick : ∃ i : Int, atI [V.int (10000000000000000000000000000000000000000 - 1), V.int (1 - 10000000000000000000000000000000000000000), V.int 1000000000000000000000000000000, V.int (-7)] g2 = some (.int i) ∧ i.natAbs ≤ 10 ^ 40 := by
      rw [b40]
      have c : g2 = 0 ∨ g2 = 1 ∨ g2 = 2 ∨ g2 = 3 := by omega
      rcases c with e | e | e | e <;> rw [e]
      · exact ⟨_, rfl, by omega⟩
      · exact ⟨_, rfl, by omega⟩
      · exact ⟨_, rfl, by omega⟩
      · exact ⟨_, rfl, by omega⟩
    obtain ⟨i, ei, bi⟩ := pick
    refine ⟨p, _, g2, _, rfl, rfl, SqL.of hp2, ei, by show 2 ≤ sizeLine; decide, fun t ht => ?_⟩
    exact q i _ _ bi (l2.laid ht) (f2.trans (Fr.new ht)) (.int upd_same)
  · refine ⟨_, rfl, S, L, 4, rfl, l1, by decide, nbs (by decide), fun g2 H2 a2 b2 l2 s2 => ⟨by show 2 ≤ sizeLine; decide, fun t ht => ?_⟩⟩
    refine q g2 _ _ ?_ (l2.laid ht) ((f1.trans (frTwo s2 l1)).trans (Fr.new ht)) (.int upd_same)
    have : g2.natAbs ≤ 4 := by omega
    exact Nat.le_trans this (by decide +kernel)
end
end My
namespace My
open PySem PySem.Spec PyProof.Rows L2 TL
/-! ### the bounds by the room; _law_function -/
def ops5 : List Str := ["+", "-", "*", "<", "="]
def Wb : Nat → Nat
  | 0 => 3
  | 1 => 3
  | 2 => 74
  | 3 => 455
  | 4 => 2741
  | 5 => 16457
  | _ => 98753
def Fb (m : Nat) : Nat := 9 + Wb (m - 1)
def spPrt (m : Nat) : Sp := fun vs H Q _ => ∃ (S L : Addr) (kv wd : V) (ks : List (Int × Int)) (r : Int), vs = [.ref S, kv, wd, .int r] ∧ LS H S L ∧ KnR S L H kv ks ∧ WdR H wd ∧ r ≤ m ∧ ks.length + 6 * m ≤ 100 ∧ ∀ u t H', LS H' S L → Fr (Two S L) H H' → RT H' u t → GT ks (Wb m) (1 + 2 * m) t → Q u H'
def spFun (m : Nat) : Sp := fun vs H Q _ => ∃ (S L : Addr) (kv wd : V) (ks : List (Int × Int)) (r : Int) (c : Nat), vs = [.ref S, kv, wd, .int r, .int c] ∧ LS H S L ∧ KnR S L H kv ks ∧ WdR H wd ∧ r ≤ m ∧ c ≤ 5 ∧ ks.length + 6 * m ≤ 100 ∧ ∀ u t H', LS H' S L → Fr (Two S L) H H' → RT H' u t → GT ks (Fb m) (2 * m) t → Q u H'
theorem dp_is {K : PySem.W.Frag} {H : Hp} : ∀ ns : List Int, DpAll K H (ns.map V.int) (ns.map PyData.int)
  | [] => .nil
  | n :: ns => .cons (.int n) (dp_is ns)
theorem dp_ss {K : PySem.W.Frag} {H : Hp} : ∀ ns : List Str, DpAll K H (ns.map V.str) (ns.map PyData.str)
  | [] => .nil
  | n :: ns => .cons (.str n) (dp_ss ns)
theorem lay_is : ∀ {xs : List Int}, PyData.canLayAll0 (xs.map PyData.int) = true
  | [] => by unfold List.map PyData.canLayAll0; rfl
  | x :: r => by
    rw [List.map_cons]
    unfold PyData.canLayAll0
    rw [lay_is]
    unfold PyData.canLay0
    rfl
theorem dep_is : ∀ {xs : List Int}, PyData.depthAll (xs.map PyData.int) ≤ 1
  | [] => by unfold List.map PyData.depthAll; omega
  | x :: r => by
    have := dep_is (xs := r)
    rw [List.map_cons]
    unfold PyData.depthAll
    unfold PyData.depth
    omega
theorem shaped_is {xs : List Int} : SeqAt.shaped (.list (xs.map PyData.int)) = true := by
  unfold SeqAt.shaped
  rw [show PyData.canLay0 (.list (xs.map PyData.int)) = true by unfold PyData.canLay0; exact lay_is]
  have := dep_is (xs := xs)
  rw [decide_eq_true (by unfold PyData.depth; omega)]
  rfl
theorem lay_ss : ∀ {xs : List Str}, (∀ x ∈ xs, PyData.strOk x = true) → PyData.canLayAll0 (xs.map PyData.str) = true
  | [], _ => by unfold List.map PyData.canLayAll0; rfl
  | x :: r, h => by
    rw [List.map_cons]
    unfold PyData.canLayAll0
    rw [lay_ss fun y m => h y (List.mem_cons_of_mem _ m)]
    unfold PyData.canLay0
    rw [h x List.mem_cons_self]
    rfl
theorem dep_ss : ∀ {xs : List Str}, PyData.depthAll (xs.map PyData.str) ≤ 1
  | [] => by unfold List.map PyData.depthAll; omega
  | x :: r => by
    have := dep_ss (xs := r)
    rw [List.map_cons]
    unfold PyData.depthAll
    unfold PyData.depth
    omega
theorem shaped_ss {xs : List Str} (h : ∀ x ∈ xs, PyData.strOk x = true) : SeqAt.shaped (.list (xs.map PyData.str)) = true := by
  unfold SeqAt.shaped
  rw [show PyData.canLay0 (.list (xs.map PyData.str)) = true by unfold PyData.canLay0; exact lay_ss h]
  have := dep_ss (xs := xs)
  rw [decide_eq_true (by unfold PyData.depth; omega)]
  rfl
theorem shaped_n0 : SeqAt.shaped (.list []) = true := by decide +kernel
theorem eqv_is {xs : List Int} : PyData.eqv (.list (xs.map PyData.int)) (.list []) = xs.isEmpty := by
  cases xs with
  | nil => unfold List.map PyData.eqv PyData.eqvAll; rfl
  | cons x r => unfold List.map PyData.eqv PyData.eqvAll; rfl
theorem eqv_ss {xs : List Str} : PyData.eqv (.list (xs.map PyData.str)) (.list []) = xs.isEmpty := by
  cases xs with
  | nil => unfold List.map PyData.eqv PyData.eqvAll; rfl
  | cons x r => unfold List.map PyData.eqv PyData.eqvAll; rfl
theorem wd_ok {x : Str} (h : x ∈ wdNames) : PyData.strOk x = true ∧ ∃ m y, Txt.split x " " = [m, y] ∧ m ∈ globM ∧ y ∈ globX ∧ x.length ≤ 10 := by
  simp only [wdNames, List.mem_cons, List.not_mem_nil, or_false] at h
  rcases h with e | e | e | e <;> subst e
  · exact ⟨by decide +kernel, "m", "a", by decide +kernel, by decide, by decide, by decide⟩
  · exact ⟨by decide +kernel, "ma", "a", by decide +kernel, by decide, by decide, by decide⟩
  · exact ⟨by decide +kernel, "m", "aa", by decide +kernel, by decide, by decide, by decide⟩
  · exact ⟨by decide +kernel, "m", "b", by decide +kernel, by decide, by decide, by decide⟩
/-- a list not empty has the drawn element -/
theorem pick_in {α : Type} {xs : List α} {g : Int} (h0 : 0 ≤ g) (h1 : g < xs.length) : ∃ x, x ∈ xs ∧ xs[g.toNat]? = some x ∧ g = ((g.toNat : Nat) : Int) := by
  have h : g.toNat < xs.length := by omega
  exact ⟨xs[g.toNat], List.getElem_mem h, List.getElem?_eq_getElem h, by omega⟩
theorem pick_map {α : Type} {f : α → V} {xs : List α} {g : Int} (h0 : 0 ≤ g) (h1 : g < xs.length) : ∃ x, x ∈ xs ∧ atI (xs.map f) g = some (f x) := by
  obtain ⟨x, m, e, eg⟩ := pick_in h0 h1
  refine ⟨x, m, ?_⟩
  rw [eg]
  exact atI_nat (by rw [List.getElem?_map, e]; rfl)
theorem gt_leaf {ks : List (Int × Int)} {W D : Nat} {t : Tr} (g : gdT t) (f : ∀ x, fv x t → x ∈ ks.map Prod.fst) (w : wT t = 3) (d : depT t = 1) (hW : 3 ≤ W) (hD : 1 ≤ D) : GT ks W D t := ⟨g, f, by omega, by omega⟩
theorem Wb_ge : ∀ m, 3 ≤ Wb m
  | 0 => by decide
  | 1 => by decide
  | 2 => by decide
  | 3 => by decide
  | 4 => by decide
  | 5 => by decide
  | _ + 6 => by show 3 ≤ 98753; omega
theorem valV_ws {ps : List (Str × Int)} {x : Str} (h : x ∈ ps.map Prod.fst) : ∃ i : Int, valV (ps.map fun p => ((Sum.inr p.1 : Key), V.int p.2)) (.inr x) = some (.int i) ∧ (x, i) ∈ ps := by
  induction ps with
  | nil => cases h
  | cons p r ih =>
    by_cases c : p.1 = x
    · exact ⟨p.2, by rw [List.map_cons]; exact valV_pos (by rw [c]), by rw [← c]; exact List.mem_cons_self⟩
    · rw [List.map_cons] at h
      obtain ⟨i, hi, hm⟩ := ih ((List.mem_cons.mp h).resolve_left fun z => c z.symm)
      exact ⟨i, by rw [List.map_cons, valV_neg (fun z => c (Sum.inr.inj z))]; exact hi, List.mem_cons_of_mem _ hm⟩
theorem sl1 : 1 ≤ sizeLine := by decide
theorem sl2 : 2 ≤ sizeLine := by decide
theorem sl3 : 3 ≤ sizeLine := by decide
theorem sl4 : 4 ≤ sizeLine := by decide
abbrev sFnc : Stmt := top 46
abbrev NFn : List Str := ["state", "known", "world", "room", "arity", "pick", "names", "globals_there", "numbers", "inner", "name", "number"]
section
variable {P : Program} {w : World} {K : PySem.W.Frag} {mg : Str → Option Value} {base : Heap}
theorem scFnc : FnScope NFn ["state", "known", "world", "room", "arity"] (defScope sFnc) := ⟨rfl, rfl, rfl, by decide +kernel, rfl, by decide +kernel, by decide +kernel⟩
theorem ok_fnc {f fT fL fN fP : Addr} {fd dT dL dN dP : FuncData} {k m : Nat} (hk3 : 3 ≤ k) (F : Fun K "_law_function" "_law_function" sFnc f fd) (B : Blt mg) (BS : mg "sorted" = none) (GT : Cal P w K mg base CX0 2 "_law_take" ["state", "limit"] spTake fT dT) (GL : Cal P w K mg base CX0 1 "_law_locals" ["known", "sort"] spLoc fL dL)
    (GN : Cal P w K mg base CX0 3 "_law_numbers" ["state", "count"] spNus fN dN) (GP : Cal P w K mg base CX0 k "_law_part" ["state", "known", "world", "room"] (spPrt m) fP dP) : FnOk P w K mg base CX0 (k + 1) f fd ["state", "known", "world", "room", "arity"] (spFun (m + 1)) := by
  refine F.ok scFnc (fun vs H Q E h => ?_) (fun cdv A outer s H vs Q E hr h => ?_)
  · obtain ⟨S, L, kv, wd, ks, r, c, rfl, _⟩ := h
    rfl
  obtain ⟨S, L, kv, wd, ks, r, c, rfl, hl, kn, wr, rm, c5, kl, q⟩ := h
  have nd := scFnc.nd
  have hu := hu_of hr
  have r1 : Room 1 _ := hr.mono (show 1 ≤ k by omega)
  have r2 : Room 2 _ := hr.mono (show 2 ≤ k by omega)
  have r3 : Room 3 _ := hr.mono hk3
  refine ⟨_, (pss_cons (ps_set (i := 5) nd rfl (Or.inl rfl) (pe_call GT.ok r2 rfl GT.g GT.k GT.b .nil pass0 (pa_cons (pv 0) (pa_cons pe_int pa_nil))))
    (pss_cons (ps_set (i := 6) nd rfl (Or.inl rfl) (pe_call GL.ok r1 rfl GL.g GL.k GL.b .nil pass0 (pa_cons (pv 1) (pa_cons (pv 4) pa_nil))))
    (C8.pss_cut (ps_if (PW.pt (pw_and (pt_cmpR op_lt (pv 5) pe_int (nomark _)) (pw_and1 (pt_cmpR (op_neD hr.units) (pv 6) (pe_lst pa_nil) (nomark _))))) (pss_one (ps_ret (pe_tup (pa_cons pe_str (pa_cons (pe_ix (r := rIxL K) ix_list (pv 6) (pe_call GT.ok r2 rfl GT.g GT.k GT.b .nil pass0 (pa_cons (pv 0) (pa_cons (pe_callB call_len_seq (by rfl) B.len PySem.boot_len (pa_cons (pv 6) pa_nil)) pa_nil))) (fun _ _ => rfl)) pa_nil))))) pss_nil)
    (pss_cons (ps_setLc (i := 7) (own := [("name", 10)]) (g := gName 10) rfl nd rfl rfl (sw_true rfl rfl rfl (by decide +kernel)) (pi_list (pe_callB (call_sortedD rfl) (by rfl) BS (by decide +kernel) (pa_cons (pv 2) pa_nil))) (blkOk_by (N := NFn) (sc := defScope sFnc) (by decide +kernel)) (fun _ _ _ _ _ => (pg_name (i := 10) nd rfl (Or.inl rfl) (hf := Or.inr rfl))) (fun _ _ _ _ _ => pts_one (pt_cmpR op_eq (pe_dget hu (pv 2) (pv 10) (fun _ _ => rfl)) (pv 4) (nomark _))) (fun _ _ _ _ _ => (pv 10)))
    (C8.pss_cut (ps_if (PW.pt (pw_and (pt_cmpR op_eq (pv 5) pe_int (nomark _)) (pw_and1 (pt_cmpR (op_neD hr.units) (pv 7) (pe_lst pa_nil) (nomark _))))) (pss_one (ps_ret (pe_op op_catT (pe_tup (pa_cons pe_str pa_nil)) (pe_callTy call_tuple_of (by rfl) B.tuple (by decide +kernel) (pa_cons (pe_split (pe_ix (r := rIxL K) ix_list (pv 7) (pe_call GT.ok r2 rfl GT.g GT.k GT.b .nil pass0 (pa_cons (pv 0) (pa_cons (pe_callB call_len_seq (by rfl) B.len PySem.boot_len (pa_cons (pv 7) pa_nil)) pa_nil))) (fun _ _ => rfl)) pe_str) pa_nil))))) pss_nil)
    (C8.pss_cut (ps_if (PW.pt (pw_and (pt_cmpR op_eq (pv 4) pe_int (nomark _)) (pw_and1 (pt_cmpR op_eq (pv 5) pe_int (nomark _))))) (pss_one (ps_ret (pe_tup (pa_cons pe_str (pa_cons (pe_ix (r := rIxL K) ix_list (pe_lst (pa_cons pe_str (pa_cons pe_str (pa_cons pe_str (pa_cons pe_str (pa_cons pe_str pa_nil)))))) (pe_call GT.ok r2 rfl GT.g GT.k GT.b .nil pass0 (pa_cons (pv 0) (pa_cons pe_int pa_nil))) (fun _ _ => rfl)) pa_nil))))) pss_nil)
    (pss_cons (ps_set (i := 8) nd rfl (Or.inl rfl) (pe_call GN.ok r3 rfl GN.g GN.k GN.b .nil pass0 (pa_cons (pv 0) (pa_cons (pv 4) pa_nil))))
    (pss_cons (ps_set (i := 9) nd rfl (Or.inl rfl) (pe_op op_cat (pv 1) (pe_lc (own := [("number", 11)]) (g := gName 11) (tt := tYes) rfl nd (pi_list (pv 8)) (blkOk_by (N := NFn) (sc := defScope sFnc) (by decide +kernel)) (fun _ _ _ _ _ => (pg_name (i := 11) nd rfl (Or.inl rfl) (hf := Or.inr rfl))) (fun _ _ _ _ _ => pts_nil) (fun _ _ _ _ _ => (pe_tup (pa_cons (pv 11) (pa_cons (pe_un un_neg pe_int) pa_nil)))))))
    (pss_one (ps_ret (pe_tup (pa_cons pe_str (pa_cons (pe_callTy call_tuple_of (by rfl) B.tuple (by decide +kernel) (pa_cons (pv 8) pa_nil)) (pa_cons (pe_call GP.ok hr rfl GP.g GP.k GP.b .nil pass0 (pa_cons (pv 0) (pa_cons (pv 9) (pa_cons (pv 2) (pa_cons (pe_op op_sub (pv 3) pe_int) pa_nil))))) pa_nil)))))))))))))), ?_⟩
  refine ⟨_, rfl, S, L, 4, rfl, hl, by decide, nbs (by decide), fun g1 H1 a1 b1 l1 s1 => ?_⟩
  have f1 := frTwo s1 hl
  obtain ⟨⟨ka, us, ekv, hka, kal, kna⟩, knm⟩ := kn.fr f1
  subst ekv
  refine ⟨_, rfl, _, rfl, ka, us, ks, c, rfl, hka, kal, by omega, fun p ns H2 f2 hp0 hp mem ln => ?_⟩
  have l2 := l1.sm f2.sm
  have f02 := f1.trans f2.no
  have W3 := Wb_ge m
  have F3 : 3 ≤ Fb (m + 1) := by unfold Fb; omega
  refine ⟨fun σ H' => ∃ v6, σ = [some (.ref S), some (.ref ka), some wd, some (.int r), some (.int (c : Nat)), some (.int g1), v6, none, none, none, none, none] ∧ LS H' S L ∧ Fr (Two S L) H H', ?_, ?_⟩
  · refine ⟨_, rfl, _, _, rfl, rfl, _, rfl, ?_⟩
    refine ite2 (fun _ => ?_) (fun _ => ⟨_, rfl, l2, f02⟩)
    refine ⟨_, rfl, by show 0 ≤ sizeLine; decide, fun z hz => ?_⟩
    have fz : Fr No H2 (upd H2 z (.lst [])) := Fr.new hz
    have hp3 := fz.keep (fun z => z) rfl hp
    have l3 := l2.sm fz.sm
    refine ⟨.list (ns.map PyData.int), .list [], .lst (SqL.of hp3) (dp_is ns), .lst (SqL.of upd_same) .nil, shaped_is, shaped_n0, _, rfl, ?_⟩
    rw [eqv_is]
    refine ite2 (fun e => ?_) (fun _ => ⟨_, rfl, l3, f02.trans fz.no⟩)
    have ne : 0 < ns.length := by
      cases ns with
      | nil => cases e
      | cons a b => exact Nat.succ_pos _
    refine ⟨_, rfl, _, rfl, _, rfl, p, _, rfl, .inl (SqL.of hp3), S, L, _, rfl, l3, by rw [List.length_map]; omega, nbs (by rw [List.length_map]; omega), fun g2 H4 a2 b2 l4 s4 => ?_⟩
    rw [List.length_map] at b2
    have f4 := frTwo s4 l3
    have hp4 := f4.keep (l1.two hp0) rfl hp3
    obtain ⟨x, xm, ex⟩ := pick_map (f := V.int) a2 b2
    refine ⟨p, _, g2, .int x, rfl, rfl, SqL.of hp4, ex, sl2, fun t ht => ?_⟩
    have ft : Fr No H4 (upd H4 t (.tup [.str "local", .int x])) := Fr.new ht
    exact q _ (.loc x) _ (l4.sm ft.sm) ((f02.trans fz.no).trans (f4.trans ft.no)) (.loc upd_same) (gt_leaf trivial (fun y e => by cases e; exact mem x xm) rfl rfl F3 (by omega))
  rintro σ H3 ⟨v6, rfl, l3, f03⟩
  -- the definitions with as many parameters
  have wr3 := wr.fr hl f03
  obtain ⟨wa, ps, ewd, hwa, lps, wps⟩ := wr3
  subst ewd
  refine ⟨_, rfl, wa, _, ps.map Prod.fst, rfl, .inl hwa, by rw [List.map_map, List.map_map]; rfl, by rw [List.length_map]; omega, fun ys y1 perm srt hy1 => ?_⟩
  have fy : Fr No H3 (upd H3 y1 (.lst (ys.map V.str))) := Fr.new hy1
  have ey1 : upd H3 y1 (.lst (ys.map V.str)) y1 = some (.lst (ys.map V.str)) := upd_same
  have hwa4 := fy.keep (fun z => z) rfl hwa
  have l4 := l3.sm fy.sm
  generalize upd H3 y1 (.lst (ys.map V.str)) = H4 at fy ey1 hwa4 l4 ⊢
  have ylen : ys.length = ps.length := by rw [perm.length_eq, List.length_map]
  have yin : ∀ y ∈ ys, y ∈ ps.map Prod.fst := fun y m => perm.mem_iff.mp m
  refine ⟨y1, rfl, ⟨_, SqL.of ey1⟩, fun D hD => ?_⟩
  refine lc_list (xs := ys.map V.str) (fun i H' => ∃ zs : List Str, H' D = some (.lst (zs.map V.str)) ∧ (∀ z ∈ zs, z ∈ wdNames) ∧ zs.length ≤ i ∧ Fr No H4 H') ⟨[], upd_same, (fun _ m => by cases m), Nat.le_refl _, Fr.new hD⟩ (fun i H' _ ⟨_, _, _, _, z⟩ => SqL.of (z.keep (fun z => z) rfl ey1)) ?_ ?_
  · rintro i v H' hi ⟨zs, h1, h2, h3, f⟩
    rw [List.getElem?_map] at hi
    obtain ⟨y, hy, rfl⟩ := Option.map_eq_some_iff.mp hi
    have ym := yin y (List.mem_of_getElem? hy)
    have il : i < ys.length := (List.getElem?_eq_some_iff.mp hy).1
    obtain ⟨j, hj, _⟩ := valV_ws ym
    refine ⟨rfl, _, rfl, _, rfl, wa, .int j, rfl, ?_, ?_⟩
    · have := DGet.k (k := Sum.inr y) (f.keep (fun z => z) rfl hwa4)
      rw [hj] at this
      exact this
    refine ⟨_, rfl, rfl, _, rfl, ?_⟩
    refine ite2 (fun _ => ?_) (fun _ => ⟨zs, h1, h2, by omega, f⟩)
    refine ⟨_, rfl, _, h1, Nat.lt_of_le_of_lt (show _ ≤ 1000000 by rw [List.length_map]; omega) (by decide), zs ++ [y], by rw [upd_same, List.map_append]; rfl, fun z m => ?_, by rw [List.length_append]; exact Nat.succ_le_succ h3, f.mut hD h1 rfl⟩
    rcases List.mem_append.mp m with m | m
    · exact h2 z m
    · rw [List.mem_singleton.mp m]
      obtain ⟨pp, pm, e⟩ := List.mem_map.mp ym
      rw [← e]
      exact wps pp pm
  rintro H5 ⟨zs, h1, h2, h3, f45⟩
  rw [List.length_map] at h3
  have f35 := fy.trans f45
  have l5 := l3.sm f35.sm
  have f05 := f03.trans f35.no
  have nD : ¬ Two S L D := l4.two hD
  refine ⟨fun σ H' => ∃ v6 v7, σ = [some (.ref S), some (.ref ka), some (.ref wa), some (.int r), some (.int (c : Nat)), some (.int g1), v6, v7, none, none, none, none] ∧ LS H' S L ∧ Fr (Two S L) H H', ?_, ?_⟩
  · refine ⟨_, rfl, rfl, _, rfl, ?_⟩
    refine ite2 (fun _ => ?_) (fun _ => ⟨_, _, rfl, l5, f05⟩)
    refine ⟨_, rfl, by show 0 ≤ sizeLine; decide, fun z hz => ?_⟩
    have fz : Fr No H5 (upd H5 z (.lst [])) := Fr.new hz
    have hp3 := fz.keep (fun z => z) rfl h1
    have l6 := l5.sm fz.sm
    refine ⟨.list (zs.map PyData.str), .list [], .lst (SqL.of hp3) (dp_ss zs), .lst (SqL.of upd_same) .nil, shaped_ss (fun x m => (wd_ok (h2 x m)).1), shaped_n0, _, rfl, ?_⟩
    rw [eqv_ss]
    refine ite2 (fun e => ?_) (fun _ => ⟨_, _, rfl, l6, f05.trans fz.no⟩)
    have ne : 0 < zs.length := by
      cases zs with
      | nil => cases e
      | cons a b => exact Nat.succ_pos _
    refine ⟨sl1, fun t1 ht1 => ?_⟩
    have ft1 : Fr No (upd H5 z (.lst [])) (upd (upd H5 z (.lst [])) t1 (.tup [.str "global"])) := Fr.new ht1
    have et1 : upd (upd H5 z (.lst [])) t1 (.tup [.str "global"]) t1 = some (.tup [.str "global"]) := upd_same
    have l7 := l6.sm ft1.sm
    have hp4 := ft1.keep (fun z => z) rfl hp3
    have f07 := (f05.trans fz.no).trans ft1.no
    generalize upd (upd H5 z (.lst [])) t1 (.tup [.str "global"]) = H7 at ft1 et1 l7 hp4 f07 ⊢
    refine ⟨_, rfl, _, rfl, _, rfl, D, _, rfl, .inl (SqL.of hp4), S, L, _, rfl, l7, by rw [List.length_map]; omega, nbs (by rw [List.length_map]; omega), fun g2 H8 a2 b2 l8 s8 => ?_⟩
    rw [List.length_map] at b2
    have f8 := frTwo s8 l7
    have hp5 := f8.keep nD rfl hp4
    obtain ⟨x, xm, ex⟩ := pick_map (f := V.str) a2 b2
    obtain ⟨_, mm, yy, esp, hm, hy, hx10⟩ := wd_ok (h2 x xm)
    refine ⟨D, _, g2, .str x, rfl, rfl, SqL.of hp5, ex, ⟨_, rfl⟩, x, " ", rfl, rfl, rfl, Nat.le_trans (Nat.add_le_add_right hx10 2) (by decide), fun l hl0 => ?_⟩
    rw [esp]
    have fl : Fr No H8 (upd H8 l (.lst ([mm, yy].map V.str))) := Fr.new hl0
    refine ⟨l, [.str mm, .str yy], rfl, .inl ⟨SqL.of upd_same, fun l2 hl2 => ?_⟩⟩
    have fl2 : Fr No (upd H8 l (.lst ([mm, yy].map V.str))) (upd (upd H8 l (.lst ([mm, yy].map V.str))) l2 (.tup [.str mm, .str yy])) := Fr.new hl2
    have et3 := (f8.trans (fl.trans fl2).no).tup _ _ et1
    refine ⟨t1, l2, _, _, rfl, rfl, SqT.of et3, SqT.of upd_same, by simp, by show 3 ≤ sizeLine; decide, (fun z => by cases z), fun _ u hu0 => ?_⟩
    have fu : Fr No _ (upd (upd (upd H8 l (.lst ([mm, yy].map V.str))) l2 (.tup [.str mm, .str yy])) u (.tup ([.str "global"] ++ [.str mm, .str yy]))) := Fr.new hu0
    exact q _ (.glob mm yy) _ (l8.sm (fl.trans (fl2.trans fu)).sm) (f07.trans (f8.trans (fl.trans (fl2.trans fu)).no)) (.glob upd_same) (gt_leaf ⟨hm, hy⟩ (fun y e => e.elim) rfl rfl F3 (by omega))
  rintro σ H6 ⟨v6, v7, rfl, l6, f06⟩
  refine ⟨fun σ H' => ∃ v6 v7, σ = [some (.ref S), some (.ref ka), some (.ref wa), some (.int r), some (.int (c : Nat)), some (.int g1), v6, v7, none, none, none, none] ∧ LS H' S L ∧ Fr (Two S L) H H', ?_, ?_⟩
  · refine ⟨_, rfl, rfl, _, rfl, ?_⟩
    refine ite2 (fun _ => ?_) (fun _ => ⟨_, _, rfl, l6, f06⟩)
    refine ⟨_, rfl, rfl, _, rfl, ?_⟩
    refine ite2 (fun _ => ?_) (fun _ => ⟨_, _, rfl, l6, f06⟩)
    refine ⟨by show 5 ≤ sizeLine; decide, fun z hz => ?_⟩
    have fz : Fr No H6 (upd H6 z (.lst (ops5.map V.str))) := Fr.new hz
    have l7 := l6.sm fz.sm
    refine ⟨_, rfl, S, L, 5, rfl, l7, by decide, nbs (by decide), fun g2 H8 a2 b2 l8 s8 => ?_⟩
    have f8 := frTwo s8 l7
    have hz8 := f8.keep (l6.two hz) rfl (show upd H6 z (.lst (ops5.map V.str)) z = some _ from upd_same)
    obtain ⟨x, xm, ex⟩ := pick_map (f := V.str) (xs := ops5) a2 b2
    refine ⟨z, _, g2, .str x, rfl, rfl, SqL.of hz8, ex, sl2, fun t ht => ?_⟩
    have ft : Fr No H8 (upd H8 t (.tup [.str "prim", .str x])) := Fr.new ht
    refine q _ (.prim x) _ (l8.sm ft.sm) (f06.trans (fz.no.trans (f8.trans ft.no))) (.prim upd_same) (gt_leaf ?_ (fun y e => e.elim) rfl rfl F3 (by omega))
    simp only [ops5, List.mem_cons, List.not_mem_nil, or_false] at xm
    show x ∈ prims8
    rcases xm with e | e | e | e | e <;> subst e <;> decide
  rintro σ H7 ⟨v6', v7', rfl, l7, f07⟩
  -- a new function
  refine ⟨_, rfl, _, rfl, S, L, c, rfl, l7, by omega, fun D2 ns2 H8 l8 f8 hD20 hD2 ln2 hn2 nD2 => ?_⟩
  have f08 := f07.trans f8
  obtain ⟨⟨ka2, us2, ek2, hka2, kal2, kna2⟩, knm2⟩ := kn.fr f08
  cases ek2
  refine ⟨_, rfl, _, rfl, D2, rfl, ⟨_, SqL.of hD2⟩, fun E2 hE2 => ?_⟩
  refine lc_list (xs := ns2.map V.int) (fun i H' => ∃ ws, H' E2 = some (.lst ws) ∧ Als (RK H') ws ((ns2.map fun n => (n, (-1 : Int))).take i) ∧ ws.length = i ∧ Fr No H8 H') ⟨[], upd_same, by rw [List.take_zero]; exact .nil, rfl, Fr.new hE2⟩ (fun i H' _ ⟨_, _, _, _, z⟩ => SqL.of (z.keep (fun z => z) rfl hD2)) ?_ ?_
  · rintro i v H' hi ⟨ws, h1, h2, h3, f⟩
    rw [List.getElem?_map] at hi
    obtain ⟨n, hn, rfl⟩ := Option.map_eq_some_iff.mp hi
    have il : i < ns2.length := (List.getElem?_eq_some_iff.mp hn).1
    refine ⟨rfl, _, rfl, _, rfl, sl2, fun t ht => ?_⟩
    have ft : Fr No H' (upd H' t (.tup [.int n, .int (-1)])) := Fr.new ht
    have h11 := ft.keep (fun z => z) rfl h1
    have fm : Fr (fun b => b = E2) _ (upd (upd H' t (.tup [.int n, .int (-1)])) E2 (.lst (ws ++ [V.ref t]))) := Fr.set rfl h11 rfl
    refine ⟨ws, h11, Nat.lt_of_le_of_lt (show ws.length ≤ 1000000 by omega) (by decide), ws ++ [.ref t], upd_same, ?_, by simp [h3], (f.trans ft).mut hE2 h11 rfl⟩
    have hd2 : (ns2.map fun n => (n, (-1 : Int)))[i]? = some (n, -1) := by rw [List.getElem?_map, hn]; rfl
    rw [take_more hd2]
    exact (h2.mono fun _ _ z => z.keep (ft.tup.trans fm.tup)).app (.one ⟨t, rfl, fm.tup _ _ upd_same⟩)
  rintro H9 ⟨ws, h1, h2, h3, f9⟩
  rw [show (ns2.map V.int).length = (ns2.map fun n => (n, (-1 : Int))).length by rw [List.length_map, List.length_map], List.take_length] at h2
  have lks : us2.length = ks.length := kal2.len
  rw [List.length_map] at h3
  have hka9 := f9.keep (fun z => z) rfl hka2
  refine ⟨ka, E2, us2, ws, rfl, rfl, hka9, h1, Nat.le_trans (show us2.length + ws.length ≤ 1000 by omega) (by decide), fun I hI => ?_⟩
  have fI : Fr No H9 (upd H9 I (.lst (us2 ++ ws))) := Fr.new hI
  have f89 := f9.trans fI
  have l9 := l8.sm f9.sm
  have kI : KnR S L (upd H9 I (.lst (us2 ++ ws))) (.ref I) (ks ++ ns2.map fun n => (n, -1)) := by
    refine ⟨⟨I, _, rfl, upd_same, (kal2.mono fun _ _ z => z.keep f89.tup).app (h2.mono fun _ _ z => z.keep fI.tup), l9.two hI⟩, fun p hp => ?_⟩
    rcases List.mem_append.mp hp with hp | hp
    · exact knm p hp
    · obtain ⟨n, hn, rfl⟩ := List.mem_map.mp hp
      exact hn2 n hn
  have hD29 := f89.keep (fun z => z) rfl hD2
  have l10 := l9.sm fI.sm
  have f010 := f08.trans f89.no
  have wr10 := wr.fr hl f010
  generalize upd H9 I (.lst (us2 ++ ws)) = H10 at fI f89 kI hD29 l10 f010 wr10 ⊢
  refine ⟨_, rfl, D2, _, rfl, .inl ⟨SqL.of hD29, fun T1 hT1 => ?_⟩⟩
  have fT : Fr No H10 (upd H10 T1 (.tup (ns2.map V.int))) := Fr.new hT1
  have eT : upd H10 T1 (.tup (ns2.map V.int)) T1 = some (.tup (ns2.map V.int)) := upd_same
  have l11 := l10.sm fT.sm
  refine ⟨_, rfl, _, rfl, _, rfl, _, rfl, _, _, rfl, rfl, S, L, .ref I, .ref wa, _, r - 1, rfl, l11, kI.fr fT.no, wr10.fr l10 fT.no, by omega, by rw [List.length_append, List.length_map]; omega, fun u t H12 l12 f12 rt gt => ⟨sl3, fun y hy => ?_⟩⟩
  have fy : Fr No H12 (upd H12 y (.tup [.str "fn", .ref T1, u])) := Fr.new hy
  refine q _ (.fn ns2 t) _ (l12.sm fy.sm) (f010.trans (fT.no.trans (f12.trans fy.no))) (.fn upd_same (fy.tup _ _ (f12.tup _ _ eT)) (rt.keep fy.tup)) ?_
  refine ⟨⟨by omega, hn2, gt.g⟩, fun x hx => ?_, ?_, ?_⟩
  · obtain ⟨x1, x2⟩ : fv x t ∧ x ∉ ns2 := hx
    have := gt.f x x1
    rw [List.map_append, List.map_map] at this
    rcases List.mem_append.mp this with m1 | m1
    · exact m1
    · obtain ⟨n, hn, e⟩ := List.mem_map.mp m1
      exact absurd (by rw [← e]; exact hn) x2
  · have := gt.w
    show 4 + ns2.length + wT t ≤ 9 + Wb m
    omega
  · have := gt.d
    show 1 + depT t ≤ 2 * (m + 1)
    omega
end
end My
namespace My
open PySem PySem.Spec PyProof.Rows L2 TL
/-! ### _law_strange -/
def str4 : List Str := ["+", "<", "pair", "first"]
def str3 : List Str := ["first", "second", "first"]
def str3b : List Str := ["+", "=", "*"]
abbrev sStr : Stmt := top 47
abbrev NSt : List Str := ["state", "known", "world", "room", "pick", "one"]
def spStr (m : Nat) : Sp := fun vs H Q _ => ∃ (S L : Addr) (kv wd : V) (ks : List (Int × Int)) (r : Int), vs = [.ref S, kv, wd, .int r] ∧ LS H S L ∧ KnR S L H kv ks ∧ WdR H wd ∧ r ≤ (m : Int) + 1 ∧ ks.length + 6 * m ≤ 100 ∧ ∀ u t H', LS H' S L → Fr (Two S L) H H' → RT H' u t → GT ks (Wb (m + 1)) (1 + 2 * (m + 1)) t → Q u H'
theorem six_of {m : Nat} (h1 : 1 ≤ m) (h5 : m ≤ 5) {p : Nat → Prop} (a : p 1) (b : p 2) (c : p 3) (d : p 4) (e : p 5) : p m := by
  have : m = 1 ∨ m = 2 ∨ m = 3 ∨ m = 4 ∨ m = 5 := by omega
  rcases this with z | z | z | z | z <;> subst z <;> assumption
theorem wb_str {m : Nat} (h1 : 1 ≤ m) (h5 : m ≤ 5) : Fb m + 30 ≤ Wb (m + 1) := six_of (p := fun m => Fb m + 30 ≤ Wb (m + 1)) h1 h5 (by decide) (by decide) (by decide) (by decide) (by decide)
theorem wT_call {f : Tr} {ts : List Tr} : wT (.call f ts) = 2 + wT f + wTs ts := by conv => lhs; unfold wT
theorem depT_call {f : Tr} {ts : List Tr} : depT (.call f ts) = 1 + max (depT f) (depTs ts) := by conv => lhs; unfold depT
section
variable {P : Program} {w : World} {K : PySem.W.Frag} {mg : Str → Option Value} {base : Heap}
theorem scStr : FnScope NSt ["state", "known", "world", "room"] (defScope sStr) := ⟨rfl, rfl, rfl, by decide +kernel, rfl, by decide +kernel, by decide +kernel⟩
theorem ok_str {f fT fS fF : Addr} {fd dT dS dF : FuncData} {k m : Nat} (hk3 : 3 ≤ k) (m1 : 1 ≤ m) (m5 : m ≤ 5) (F : Fun K "_law_strange" "_law_strange" sStr f fd) (GT_ : Cal P w K mg base CX0 2 "_law_take" ["state", "limit"] spTake fT dT) (GS : Cal P w K mg base CX0 3 "_law_small" ["state"] spSml fS dS)
    (GF : Cal P w K mg base CX0 k "_law_function" ["state", "known", "world", "room", "arity"] (spFun m) fF dF) : FnOk P w K mg base CX0 (k + 1) f fd ["state", "known", "world", "room"] (spStr m) := by
  refine F.ok scStr (fun vs H Q E h => ?_) (fun cdv A outer s H vs Q E hr h => ?_)
  · obtain ⟨S, L, kv, wd, ks, r, rfl, _⟩ := h
    rfl
  obtain ⟨S, L, kv, wd, ks, r, rfl, hl, kn, wr, rm, kl, q⟩ := h
  have nd := scStr.nd
  have r2 : Room 2 _ := hr.mono (show 2 ≤ k by omega)
  have r3 : Room 3 _ := hr.mono hk3
  refine ⟨_, (pss_cons (ps_set (i := 4) nd rfl (Or.inl rfl) (pe_call GT_.ok r2 rfl GT_.g GT_.k GT_.b .nil pass0 (pa_cons (pv 0) (pa_cons pe_int pa_nil))))
    (pss_cons (ps_set (i := 5) nd rfl (Or.inl rfl) (pe_call GS.ok r3 rfl GS.g GS.k GS.b .nil pass0 (pa_cons (pv 0) pa_nil)))
    (pss_cons (ps_if (pt_cmpR op_eq (pv 4) pe_int (nomark _)) (pss_one (ps_ret (pe_tup (pa_cons pe_str (pa_cons (pv 5) (pa_cons (pe_tup (pa_cons (pv 5) pa_nil)) pa_nil)))))) pss_nil)
    (pss_cons (ps_if (pt_cmpR op_eq (pv 4) pe_int (nomark _)) (pss_one (ps_ret (pe_tup (pa_cons pe_str (pa_cons (pe_call GF.ok hr rfl GF.g GF.k GF.b .nil pass0 (pa_cons (pv 0) (pa_cons (pv 1) (pa_cons (pv 2) (pa_cons (pe_op op_sub (pv 3) pe_int) (pa_cons pe_int pa_nil)))))) (pa_cons (pe_ix (r := rIxL K) ix_list (pe_lst (pa_cons (pe_tup pa_nil) (pa_cons (pe_tup (pa_cons (pv 5) (pa_cons (pv 5) pa_nil))) pa_nil))) (pe_call GT_.ok r2 rfl GT_.g GT_.k GT_.b .nil pass0 (pa_cons (pv 0) (pa_cons pe_int pa_nil))) (fun _ _ => rfl)) pa_nil)))))) pss_nil)
    (pss_cons (ps_if (pt_cmpR op_eq (pv 4) pe_int (nomark _)) (pss_one (ps_ret (pe_tup (pa_cons pe_str (pa_cons (pe_tup (pa_cons pe_str (pa_cons (pe_ix (r := rIxL K) ix_list (pe_lst (pa_cons pe_str (pa_cons pe_str (pa_cons pe_str (pa_cons pe_str pa_nil))))) (pe_call GT_.ok r2 rfl GT_.g GT_.k GT_.b .nil pass0 (pa_cons (pv 0) (pa_cons pe_int pa_nil))) (fun _ _ => rfl)) pa_nil))) (pa_cons (pe_tup (pa_cons (pv 5) (pa_cons (pv 5) (pa_cons (pv 5) pa_nil)))) pa_nil)))))) pss_nil)
    (pss_cons (ps_if (pt_cmpR op_eq (pv 4) pe_int (nomark _)) (pss_one (ps_ret (pe_tup (pa_cons pe_str (pa_cons (pe_tup (pa_cons pe_str (pa_cons (pe_ix (r := rIxL K) ix_list (pe_lst (pa_cons pe_str (pa_cons pe_str (pa_cons pe_str pa_nil)))) (pe_call GT_.ok r2 rfl GT_.g GT_.k GT_.b .nil pass0 (pa_cons (pv 0) (pa_cons pe_int pa_nil))) (fun _ _ => rfl)) pa_nil))) (pa_cons (pe_tup (pa_cons (pv 5) pa_nil)) pa_nil)))))) pss_nil)
    (pss_cons (ps_if (pt_cmpR op_eq (pv 4) pe_int (nomark _)) (pss_one (ps_ret (pe_tup (pa_cons pe_str (pa_cons (pe_tup (pa_cons pe_str (pa_cons (pe_ix (r := rIxL K) ix_list (pe_lst (pa_cons pe_str (pa_cons pe_str (pa_cons pe_str pa_nil)))) (pe_call GT_.ok r2 rfl GT_.g GT_.k GT_.b .nil pass0 (pa_cons (pv 0) (pa_cons pe_int pa_nil))) (fun _ _ => rfl)) pa_nil))) (pa_cons (pe_tup (pa_cons (pv 5) (pa_cons (pe_tup (pa_cons pe_str (pa_cons pe_str pa_nil))) pa_nil))) pa_nil)))))) pss_nil)
    (pss_cons (ps_if (pt_cmpR op_eq (pv 4) pe_int (nomark _)) (pss_one (ps_ret (pe_tup (pa_cons pe_str (pa_cons (pe_ix (r := rIxL K) ix_list (pe_lst (pa_cons pe_str (pa_cons pe_str (pa_cons pe_str pa_nil)))) (pe_call GT_.ok r2 rfl GT_.g GT_.k GT_.b .nil pass0 (pa_cons (pv 0) (pa_cons pe_int pa_nil))) (fun _ _ => rfl)) (pa_cons (pe_ix (r := rIxL K) ix_list (pe_lst (pa_cons pe_str (pa_cons pe_str (pa_cons pe_str (pa_cons pe_str pa_nil))))) (pe_call GT_.ok r2 rfl GT_.g GT_.k GT_.b .nil pass0 (pa_cons (pv 0) (pa_cons pe_int pa_nil))) (fun _ _ => rfl)) pa_nil)))))) pss_nil)
    (pss_cons (ps_if (pt_cmpR op_eq (pv 4) pe_int (nomark _)) (pss_one (ps_ret (pe_tup (pa_cons pe_str (pa_cons (pe_call GF.ok hr rfl GF.g GF.k GF.b .nil pass0 (pa_cons (pv 0) (pa_cons (pv 1) (pa_cons (pv 2) (pa_cons (pe_op op_sub (pv 3) pe_int) (pa_cons pe_int pa_nil)))))) (pa_cons (pv 5) (pa_cons (pe_tup (pa_cons pe_str (pa_cons pe_int pa_nil))) pa_nil))))))) pss_nil)
    (pss_one (ps_ret (pe_tup (pa_cons pe_str (pa_cons (pe_tup (pa_cons pe_str (pa_cons pe_str pa_nil))) (pa_cons (pe_tup (pa_cons (pv 5) (pa_cons (pe_call GF.ok hr rfl GF.g GF.k GF.b .nil pass0 (pa_cons (pv 0) (pa_cons (pv 1) (pa_cons (pv 2) (pa_cons (pe_op op_sub (pv 3) pe_int) (pa_cons pe_int pa_nil)))))) pa_nil))) pa_nil))))))))))))))), ?_⟩
  have wb := wb_str m1 m5
  have fb : 9 ≤ Fb m := by unfold Fb; omega
  refine ⟨_, rfl, S, L, 8, rfl, hl, by decide, nbs (by decide), fun g1 H1 a1 b1 l1 s1 => ?_⟩
  have f1 := frTwo s1 hl
  refine ⟨_, rfl, S, L, rfl, l1, fun i o H2 bi l2 f2 ro => ?_⟩
  have f02 := f1.trans f2
  have kn2 := kn.fr f02
  have wr2 := wr.fr hl f02
  have go : gdT (.int i) := bi
  -- the call of _law_function, in any of the three places
  have fun_at : ∀ (H3 : Hp) (Q3 : VK), LS H3 S L → Fr (Two S L) H H3 → (∀ u t H', LS H' S L → Fr (Two S L) H3 H' → RT H' u t → GT ks (Fb m) (2 * m) t → Q3 u H') → spFun m [.ref S, kv, wd, .int (r - 1), .int 1] H3 Q3 E0 :=
    fun H3 Q3 l f q3 => ⟨S, L, kv, wd, ks, r - 1, 1, rfl, l, kn.fr f, wr.fr hl f, by omega, by omega, kl, q3⟩
  refine ⟨_, rfl, rfl, _, rfl, ?_⟩
  refine ite2 (fun _ => ?_) (fun _ => ?_)
  · refine ⟨_, rfl, _, rfl, sl1, fun t1 h1 => ⟨sl3, fun t2 h2 => ?_⟩⟩
    have g1 := Fr.new (X := No) (o := .tup [o]) h1
    have g2 := Fr.new (X := No) (o := .tup [V.str "call", o, .ref t1]) h2
    have g := g1.trans g2
    exact q _ (.call (.int i) [.int i]) _ (l2.sm g.sm) (f02.trans g.no) (.call upd_same (g2.tup _ _ upd_same) (ro.keep g.tup) (.cons (ro.keep g.tup) .nil))
      ⟨⟨by show 1 ≤ 5; omega, go, go, trivial⟩, fun x h => (by simp [fv, fvs] at h), by simp [wT, wTs]; omega, by simp [depT, depTs]; omega⟩
  refine ⟨_, rfl, rfl, _, rfl, ?_⟩
  refine ite2 (fun _ => ?_) (fun _ => ?_)
  · refine ⟨_, rfl, _, rfl, _, rfl, _, rfl, _, _, rfl, rfl, fun_at H2 _ l2 f02 fun u t H3 l3 f3 rt gt => ?_⟩
    refine ⟨by show 0 ≤ sizeLine; decide, fun e he => ⟨_, rfl, _, rfl, sl2, fun d hd => ⟨sl2, fun z hz => ?_⟩⟩⟩
    have g1 := Fr.new (X := No) (o := .tup []) he
    have g2 := Fr.new (X := No) (o := .tup [o, o]) hd
    have g3 := Fr.new (X := No) (o := .lst [V.ref e, .ref d]) hz
    have g13 := g1.trans (g2.trans g3)
    have l4 := l3.sm g13.sm
    refine ⟨_, rfl, S, L, 2, rfl, l4, by decide, nbs (by decide), fun gg H5 a5 b5 l5 s5 => ?_⟩
    have f5 := frTwo s5 l4
    have hz5 := f5.keep ((l3.sm (g1.trans g2).sm).two hz) rfl upd_same
    have e5 := f5.tup _ _ ((g2.trans g3).tup _ _ (show upd H3 e (.tup []) e = some (.tup []) from upd_same))
    have d5 := f5.tup _ _ (g3.tup _ _ (show upd (upd H3 e (.tup [])) d (.tup [o, o]) d = some (.tup [o, o]) from upd_same))
    have o5 := ((ro.keep f3.tup).keep g13.tup).keep f5.tup
    have pick : ∃ (b : Addr) (vs : List V) (ts : List Tr), atI [V.ref e, .ref d] gg = some (.ref b) ∧ H5 b = some (.tup vs) ∧ RTs H5 vs ts ∧ gdTs ts ∧ ts.length ≤ 2 ∧ (∀ x, ¬ fvs x ts) ∧ wTs ts ≤ 8 ∧ depTs ts ≤ 1 := by
      have c : gg = 0 ∨ gg = 1 := by omega
      rcases c with c | c <;> rw [c]
      · exact ⟨e, [], [], rfl, e5, .nil, trivial, by show 0 ≤ 2; omega, fun x h => h.elim, by show 0 ≤ 8; omega, by show 0 ≤ 1; omega⟩
      · exact ⟨d, [o, o], [.int i, .int i], rfl, d5, .cons o5 (.cons o5 .nil), ⟨go, go, trivial⟩, by show 2 ≤ 2; omega, fun x h => (by simp [fv, fvs] at h), by simp [wT, wTs], by simp [depT, depTs]⟩
    obtain ⟨b, vs, ts, ea, hb, rts, gts, l2', nf, wts, dts⟩ := pick
    refine ⟨z, _, gg, _, rfl, rfl, SqL.of hz5, ea, sl3, fun y hy => ?_⟩
    have g6 := Fr.new (X := No) (o := .tup [V.str "call", u, .ref b]) hy
    have ff : Fr (Two S L) H3 _ := (g13.no.trans f5).trans g6.no
    refine q _ (.call t ts) _ (l5.sm g6.sm) (f02.trans (f3.trans ff)) (.call upd_same (g6.tup _ _ hb) (rt.keep ff.tup) (rts.keep g6.tup)) ⟨⟨by omega, gt.g, gts⟩, fun x h => ?_, ?_, ?_⟩
    · rcases h with h | h
      · exact gt.f x h
      · exact (nf x h).elim
    · have := gt.w; rw [wT_call]; omega
    · have := gt.d; rw [depT_call]; omega
  refine ⟨_, rfl, rfl, _, rfl, ?_⟩
  refine ite2 (fun _ => ?_) (fun _ => ?_)
  · refine ⟨by show 4 ≤ sizeLine; decide, fun z hz => ?_⟩
    have fz : Fr No H2 (upd H2 z (.lst (str4.map V.str))) := Fr.new hz
    refine ⟨_, rfl, S, L, 4, rfl, l2.laid hz, by decide, nbs (by decide), fun gg H5 a5 b5 l5 s5 => ?_⟩
    have f5 := frTwo s5 (l2.laid hz)
    have hz5 := f5.keep (l2.two hz) rfl (show upd H2 z (.lst (str4.map V.str)) z = some _ from upd_same)
    obtain ⟨x, xm, ex⟩ := pick_map (f := V.str) (xs := str4) a5 b5
    refine ⟨z, _, gg, .str x, rfl, rfl, SqL.of hz5, ex, sl2, fun t1 h1 => ⟨_, rfl, _, rfl, _, rfl, sl3, fun t2 h2 => ⟨sl3, fun t3 h3 => ?_⟩⟩⟩
    have g1 := Fr.new (X := No) (o := .tup [V.str "prim", .str x]) h1
    have g2 := Fr.new (X := No) (o := .tup [o, o, o]) h2
    have g3 := Fr.new (X := No) (o := .tup [V.str "call", .ref t1, .ref t2]) h3
    have g23 := g2.trans g3
    have ff : Fr (Two S L) H2 _ := (fz.no.trans f5).trans (g1.trans g23).no
    have o6 := ro.keep ff.tup
    have xp : x ∈ prims8 := by
      simp only [str4, List.mem_cons, List.not_mem_nil, or_false] at xm
      rcases xm with e | e | e | e <;> subst e <;> decide
    exact q _ (.call (.prim x) [.int i, .int i, .int i]) _ (l5.sm (g1.trans g23).sm) (f02.trans ff) (.call upd_same (g3.tup _ _ upd_same) (.prim (g23.tup _ _ upd_same)) (.cons o6 (.cons o6 (.cons o6 .nil))))
      ⟨⟨by show 3 ≤ 5; omega, xp, go, go, go, trivial⟩, fun x h => (by simp [fv, fvs] at h), by simp [wT, wTs]; omega, by simp [depT, depTs]; omega⟩
  refine ⟨_, rfl, rfl, _, rfl, ?_⟩
  refine ite2 (fun _ => ?_) (fun _ => ?_)
  · refine ⟨by show 3 ≤ sizeLine; decide, fun z hz => ?_⟩
    have fz : Fr No H2 (upd H2 z (.lst (str3.map V.str))) := Fr.new hz
    refine ⟨_, rfl, S, L, 3, rfl, l2.laid hz, by decide, nbs (by decide), fun gg H5 a5 b5 l5 s5 => ?_⟩
    have f5 := frTwo s5 (l2.laid hz)
    have hz5 := f5.keep (l2.two hz) rfl (show upd H2 z (.lst (str3.map V.str)) z = some _ from upd_same)
    obtain ⟨x, xm, ex⟩ := pick_map (f := V.str) (xs := str3) a5 b5
    refine ⟨z, _, gg, .str x, rfl, rfl, SqL.of hz5, ex, sl2, fun t1 h1 => ⟨_, rfl, sl1, fun t2 h2 => ⟨sl3, fun t3 h3 => ?_⟩⟩⟩
    have g1 := Fr.new (X := No) (o := .tup [V.str "prim", .str x]) h1
    have g2 := Fr.new (X := No) (o := .tup [o]) h2
    have g3 := Fr.new (X := No) (o := .tup [V.str "call", .ref t1, .ref t2]) h3
    have g23 := g2.trans g3
    have ff : Fr (Two S L) H2 _ := (fz.no.trans f5).trans (g1.trans g23).no
    have o6 := ro.keep ff.tup
    have xp : x ∈ prims8 := by
      simp only [str3, List.mem_cons, List.not_mem_nil, or_false] at xm
      rcases xm with e | e | e <;> subst e <;> decide
    exact q _ (.call (.prim x) [.int i]) _ (l5.sm (g1.trans g23).sm) (f02.trans ff) (.call upd_same (g3.tup _ _ upd_same) (.prim (g23.tup _ _ upd_same)) (.cons o6 .nil))
      ⟨⟨by show 1 ≤ 5; omega, xp, go, trivial⟩, fun x h => (by simp [fv, fvs] at h), by simp [wT, wTs]; omega, by simp [depT, depTs]; omega⟩
  refine ⟨_, rfl, rfl, _, rfl, ?_⟩
  refine ite2 (fun _ => ?_) (fun _ => ?_)
  · refine ⟨by show 3 ≤ sizeLine; decide, fun z hz => ?_⟩
    have fz : Fr No H2 (upd H2 z (.lst (str3b.map V.str))) := Fr.new hz
    refine ⟨_, rfl, S, L, 3, rfl, l2.laid hz, by decide, nbs (by decide), fun gg H5 a5 b5 l5 s5 => ?_⟩
    have f5 := frTwo s5 (l2.laid hz)
    have hz5 := f5.keep (l2.two hz) rfl (show upd H2 z (.lst (str3b.map V.str)) z = some _ from upd_same)
    obtain ⟨x, xm, ex⟩ := pick_map (f := V.str) (xs := str3b) a5 b5
    refine ⟨z, _, gg, .str x, rfl, rfl, SqL.of hz5, ex, sl2, fun t1 h1 => ⟨_, rfl, sl2, fun t4 h4 => ⟨sl2, fun t2 h2 => ⟨sl3, fun t3 h3 => ?_⟩⟩⟩⟩
    have g1 := Fr.new (X := No) (o := .tup [V.str "prim", .str x]) h1
    have g4 := Fr.new (X := No) (o := .tup [V.str "prim", .str "+"]) h4
    have g2 := Fr.new (X := No) (o := .tup [o, .ref t4]) h2
    have g3 := Fr.new (X := No) (o := .tup [V.str "call", .ref t1, .ref t2]) h3
    have g23 := g2.trans g3
    have g423 := g4.trans g23
    have ff : Fr (Two S L) H2 _ := (fz.no.trans f5).trans (g1.trans g423).no
    have o6 := ro.keep ff.tup
    have xp : x ∈ prims8 := by
      simp only [str3b, List.mem_cons, List.not_mem_nil, or_false] at xm
      rcases xm with e | e | e <;> subst e <;> decide
    exact q _ (.call (.prim x) [.int i, .prim "+"]) _ (l5.sm (g1.trans g423).sm) (f02.trans ff) (.call upd_same (g3.tup _ _ upd_same) (.prim (g423.tup _ _ upd_same)) (.cons o6 (.cons (.prim (g23.tup _ _ upd_same)) .nil)))
      ⟨⟨by show 2 ≤ 5; omega, xp, go, (by show ("+" : Str) ∈ prims8; decide), trivial⟩, fun x h => (by simp [fv, fvs] at h), by simp [wT, wTs]; omega, by simp [depT, depTs]; omega⟩
  refine ⟨_, rfl, rfl, _, rfl, ?_⟩
  refine ite2 (fun _ => ?_) (fun _ => ?_)
  · refine ⟨by show 3 ≤ sizeLine; decide, fun z hz => ?_⟩
    have fz : Fr No H2 (upd H2 z (.lst (globM.map V.str))) := Fr.new hz
    refine ⟨_, rfl, S, L, 3, rfl, l2.laid hz, by decide, nbs (by decide), fun gg H5 a5 b5 l5 s5 => ?_⟩
    have f5 := frTwo s5 (l2.laid hz)
    have hz5 := f5.keep (l2.two hz) rfl (show upd H2 z (.lst (globM.map V.str)) z = some _ from upd_same)
    obtain ⟨x, xm, ex⟩ := pick_map (f := V.str) (xs := globM) a5 b5
    refine ⟨z, _, gg, .str x, rfl, rfl, SqL.of hz5, ex, by show 4 ≤ sizeLine; decide, fun z2 hz2 => ?_⟩
    have fz2 : Fr No H5 (upd H5 z2 (.lst (globX.map V.str))) := Fr.new hz2
    refine ⟨_, rfl, S, L, 4, rfl, l5.laid hz2, by decide, nbs (by decide), fun g6 H6 a6 b6 l6 s6 => ?_⟩
    have f6 := frTwo s6 (l5.laid hz2)
    have hz6 := f6.keep (l5.two hz2) rfl (show upd H5 z2 (.lst (globX.map V.str)) z2 = some _ from upd_same)
    obtain ⟨y, ym, ey⟩ := pick_map (f := V.str) (xs := globX) a6 b6
    refine ⟨z2, _, g6, .str y, rfl, rfl, SqL.of hz6, ey, sl3, fun t1 h1 => ?_⟩
    have g1 := Fr.new (X := No) (o := .tup [V.str "global", .str x, .str y]) h1
    exact q _ (.glob x y) _ (l6.sm g1.sm) (f02.trans ((fz.no.trans f5).trans ((fz2.no.trans f6).trans g1.no))) (.glob upd_same) (gt_leaf ⟨xm, ym⟩ (fun _ h => h.elim) rfl rfl (by omega) (by omega))
  refine ⟨_, rfl, rfl, _, rfl, ?_⟩
  refine ite2 (fun _ => ?_) (fun _ => ?_)
  · refine ⟨_, rfl, _, rfl, _, rfl, _, rfl, _, _, rfl, rfl, fun_at H2 _ l2 f02 fun u t H3 l3 f3 rt gt => ?_⟩
    refine ⟨_, rfl, sl2, fun t1 h1 => ⟨sl4, fun t2 h2 => ?_⟩⟩
    have g1 := Fr.new (X := No) (o := .tup [V.str "int", .int 9]) h1
    have g2 := Fr.new (X := No) (o := .tup [V.str "if", u, o, .ref t1]) h2
    have g := g1.trans g2
    refine q _ (.if_ t (.int i) (.int 9)) _ (l3.sm g.sm) (f02.trans (f3.trans g.no)) (.if_ upd_same (rt.keep g.tup) (ro.keep (f3.tup.trans g.tup)) (.int (g2.tup _ _ upd_same))) ⟨⟨gt.g, go, (by show (9 : Int).natAbs ≤ 10 ^ 40; decide +kernel)⟩, fun x h => ?_, ?_, ?_⟩
    · rcases h with h | h | h
      · exact gt.f x h
      · exact h.elim
      · exact h.elim
    · have := gt.w
      show 8 + wT t + 3 + 3 ≤ _
      omega
    · have := gt.d
      show 1 + max (depT t) (max 1 1) ≤ _
      omega
  refine ⟨sl2, fun t1 h1 => ?_⟩
  have g1 : Fr No H2 (upd H2 t1 (.tup [.str "prim", .str "pair"])) := Fr.new h1
  refine ⟨_, rfl, _, rfl, _, rfl, _, rfl, _, rfl, _, _, rfl, rfl, fun_at _ _ (l2.laid h1) (f02.trans g1.no) fun u t H3 l3 f3 rt gt => ?_⟩
  refine ⟨sl2, fun t2 h2 => ⟨sl3, fun t3 h3 => ?_⟩⟩
  have g2 := Fr.new (X := No) (o := .tup [o, u]) h2
  have g3 := Fr.new (X := No) (o := .tup [V.str "call", .ref t1, .ref t2]) h3
  have g := g2.trans g3
  have ff : Fr (Two S L) H2 _ := g1.no.trans (f3.trans g.no)
  refine q _ (.call (.prim "pair") [.int i, t]) _ (l3.sm g.sm) (f02.trans ff) (.call upd_same (g3.tup _ _ upd_same) (.prim (g.tup _ _ (f3.tup _ _ upd_same))) (.cons (ro.keep ff.tup) (.cons (rt.keep g.tup) .nil))) ⟨⟨by show 2 ≤ 5; omega, (by show ("pair" : Str) ∈ prims8; decide), go, gt.g, trivial⟩, fun x h => ?_, ?_, ?_⟩
  · rcases h with h | h | h | h
    · exact h.elim
    · exact h.elim
    · exact gt.f x h
    · exact h.elim
  · have := gt.w
    show 2 + 3 + (1 + 3 + (1 + wT t + 0)) ≤ _
    omega
  · have := gt.d
    show 1 + max 1 (max 1 (max (depT t) 0)) ≤ _
    omega
end
end My
namespace My
open PySem PySem.Spec PyProof.Rows L2 TL
/-! ### _law_let -/
theorem wTs_le {W : Nat} : ∀ {ts : List Tr}, (∀ t ∈ ts, wT t ≤ W) → wTs ts ≤ ts.length * (1 + W)
  | [], _ => by unfold wTs; omega
  | t :: ts, h => by
    have h1 := h t List.mem_cons_self
    have h2 := wTs_le (ts := ts) fun u m => h u (List.mem_cons_of_mem _ m)
    unfold wTs
    rw [List.length_cons, Nat.succ_mul]
    omega
theorem depTs_le {D : Nat} : ∀ {ts : List Tr}, (∀ t ∈ ts, depT t ≤ D) → depTs ts ≤ D
  | [], _ => by unfold depTs; omega
  | t :: ts, h => by
    have h1 := h t List.mem_cons_self
    have h2 := depTs_le (ts := ts) fun u m => h u (List.mem_cons_of_mem _ m)
    unfold depTs
    omega
theorem wb_let {m : Nat} (h1 : 1 ≤ m) (h5 : m ≤ 5) : 11 + 5 * max (Wb m) (Fb m) + Wb m ≤ Wb (m + 1) := six_of (p := fun m => 11 + 5 * max (Wb m) (Fb m) + Wb m ≤ Wb (m + 1)) h1 h5 (by decide) (by decide) (by decide) (by decide) (by decide)
theorem two_of {x y : Int} {g : Int} (h0 : 0 ≤ g) (h1 : g < 2) : ∃ z, atI [V.int x, .int y] g = some (.int z) ∧ (z = x ∨ z = y) := by
  have c : g = 0 ∨ g = 1 := by omega
  rcases c with c | c <;> rw [c]
  · exact ⟨x, rfl, .inl rfl⟩
  · exact ⟨y, rfl, .inr rfl⟩
abbrev sLtt : Stmt := top 48
abbrev NLt : List Str := ["state", "known", "world", "room", "numbers", "pairs", "inner", "number", "sort"]
def spLtt (m : Nat) : Sp := fun vs H Q _ => ∃ (S L : Addr) (kv wd : V) (ks : List (Int × Int)) (r : Int), vs = [.ref S, kv, wd, .int r] ∧ LS H S L ∧ KnR S L H kv ks ∧ WdR H wd ∧ r ≤ (m : Int) + 1 ∧ ks.length + 6 * (m + 1) ≤ 100 ∧ ∀ u t H', LS H' S L → Fr (Two S L) H H' → RT H' u t → GT ks (Wb (m + 1)) (1 + 2 * (m + 1)) t → Q u H'
section
variable {P : Program} {w : World} {K : PySem.W.Frag} {mg : Str → Option Value} {base : Heap}
theorem scLtt : FnScope NLt ["state", "known", "world", "room"] (defScope sLtt) := ⟨rfl, rfl, rfl, by decide +kernel, rfl, by decide +kernel, by decide +kernel⟩
theorem ok_ltt {f fT fN fP fF : Addr} {fd dT dN dP dF : FuncData} {k m : Nat} (hk3 : 3 ≤ k) (m1 : 1 ≤ m) (m5 : m ≤ 5) (F : Fun K "_law_let" "_law_let" sLtt f fd) (B : Blt mg) (GT_ : Cal P w K mg base CX0 2 "_law_take" ["state", "limit"] spTake fT dT) (GN : Cal P w K mg base CX0 3 "_law_numbers" ["state", "count"] spNus fN dN)
    (GP : Cal P w K mg base CX0 k "_law_part" ["state", "known", "world", "room"] (spPrt m) fP dP) (GF : Cal P w K mg base CX0 k "_law_function" ["state", "known", "world", "room", "arity"] (spFun m) fF dF) : FnOk P w K mg base CX0 (k + 1) f fd ["state", "known", "world", "room"] (spLtt m) := by
  refine F.ok scLtt (fun vs H Q E h => ?_) (fun cdv A outer s H vs Q E hr h => ?_)
  · obtain ⟨S, L, kv, wd, ks, r, rfl, _⟩ := h
    rfl
  obtain ⟨S, L, kv, wd, ks, r, rfl, hl, kn, wr, rm, kl, q⟩ := h
  have nd := scLtt.nd
  have r2 : Room 2 _ := hr.mono (show 2 ≤ k by omega)
  have r3 : Room 3 _ := hr.mono hk3
  refine ⟨_, (pss_cons (ps_set (i := 4) nd rfl (Or.inl rfl) (pe_call GN.ok r3 rfl GN.g GN.k GN.b .nil pass0 (pa_cons (pv 0) (pa_cons (pe_ix (r := rIxL K) ix_list (pe_lst (pa_cons (pe_call GT_.ok r2 rfl GT_.g GT_.k GT_.b .nil pass0 (pa_cons (pv 0) (pa_cons pe_int pa_nil))) (pa_cons (pe_call GT_.ok r2 rfl GT_.g GT_.k GT_.b .nil pass0 (pa_cons (pv 0) (pa_cons pe_int pa_nil))) pa_nil))) (pe_call GT_.ok r2 rfl GT_.g GT_.k GT_.b .nil pass0 (pa_cons (pv 0) (pa_cons pe_int pa_nil))) (fun _ _ => rfl)) pa_nil))))
    (pss_cons (ps_set (i := 5) nd rfl (Or.inl rfl) (pe_lst pa_nil))
    (pss_cons (ps_set (i := 6) nd rfl (Or.inl rfl) (pe_callTy call_list_of (by rfl) B.list (by decide +kernel) (pa_cons (pv 1) pa_nil)))
    (pss_cons (ps_for PassesOwn.never rfl (pi_list (pv 4)) (pg_name (i := 7) nd rfl (Or.inl rfl))
      (pss_cons (ps_set (i := 8) nd rfl (Or.inl rfl) (pe_op op_sub (pe_ix (r := rIxL K) ix_list (pe_lst (pa_cons (pe_call GT_.ok r2 rfl GT_.g GT_.k GT_.b .nil pass0 (pa_cons (pv 0) (pa_cons pe_int pa_nil))) (pa_cons (pe_call GT_.ok r2 rfl GT_.g GT_.k GT_.b .nil pass0 (pa_cons (pv 0) (pa_cons pe_int pa_nil))) pa_nil))) (pe_call GT_.ok r2 rfl GT_.g GT_.k GT_.b .nil pass0 (pa_cons (pv 0) (pa_cons pe_int pa_nil))) (fun _ _ => rfl)) pe_int))
      (C8.pss_cut (ps_if (pt_cmpR op_lt (pv 8) pe_int (nomark _)) (pss_one (ps_expr (pe_bm PySem.F.plainAttrs_list PySem.F.slot_list_append PySem.F.type_list_append mt_append (pv 5) (pa_cons (pe_tup (pa_cons (pv 7) (pa_cons (pe_call GP.ok hr rfl GP.g GP.k GP.b .nil pass0 (pa_cons (pv 0) (pa_cons (pv 1) (pa_cons (pv 2) (pa_cons (pe_op op_sub (pv 3) pe_int) pa_nil))))) pa_nil))) pa_nil)))) (pss_one (ps_expr (pe_bm PySem.F.plainAttrs_list PySem.F.slot_list_append PySem.F.type_list_append mt_append (pv 5) (pa_cons (pe_tup (pa_cons (pv 7) (pa_cons (pe_call GF.ok hr rfl GF.g GF.k GF.b .nil pass0 (pa_cons (pv 0) (pa_cons (pv 1) (pa_cons (pv 2) (pa_cons (pe_op op_sub (pv 3) pe_int) (pa_cons (pv 8) pa_nil)))))) pa_nil))) pa_nil)))))
      (pss_one (ps_expr (pe_bm PySem.F.plainAttrs_list PySem.F.slot_list_append PySem.F.type_list_append mt_append (pv 6) (pa_cons (pe_tup (pa_cons (pv 7) (pa_cons (pv 8) pa_nil))) pa_nil)))))))
    (pss_one (ps_ret (pe_tup (pa_cons pe_str (pa_cons (pe_callTy call_tuple_of (by rfl) B.tuple (by decide +kernel) (pa_cons (pv 5) pa_nil)) (pa_cons (pe_call GP.ok hr rfl GP.g GP.k GP.b .nil pass0 (pa_cons (pv 0) (pa_cons (pv 6) (pa_cons (pv 2) (pa_cons (pe_op op_sub (pv 3) pe_int) pa_nil))))) pa_nil)))))))))), ?_⟩
  have wb := wb_let m1 m5
  refine ⟨_, rfl, _, rfl, S, L, 3, rfl, hl, by decide, nbs (by decide), fun g1 H1 a1 b1 l1 s1 => ⟨_, rfl, S, L, 6, rfl, l1, by decide, nbs (by decide), fun g2 H2 a2 b2 l2 s2 => ⟨sl2, fun z hz => ?_⟩⟩⟩
  have fz : Fr No H2 (upd H2 z (.lst [.int g1, .int g2])) := Fr.new hz
  refine ⟨_, rfl, S, L, 2, rfl, l2.laid hz, by decide, nbs (by decide), fun g3 H3 a3 b3 l3 s3 => ?_⟩
  have f3 := frTwo s3 (l2.laid hz)
  have f03 : Fr (Two S L) H H3 := (frTwo s1 hl).trans ((frTwo s2 l1).trans (fz.no.trans f3))
  have hz3 := f3.keep (l2.two hz) rfl (show upd H2 z (.lst [.int g1, .int g2]) z = some _ from upd_same)
  obtain ⟨ci, eci, cc⟩ := two_of (x := g1) (y := g2) a3 b3
  obtain ⟨c, rfl⟩ : ∃ c : Nat, ci = c := ⟨ci.toNat, by omega⟩
  have c5 : c ≤ 5 := by omega
  refine ⟨z, _, g3, _, rfl, rfl, SqL.of hz3, eci, S, L, c, rfl, l3, by omega, fun D ns H4 l4 f4 hD0 hD ln hn nD => ?_⟩
  have f04 := f03.trans f4
  obtain ⟨⟨ka, us, ekv, hka, kal, kna⟩, knm⟩ := kn.fr f04
  subst ekv
  have lus := kal.len
  refine ⟨by show 0 ≤ sizeLine; decide, fun Pz hPz => ?_⟩
  have fP : Fr No H4 (upd H4 Pz (.lst [])) := Fr.new hPz
  refine ⟨_, rfl, ka, us, rfl, .inl (SqL.of (fP.keep (fun z => z) rfl hka)), fun I hI => ?_⟩
  have fI : Fr No (upd H4 Pz (.lst [])) (upd (upd H4 Pz (.lst [])) I (.lst us)) := Fr.new hI
  have fPI := fP.trans fI
  have hI0 : H4 I = none := fP.dom hI
  have nPI : Pz ≠ I := ne_of_none (show upd H4 Pz (.lst []) Pz = some _ from upd_same) hI
  have nP := l4.two hPz
  have nI := l4.two hI0
  have hD4 := fPI.keep (fun z => z) rfl hD
  have nDP : D ≠ Pz := ne_of_none hD hPz
  have nDI : D ≠ I := ne_of_none hD hI0
  refine ⟨_, rfl, D, rfl, ⟨_, SqL.of hD4⟩, for_list (xs := ns.map V.int) (fun i σ H' => ∃ (v7 v8 : Option V) (up : List V) (ts : List Tr) (ui : List V) (ks' : List (Int × Int)), σ = [some (.ref S), some (.ref ka), some wd, some (.int r), some (.ref D), some (.ref Pz), some (.ref I), v7, v8] ∧ H' Pz = some (.lst up) ∧ RTp H' up (ns.take i) ts ∧ H' I = some (.lst ui) ∧ Als (RK H') ui ks' ∧ (∀ p ∈ ks', nmOk p.1) ∧ ks'.length = ks.length + i ∧ (∀ p ∈ ks', p.1 ∈ ks.map Prod.fst ∨ p.1 ∈ ns) ∧ (∀ t ∈ ts, GT ks (max (Wb m) (Fb m)) (1 + 2 * m) t) ∧ LS H' S L ∧ Fr (Two S L) H4 H')
    ⟨none, none, [], [], us, ks, rfl, fI.keep (fun z => z) rfl upd_same, by rw [List.take_zero]; exact .nil, upd_same, kal.mono fun _ _ z => z.keep fPI.tup, knm, rfl, (fun p hp => .inl (List.mem_map.mpr ⟨p, hp, rfl⟩)), (fun _ m => by cases m), l4.sm fPI.sm, fPI.no⟩ (fun i σ H' _ ⟨_, _, _, _, _, _, _, _, _, _, _, _, _, _, _, _, z⟩ => SqL.of (z.keep nD rfl hD)) ?_ ?_⟩
  · rintro i v σ H5 hi ⟨v7, v8, up, ts, ui, ks', rfl, h1, h2, h3, h4, h5, h6, h7, h8, l5, f5⟩
    rw [List.getElem?_map] at hi
    obtain ⟨n, hn0, rfl⟩ := Option.map_eq_some_iff.mp hi
    have il : i < ns.length := (List.getElem?_eq_some_iff.mp hn0).1
    have l2' := h2.len
    have lup : up.length ≤ 5 := by rw [l2'.1, List.length_take]; omega
    have lui : ui.length ≤ 100 := by rw [h4.len]; omega
    refine ⟨_, rfl, S, L, 4, rfl, l5, by decide, nbs (by decide), fun g5 H6 a5 b5 l6 s6 => ⟨_, rfl, S, L, 6, rfl, l6, by decide, nbs (by decide), fun g6 H7 a6 b6 l7 s7 => ⟨sl2, fun z hz => ?_⟩⟩⟩
    have fz : Fr No H7 (upd H7 z (.lst [.int g5, .int g6])) := Fr.new hz
    refine ⟨_, rfl, S, L, 2, rfl, l7.laid hz, by decide, nbs (by decide), fun g8 H8 a8 b8 l8 s8 => ?_⟩
    have f8 := frTwo s8 (l7.laid hz)
    have f58 : Fr (Two S L) H5 H8 := (frTwo s6 l5).trans ((frTwo s7 l6).trans (fz.no.trans f8))
    have hz8 := f8.keep (l7.two hz) rfl (show upd H7 z (.lst [.int g5, .int g6]) z = some _ from upd_same)
    obtain ⟨sv, esv, cs⟩ := two_of (x := g5) (y := g6) a8 b8
    refine ⟨z, _, g8, _, rfl, rfl, SqL.of hz8, esv, _, _, rfl, rfl, ?_⟩
    have f48 := f5.trans f58
    have kn8 := (kn.fr f04).fr f48
    have wr8 := (wr.fr hl f04).fr l4 f48
    have hP8 := f58.keep nP rfl h1
    have hI8 := f58.keep nI rfl h3
    refine ⟨fun σ H' => ∃ (u : V) (t : Tr) (q0 : Addr), σ = [some (.ref S), some (.ref ka), some wd, some (.int r), some (.ref D), some (.ref Pz), some (.ref I), some (.int n), some (.int (sv - 1))] ∧ H' Pz = some (.lst (up ++ [.ref q0])) ∧ H' q0 = some (.tup [.int n, u]) ∧ RT H' u t ∧ GT ks (max (Wb m) (Fb m)) (1 + 2 * m) t ∧ H' I = some (.lst ui) ∧ LS H' S L ∧ Fr (Two S L) H4 H' ∧ KpT H5 H', ?_, ?_⟩
    · refine ⟨_, rfl, _, _, rfl, rfl, _, rfl, ?_⟩
      have fin : ∀ (H9 : Hp) u t, LS H9 S L → Fr (Two S L) H8 H9 → RT H9 u t → GT ks (max (Wb m) (Fb m)) (1 + 2 * m) t → ∀ y, H9 y = none → ∃ l xs y', V.ref Pz = .ref l ∧ [V.ref y] = [y'] ∧ (upd H9 y (.tup [.int n, u])) l = some (.lst xs) ∧ xs.length < sizeLine ∧ ∃ (u1 : V) (t1 : Tr) (q0 : Addr), [some (V.ref S), some (.ref ka), some wd, some (.int r), some (.ref D), some (.ref Pz), some (.ref I), some (.int n), some (.int (sv - 1))] = [some (.ref S), some (.ref ka), some wd, some (.int r), some (.ref D), some (.ref Pz), some (.ref I), some (.int n), some (.int (sv - 1))] ∧ (upd (upd H9 y (.tup [.int n, u])) l (.lst (xs ++ [y']))) Pz = some (.lst (up ++ [.ref q0])) ∧ (upd (upd H9 y (.tup [.int n, u])) l (.lst (xs ++ [y']))) q0 = some (.tup [.int n, u1]) ∧ RT (upd (upd H9 y (.tup [.int n, u])) l (.lst (xs ++ [y']))) u1 t1 ∧ GT ks (max (Wb m) (Fb m)) (1 + 2 * m) t1 ∧ (upd (upd H9 y (.tup [.int n, u])) l (.lst (xs ++ [y']))) I = some (.lst ui) ∧ LS (upd (upd H9 y (.tup [.int n, u])) l (.lst (xs ++ [y']))) S L ∧ Fr (Two S L) H4 (upd (upd H9 y (.tup [.int n, u])) l (.lst (xs ++ [y']))) ∧ KpT H5 (upd (upd H9 y (.tup [.int n, u])) l (.lst (xs ++ [y']))) := by
        intro H9 u t l9 f9 rt gt y hy
        have fy : Fr No H9 (upd H9 y (.tup [.int n, u])) := Fr.new hy
        have f89 := f9.trans fy.no
        have hP9 := f89.keep nP rfl hP8
        have hI9 := f89.keep nI rfl hI8
        have fm : Fr (fun b => b = Pz) _ (upd (upd H9 y (.tup [.int n, u])) Pz (.lst (up ++ [V.ref y]))) := Fr.set rfl hP9 rfl
        refine ⟨Pz, up, _, rfl, rfl, hP9, Nat.lt_of_le_of_lt (show up.length ≤ 1000000 by omega) (by decide), u, t, y, rfl, upd_same, fm.tup _ _ upd_same, (rt.keep fy.tup).keep fm.tup, gt, by rw [upd_ne (Ne.symm nPI)]; exact hI9, (l9.sm fy.sm).put nP, (f48.trans f89).mut hPz hP9 rfl, (f58.tup.trans f89.tup).trans fm.tup⟩
      refine ite2 (fun _ => ?_) (fun cge => ?_)
      · refine ⟨_, rfl, .inl ⟨rfl, _, SqL.of hP8⟩, _, rfl, _, rfl, _, rfl, _, rfl, _, rfl, _, _, rfl, rfl, S, L, .ref ka, wd, ks, r - 1, rfl, l8, kn8, wr8, by omega, by omega, fun u t H9 l9 f9 rt gt => ⟨sl2, fun y hy => ?_⟩⟩
        obtain ⟨l, xs, y', e1, e2, e3, e4, u', t', q', _, rest⟩ := fin H9 u t l9 f9 rt (gt.wide (Nat.le_max_left _ _) (Nat.le_refl _)) y hy
        exact ⟨l, xs, y', e1, e2, e3, e4, u', t', q', rfl, rest⟩
      · have cge : ¬ (sv - 1 < 0) := fun z => cge (decide_eq_true z)
        obtain ⟨sn, esn⟩ : ∃ sn : Nat, sv - 1 = sn := ⟨(sv - 1).toNat, by omega⟩
        refine ⟨_, rfl, .inl ⟨rfl, _, SqL.of hP8⟩, _, rfl, _, rfl, _, rfl, _, rfl, _, rfl, _, _, rfl, rfl, _, rfl, S, L, .ref ka, wd, ks, r - 1, sn, by rw [← esn]; rfl, l8, kn8, wr8, by omega, by omega, by omega, fun u t H9 l9 f9 rt gt => ⟨sl2, fun y hy => ?_⟩⟩
        obtain ⟨l, xs, y', e1, e2, e3, e4, u', t', q', _, rest⟩ := fin H9 u t l9 f9 rt (gt.wide (Nat.le_max_right _ _) (by omega)) y hy
        exact ⟨l, xs, y', e1, e2, e3, e4, u', t', q', rfl, rest⟩
    rintro σ H9 ⟨u, t, q0, rfl, p1, p2, p3, p4, p5, l9, f9, kk⟩
    refine ⟨_, rfl, .inl ⟨rfl, _, SqL.of p5⟩, _, rfl, _, rfl, sl2, fun y hy => ?_⟩
    have fy : Fr No H9 (upd H9 y (.tup [.int n, .int (sv - 1)])) := Fr.new hy
    have p55 := fy.keep (fun z => z) rfl p5
    have fm : Fr (fun b => b = I) _ (upd (upd H9 y (.tup [.int n, .int (sv - 1)])) I (.lst (ui ++ [V.ref y]))) := Fr.set rfl p55 rfl
    have nm : nmOk n := hn n (List.mem_of_getElem? hn0)
    refine ⟨I, ui, _, rfl, rfl, p55, Nat.lt_of_le_of_lt (show ui.length ≤ 1000000 by omega) (by decide), _, _, up ++ [.ref q0], ts ++ [t], ui ++ [.ref y], ks' ++ [(n, sv - 1)], rfl, ?_, ?_, upd_same, ?_, fun p hp => ?_, by rw [List.length_append, h6]; rfl, fun p hp => ?_, fun x hx => ?_, (l9.sm fy.sm).put nI, (f9.trans fy.no).mut hI0 p55 rfl⟩
    · rw [upd_ne nPI]
      exact fy.keep (fun z => z) rfl p1
    · rw [take_more hn0]
      have kt := fy.tup.trans fm.tup
      exact (h2.keep (kk.trans kt)).snoc (kt _ _ p2) (p3.keep kt)
    · have kt := fy.tup.trans fm.tup
      exact (h4.mono fun _ _ z => z.keep (kk.trans kt)).app (.one ⟨y, rfl, fm.tup _ _ upd_same⟩)
    · rcases List.mem_append.mp hp with hp | hp
      · exact h5 p hp
      · rw [List.mem_singleton.mp hp]; exact nm
    · rcases List.mem_append.mp hp with hp | hp
      · exact h7 p hp
      · rw [List.mem_singleton.mp hp]; exact .inr (List.mem_of_getElem? hn0)
    · rcases List.mem_append.mp hx with hx | hx
      · exact h8 x hx
      · rw [List.mem_singleton.mp hx]; exact p4
  rintro σ H5 ⟨v7, v8, up, ts, ui, ks', rfl, h1, h2, h3, h4, h5, h6, h7, h8, l5, f5⟩
  rw [List.length_map, List.take_length] at h2
  rw [List.length_map] at h6
  have lts := h2.len.2
  refine ⟨_, rfl, Pz, _, rfl, .inl ⟨SqL.of h1, fun T1 hT1 => ?_⟩⟩
  have fT : Fr No H5 (upd H5 T1 (.tup up)) := Fr.new hT1
  have eT : upd H5 T1 (.tup up) T1 = some (.tup up) := upd_same
  have kI : KnR S L (upd H5 T1 (.tup up)) (.ref I) ks' := ⟨⟨I, ui, rfl, fT.keep (fun z => z) rfl h3, h4.mono fun _ _ z => z.keep fT.tup, nI⟩, h5⟩
  have wr5 := ((wr.fr hl f04).fr l4 f5).fr l5 fT.no
  refine ⟨_, rfl, _, rfl, _, rfl, _, rfl, _, _, rfl, rfl, S, L, .ref I, wd, ks', r - 1, rfl, l5.sm fT.sm, kI, wr5, by omega, by omega, fun u t H6 l6 f6 rt gt => ⟨sl3, fun y hy => ?_⟩⟩
  have fy : Fr No H6 (upd H6 y (.tup [.str "let", .ref T1, u])) := Fr.new hy
  have ff : Fr (Two S L) H5 _ := fT.no.trans (f6.trans fy.no)
  refine q _ (.let_ ns ts t) _ (l6.sm fy.sm) (f04.trans (f5.trans ff)) (.let_ upd_same (fy.tup _ _ (f6.tup _ _ eT)) (h2.keep ff.tup) (rt.keep fy.tup)) ?_
  refine ⟨⟨by omega, lts.symm, hn, gdTs_all fun x m => (h8 x m).g, gt.g⟩, fun x hx => ?_, ?_, ?_⟩
  · rcases hx with hx | ⟨hx, nx⟩
    · obtain ⟨y, ym, hy⟩ := fvs_mem.mp hx
      exact (h8 y ym).f x hy
    · obtain ⟨p, pm, e⟩ := List.mem_map.mp (gt.f x hx)
      rw [← e]
      exact (h7 p pm).resolve_right fun z => nx (by rw [← e]; exact z)
  · have w1 := wTs_le (ts := ts) (W := max (Wb m) (Fb m)) fun x m => (h8 x m).w
    have w2 := gt.w
    have w3 : ts.length * (1 + max (Wb m) (Fb m)) ≤ 5 * (1 + max (Wb m) (Fb m)) := Nat.mul_le_mul_right _ (by omega)
    show 1 + ns.length + wTs ts + wT t ≤ _
    omega
  · have d1 := depTs_le (ts := ts) (D := 1 + 2 * m) fun x m => (h8 x m).d
    have d2 := gt.d
    show 1 + max (depTs ts) (depT t) ≤ _
    omega
end
end My
namespace My
open PySem PySem.Spec PyProof.Rows L2 TL
/-! ### _law_part, and all of them by the room -/
def halves : List Str := ["first", "second"]
abbrev sPrt : Stmt := top 49
abbrev NPt : List Str := ["state", "known", "world", "room", "pick", "names", "parts", "arity", "function", "k"]
theorem wb_mono {m : Nat} (h1 : 1 ≤ m) (h5 : m ≤ 5) : 60 + 6 * Wb m ≤ Wb (m + 1) + 49 ∧ 7 + Fb m + 5 * Wb m ≤ Wb (m + 1) ∧ 13 + 2 * Wb m ≤ Wb (m + 1) := six_of (p := fun m => 60 + 6 * Wb m ≤ Wb (m + 1) + 49 ∧ 7 + Fb m + 5 * Wb m ≤ Wb (m + 1) ∧ 13 + 2 * Wb m ≤ Wb (m + 1)) h1 h5 (by decide) (by decide) (by decide) (by decide) (by decide)
section
variable {P : Program} {w : World} {K : PySem.W.Frag} {mg : Str → Option Value} {base : Heap}
theorem scPrt : FnScope NPt ["state", "known", "world", "room"] (defScope sPrt) := ⟨rfl, rfl, rfl, by decide +kernel, rfl, by decide +kernel, by decide +kernel⟩
theorem ok_prt {f fT fL fS fP fF fE fX : Addr} {fd dT dL dS dP dF dE dX : FuncData} {k M : Nat} {sP sF sE sX : Sp} (hk3 : 4 ≤ k) (hM : M ≤ 1 ∨ ∃ m, M = m + 1 ∧ 1 ≤ m ∧ m ≤ 5 ∧ sP = spPrt m ∧ sF = spFun m ∧ sE = spLtt m ∧ sX = spStr m) (F : Fun K "_law_part" "_law_part" sPrt f fd) (B : Blt mg) (GT_ : Cal P w K mg base CX0 2 "_law_take" ["state", "limit"] spTake fT dT) (GL : Cal P w K mg base CX0 1 "_law_locals" ["known", "sort"] spLoc fL dL)
    (GS : Cal P w K mg base CX0 3 "_law_small" ["state"] spSml fS dS) (GP : Cal P w K mg base CX0 k "_law_part" ["state", "known", "world", "room"] sP fP dP) (GF : Cal P w K mg base CX0 k "_law_function" ["state", "known", "world", "room", "arity"] sF fF dF)
    (GE : Cal P w K mg base CX0 k "_law_let" ["state", "known", "world", "room"] sE fE dE) (GX : Cal P w K mg base CX0 k "_law_strange" ["state", "known", "world", "room"] sX fX dX) : FnOk P w K mg base CX0 (k + 1) f fd ["state", "known", "world", "room"] (spPrt M) := by
  refine F.ok scPrt (fun vs H Q E h => ?_) (fun cdv A outer s H vs Q E hr h => ?_)
  · obtain ⟨S, L, kv, wd, ks, r, rfl, _⟩ := h
    rfl
  obtain ⟨S, L, kv, wd, ks, r, rfl, hl, kn, wr, rm, kl, q⟩ := h
  have nd := scPrt.nd
  have r1 : Room 1 _ := hr.mono (show 1 ≤ k by omega)
  have r2 : Room 2 _ := hr.mono (show 2 ≤ k by omega)
  have r3 : Room 3 _ := hr.mono (show 3 ≤ k by omega)
  refine ⟨_, (pss_cons (ps_set (i := 4) nd rfl (Or.inl rfl) (pe_call GT_.ok r2 rfl GT_.g GT_.k GT_.b .nil pass0 (pa_cons (pv 0) (pa_cons pe_int pa_nil))))
    (pss_cons (ps_set (i := 5) nd rfl (Or.inl rfl) (pe_call GL.ok r1 rfl GL.g GL.k GL.b .nil pass0 (pa_cons (pv 1) (pa_cons (pe_un un_neg pe_int) pa_nil))))
    (C8.pss_cut (ps_if (PW.pt (pw_or (pt_cmpR op_lt (pv 3) pe_int (nomark _)) (pw_or1 (pt_cmpR op_lt (pv 4) pe_int (nomark _))))) (pss_cons (ps_if (PW.pt (pw_and (pt_cmpR (op_neD hr.units) (pv 5) (pe_lst pa_nil) (nomark _)) (pw_and1 (pt_cmpR op_gt (pe_call GT_.ok r2 rfl GT_.g GT_.k GT_.b .nil pass0 (pa_cons (pv 0) (pa_cons pe_int pa_nil))) pe_int (nomark _))))) (pss_one (ps_ret (pe_tup (pa_cons pe_str (pa_cons (pe_ix (r := rIxL K) ix_list (pv 5) (pe_call GT_.ok r2 rfl GT_.g GT_.k GT_.b .nil pass0 (pa_cons (pv 0) (pa_cons (pe_callB call_len_seq (by rfl) B.len PySem.boot_len (pa_cons (pv 5) pa_nil)) pa_nil))) (fun _ _ => rfl)) pa_nil))))) pss_nil)
      (pss_one (ps_ret (pe_call GS.ok r3 rfl GS.g GS.k GS.b .nil pass0 (pa_cons (pv 0) pa_nil))))) pss_nil)
    (pss_cons (ps_if (pt_cmpR op_lt (pv 4) pe_int (nomark _)) (pss_cons (ps_set (i := 6) nd rfl (Or.inl rfl) (pe_tup (pa_cons (pe_call GP.ok hr rfl GP.g GP.k GP.b .nil pass0 (pa_cons (pv 0) (pa_cons (pv 1) (pa_cons (pv 2) (pa_cons (pe_op op_sub (pv 3) pe_int) pa_nil))))) (pa_cons (pe_call GP.ok hr rfl GP.g GP.k GP.b .nil pass0 (pa_cons (pv 0) (pa_cons (pv 1) (pa_cons (pv 2) (pa_cons (pe_op op_sub (pv 3) pe_int) pa_nil))))) pa_nil))))
      (pss_one (ps_ret (pe_tup (pa_cons pe_str (pa_cons (pe_tup (pa_cons pe_str (pa_cons (pe_ix (r := rIxL K) ix_list (pe_lst (pa_cons pe_str (pa_cons pe_str (pa_cons pe_str (pa_cons pe_str (pa_cons pe_str pa_nil)))))) (pe_call GT_.ok r2 rfl GT_.g GT_.k GT_.b .nil pass0 (pa_cons (pv 0) (pa_cons pe_int pa_nil))) (fun _ _ => rfl)) pa_nil))) (pa_cons (pv 6) pa_nil))))))) pss_nil)
    (pss_cons (ps_if (pt_cmpR op_lt (pv 4) pe_int (nomark _)) (pss_cons (ps_setLc (i := 6) (own := [("k", 9)]) (g := gName 9) (tt := tYes) rfl nd rfl rfl (sw_true rfl rfl rfl (by decide +kernel)) (pi_range1 (by rfl) B.range (pa_cons pe_int pa_nil)) (blkOk_by (N := NPt) (sc := defScope sPrt) (by decide +kernel)) (fun _ _ _ _ _ => (pg_name (i := 9) nd rfl (Or.inl rfl) (hf := Or.inr rfl))) (fun _ _ _ _ _ => pts_nil) (fun _ _ _ _ _ => (pe_call GP.ok hr rfl GP.g GP.k GP.b .nil pass0 (pa_cons (pv 0) (pa_cons (pv 1) (pa_cons (pv 2) (pa_cons (pe_op op_sub (pv 3) pe_int) pa_nil)))))))
      (pss_one (ps_ret (pe_tup (pa_cons pe_str (pa_cons (pe_ix (r := rIxL K) ix_list (pv 6) pe_int (fun _ _ => rfl)) (pa_cons (pe_ix (r := rIxL K) ix_list (pv 6) pe_int (fun _ _ => rfl)) (pa_cons (pe_ix (r := rIxL K) ix_list (pv 6) pe_int (fun _ _ => rfl)) pa_nil)))))))) pss_nil)
    (pss_cons (ps_if (pt_cmpR op_lt (pv 4) pe_int (nomark _)) (pss_one (ps_ret (pe_call GE.ok hr rfl GE.g GE.k GE.b .nil pass0 (pa_cons (pv 0) (pa_cons (pv 1) (pa_cons (pv 2) (pa_cons (pv 3) pa_nil))))))) pss_nil)
    (pss_cons (ps_if (pt_cmpR op_lt (pv 4) pe_int (nomark _)) (pss_cons (ps_set (i := 7) nd rfl (Or.inl rfl) (pe_ix (r := rIxL K) ix_list (pe_lst (pa_cons (pe_call GT_.ok r2 rfl GT_.g GT_.k GT_.b .nil pass0 (pa_cons (pv 0) (pa_cons pe_int pa_nil))) (pa_cons (pe_call GT_.ok r2 rfl GT_.g GT_.k GT_.b .nil pass0 (pa_cons (pv 0) (pa_cons pe_int pa_nil))) pa_nil))) (pe_call GT_.ok r2 rfl GT_.g GT_.k GT_.b .nil pass0 (pa_cons (pv 0) (pa_cons pe_int pa_nil))) (fun _ _ => rfl)))
      (pss_cons (ps_set (i := 8) nd rfl (Or.inl rfl) (pe_call GF.ok hr rfl GF.g GF.k GF.b .nil pass0 (pa_cons (pv 0) (pa_cons (pv 1) (pa_cons (pv 2) (pa_cons (pe_op op_sub (pv 3) pe_int) (pa_cons (pv 7) pa_nil)))))))
      (pss_one (ps_ret (pe_tup (pa_cons pe_str (pa_cons (pv 8) (pa_cons (pe_callTy call_tuple_of (by rfl) B.tuple (by decide +kernel) (pa_cons (pe_lc (own := [("k", 9)]) (g := gName 9) (tt := tYes) rfl nd (pi_range1 (by rfl) B.range (pa_cons (pv 7) pa_nil)) (blkOk_by (N := NPt) (sc := defScope sPrt) (by decide +kernel)) (fun _ _ _ _ _ => (pg_name (i := 9) nd rfl (Or.inl rfl) (hf := Or.inr rfl))) (fun _ _ _ _ _ => pts_nil) (fun _ _ _ _ _ => (pe_call GP.ok hr rfl GP.g GP.k GP.b .nil pass0 (pa_cons (pv 0) (pa_cons (pv 1) (pa_cons (pv 2) (pa_cons (pe_op op_sub (pv 3) pe_int) pa_nil))))))) pa_nil)) pa_nil)))))))) pss_nil)
    (pss_cons (ps_if (pt_cmpR op_eq (pv 4) pe_int (nomark _)) (pss_cons (ps_set (i := 6) nd rfl (Or.inl rfl) (pe_tup (pa_cons (pe_call GP.ok hr rfl GP.g GP.k GP.b .nil pass0 (pa_cons (pv 0) (pa_cons (pv 1) (pa_cons (pv 2) (pa_cons (pe_op op_sub (pv 3) pe_int) pa_nil))))) (pa_cons (pe_call GP.ok hr rfl GP.g GP.k GP.b .nil pass0 (pa_cons (pv 0) (pa_cons (pv 1) (pa_cons (pv 2) (pa_cons (pe_op op_sub (pv 3) pe_int) pa_nil))))) pa_nil))))
      (pss_one (ps_ret (pe_tup (pa_cons pe_str (pa_cons (pe_tup (pa_cons pe_str (pa_cons (pe_ix (r := rIxL K) ix_list (pe_lst (pa_cons pe_str (pa_cons pe_str pa_nil))) (pe_call GT_.ok r2 rfl GT_.g GT_.k GT_.b .nil pass0 (pa_cons (pv 0) (pa_cons pe_int pa_nil))) (fun _ _ => rfl)) pa_nil))) (pa_cons (pe_tup (pa_cons (pe_tup (pa_cons pe_str (pa_cons (pe_tup (pa_cons pe_str (pa_cons pe_str pa_nil))) (pa_cons (pv 6) pa_nil)))) pa_nil)) pa_nil))))))) pss_nil)
    (pss_one (ps_ret (pe_call GX.ok hr rfl GX.g GX.k GX.b .nil pass0 (pa_cons (pv 0) (pa_cons (pv 1) (pa_cons (pv 2) (pa_cons (pv 3) pa_nil))))))))))))))), ?_⟩
  refine ⟨_, rfl, S, L, 14, rfl, hl, by decide, nbs (by decide), fun g1 H1 a1 b1 l1 s1 => ?_⟩
  have f1 := frTwo s1 hl
  obtain ⟨⟨ka, us, ekv, hka, kal, kna⟩, knm⟩ := kn.fr f1
  subst ekv
  refine ⟨_, rfl, _, rfl, ka, us, ks, -1, rfl, hka, kal, by omega, fun p ns H2 f2 hp0 hp mem ln => ?_⟩
  have l2 := l1.sm f2.sm
  have f02 := f1.trans f2.no
  have W3 := Wb_ge M
  refine ⟨fun σ H' => σ = [some (.ref S), some (.ref ka), some wd, some (.int r), some (.int g1), some (.ref p), none, none, none, none] ∧ 2 ≤ r ∧ LS H' S L ∧ Fr (Two S L) H H', ?_, ?_⟩
  · have leafq : ∀ (i : Int) u H', i.natAbs ≤ 10 ^ 40 → LS H' S L → Fr (Two S L) H H' → RT H' u (.int i) → Q u H' := fun i u H' bi l f rt => q u (.int i) H' l f rt (gt_leaf bi (fun _ h => h.elim) rfl rfl W3 (by omega))
    refine ⟨_, rfl, _, _, rfl, rfl, _, rfl, ?_⟩
    refine ite2 (fun _ => iteT ?_) (fun nr => ?_)
    · refine ⟨_, rfl, by show 0 ≤ sizeLine; decide, fun z hz => ?_⟩
      have fz : Fr No H2 (upd H2 z (.lst [])) := Fr.new hz
      have hp3 := fz.keep (fun z => z) rfl hp
      have l3 := l2.sm fz.sm
      have f03 := f02.trans fz.no
      refine ⟨.list (ns.map PyData.int), .list [], .lst (SqL.of hp3) (dp_is ns), .lst (SqL.of upd_same) .nil, shaped_is, shaped_n0, _, rfl, ?_⟩
      rw [eqv_is]
      refine ite2 (fun e => ?_) (fun _ => ⟨_, rfl, S, L, rfl, l3, fun i u H' bi l f rt => leafq i u H' bi l (f03.trans f) rt⟩)
      have ne : 0 < ns.length := by
        cases ns with
        | nil => cases e
        | cons a b => exact Nat.succ_pos _
      refine ⟨_, rfl, S, L, 3, rfl, l3, by decide, nbs (by decide), fun g2 H4 a2 b2 l4 s4 => ⟨_, _, rfl, rfl, _, rfl, ?_⟩⟩
      have f4 := frTwo s4 l3
      refine ite2 (fun _ => ?_) (fun _ => ⟨_, rfl, S, L, rfl, l4, fun i u H' bi l f rt => leafq i u H' bi l (f03.trans (f4.trans f)) rt⟩)
      have hp4 := f4.keep (l1.two hp0) rfl hp3
      refine ⟨_, rfl, _, rfl, _, rfl, p, _, rfl, .inl (SqL.of hp4), S, L, _, rfl, l4, by rw [List.length_map]; omega, nbs (by rw [List.length_map]; omega), fun g5 H5 a5 b5 l5 s5 => ?_⟩
      rw [List.length_map] at b5
      have f5 := frTwo s5 l4
      have hp5 := f5.keep (l1.two hp0) rfl hp4
      obtain ⟨x, xm, ex⟩ := pick_map (f := V.int) a5 b5
      refine ⟨p, _, g5, .int x, rfl, rfl, SqL.of hp5, ex, sl2, fun t ht => ?_⟩
      have ft : Fr No H5 (upd H5 t (.tup [.str "local", .int x])) := Fr.new ht
      exact q _ (.loc x) _ (l5.sm ft.sm) (f03.trans (f4.trans (f5.trans ft.no))) (.loc upd_same) (gt_leaf trivial (fun y e => by cases e; exact mem x xm) rfl rfl W3 (by omega))
    · have nr : ¬ (r < 2) := fun z => nr (decide_eq_true z)
      refine ⟨_, rfl, _, _, rfl, rfl, _, rfl, ?_⟩
      refine ite2 (fun _ => ?_) (fun _ => ⟨rfl, by omega, l2, f02⟩)
      · refine ⟨_, rfl, by show 0 ≤ sizeLine; decide, fun z hz => ?_⟩
        have fz : Fr No H2 (upd H2 z (.lst [])) := Fr.new hz
        have hp3 := fz.keep (fun z => z) rfl hp
        have l3 := l2.sm fz.sm
        have f03 := f02.trans fz.no
        refine ⟨.list (ns.map PyData.int), .list [], .lst (SqL.of hp3) (dp_is ns), .lst (SqL.of upd_same) .nil, shaped_is, shaped_n0, _, rfl, ?_⟩
        rw [eqv_is]
        refine ite2 (fun e => ?_) (fun _ => ⟨_, rfl, S, L, rfl, l3, fun i u H' bi l f rt => leafq i u H' bi l (f03.trans f) rt⟩)
        have ne : 0 < ns.length := by
          cases ns with
          | nil => cases e
          | cons a b => exact Nat.succ_pos _
        refine ⟨_, rfl, S, L, 3, rfl, l3, by decide, nbs (by decide), fun g2 H4 a2 b2 l4 s4 => ⟨_, _, rfl, rfl, _, rfl, ?_⟩⟩
        have f4 := frTwo s4 l3
        refine ite2 (fun _ => ?_) (fun _ => ⟨_, rfl, S, L, rfl, l4, fun i u H' bi l f rt => leafq i u H' bi l (f03.trans (f4.trans f)) rt⟩)
        have hp4 := f4.keep (l1.two hp0) rfl hp3
        refine ⟨_, rfl, _, rfl, _, rfl, p, _, rfl, .inl (SqL.of hp4), S, L, _, rfl, l4, by rw [List.length_map]; omega, nbs (by rw [List.length_map]; omega), fun g5 H5 a5 b5 l5 s5 => ?_⟩
        rw [List.length_map] at b5
        have f5 := frTwo s5 l4
        have hp5 := f5.keep (l1.two hp0) rfl hp4
        obtain ⟨x, xm, ex⟩ := pick_map (f := V.int) a5 b5
        refine ⟨p, _, g5, .int x, rfl, rfl, SqL.of hp5, ex, sl2, fun t ht => ?_⟩
        have ft : Fr No H5 (upd H5 t (.tup [.str "local", .int x])) := Fr.new ht
        exact q _ (.loc x) _ (l5.sm ft.sm) (f03.trans (f4.trans (f5.trans ft.no))) (.loc upd_same) (gt_leaf trivial (fun y e => by cases e; exact mem x xm) rfl rfl W3 (by omega))
  rintro σ H3 ⟨rfl, r2', l3, f3⟩
  obtain ⟨m, rfl, m1, m5, rfl, rfl, rfl, rfl⟩ := hM.resolve_left (by omega)
  obtain ⟨wb1, wb2, wb3⟩ := wb_mono m1 m5
  have part_at : ∀ (H4 : Hp) (Q4 : VK), LS H4 S L → Fr (Two S L) H H4 → (∀ u t H', LS H' S L → Fr (Two S L) H4 H' → RT H' u t → GT ks (Wb m) (1 + 2 * m) t → Q4 u H') → spPrt m [.ref S, .ref ka, wd, .int (r - 1)] H4 Q4 E0 :=
    fun H4 Q4 l f q4 => ⟨S, L, .ref ka, wd, ks, r - 1, rfl, l, kn.fr f, wr.fr hl f, by omega, by omega, q4⟩
  have parts2 : ∀ {ts : List Tr}, (∀ t ∈ ts, GT ks (Wb m) (1 + 2 * m) t) → gdTs ts ∧ (∀ x, fvs x ts → x ∈ ks.map Prod.fst) ∧ wTs ts ≤ ts.length * (1 + Wb m) ∧ depTs ts ≤ 1 + 2 * m :=
    fun h => ⟨gdTs_all fun t m => (h t m).g, fun x hx => by obtain ⟨y, ym, hy⟩ := fvs_mem.mp hx; exact (h y ym).f x hy, wTs_le fun t m => (h t m).w, depTs_le fun t m => (h t m).d⟩
  -- a primitive
  refine ⟨_, rfl, _, _, rfl, rfl, _, rfl, ?_⟩
  refine ite2 (fun _ => ?_) (fun _ => ?_)
  · refine ⟨_, rfl, _, rfl, _, rfl, _, rfl, _, _, rfl, rfl, part_at H3 _ l3 f3 fun u1 t1 H4 l4 f4 rt1 gt1 => ⟨_, rfl, _, rfl, _, rfl, _, rfl, _, _, rfl, rfl, part_at H4 _ l4 (f3.trans f4) fun u2 t2 H5 l5 f5 rt2 gt2 => ⟨sl2, fun tp htp => ?_⟩⟩⟩
    have ftp : Fr No H5 (upd H5 tp (.tup [u1, u2])) := Fr.new htp
    have etp : upd H5 tp (.tup [u1, u2]) tp = some (.tup [u1, u2]) := upd_same
    have l6 := l5.sm ftp.sm
    refine ⟨by show 5 ≤ sizeLine; decide, fun z hz => ?_⟩
    have fz : Fr No _ (upd (upd H5 tp (.tup [u1, u2])) z (.lst (ops5.map V.str))) := Fr.new hz
    refine ⟨_, rfl, S, L, 5, rfl, l6.laid hz, by decide, nbs (by decide), fun gg H7 a7 b7 l7 s7 => ?_⟩
    have f7 := frTwo s7 (l6.laid hz)
    have hz7 := f7.keep (l6.two hz) rfl (show upd (upd H5 tp (.tup [u1, u2])) z (.lst (ops5.map V.str)) z = some _ from upd_same)
    obtain ⟨x, xm, ex⟩ := pick_map (f := V.str) (xs := ops5) a7 b7
    refine ⟨z, _, gg, .str x, rfl, rfl, SqL.of hz7, ex, sl2, fun y1 hy1 => ⟨_, rfl, sl3, fun y2 hy2 => ?_⟩⟩
    have g1 := Fr.new (X := No) (o := .tup [V.str "prim", .str x]) hy1
    have g2 := Fr.new (X := No) (o := .tup [V.str "call", .ref y1, .ref tp]) hy2
    have g := g1.trans g2
    have f57 : Fr (Two S L) H5 H7 := (ftp.trans fz).no.trans f7
    have xp : x ∈ prims8 := by
      simp only [ops5, List.mem_cons, List.not_mem_nil, or_false] at xm
      rcases xm with e | e | e | e | e <;> subst e <;> decide
    obtain ⟨p1, p2, p3, p4⟩ := parts2 (ts := [t1, t2]) fun t ht => by
      rcases List.mem_cons.mp ht with e | ht
      · rw [e]; exact gt1
      · rw [List.mem_singleton.mp ht]; exact gt2
    have k57 := f57.tup.trans g.tup
    refine q _ (.call (.prim x) [t1, t2]) _ (l7.sm g.sm) (f3.trans (f4.trans (f5.trans (f57.trans g.no)))) (.call upd_same (g.tup _ _ (f7.tup _ _ (fz.tup _ _ etp))) (.prim (g2.tup _ _ upd_same)) (.cons ((rt1.keep f5.tup).keep k57) (.cons (rt2.keep k57) .nil))) ⟨⟨by show 2 ≤ 5; omega, xp, p1⟩, fun y h => h.elim (fun z => z.elim) (p2 y), ?_, ?_⟩
    · rw [wT_call]
      show 2 + 3 + wTs [t1, t2] ≤ _
      have : [t1, t2].length * (1 + Wb m) = 2 * (1 + Wb m) := rfl
      omega
    · rw [depT_call]
      show 1 + max 1 (depTs [t1, t2]) ≤ _
      omega
  -- an if
  refine ⟨_, rfl, _, _, rfl, rfl, _, rfl, ?_⟩
  refine ite2 (fun _ => ?_) (fun _ => ?_)
  · refine ⟨3, rfl, by decide, by decide, fun D hD => ?_⟩
    have nD := l3.two hD
    refine lc_range (lo := 0) (n := 3) (fun i H' => ∃ us ts, H' D = some (.lst us) ∧ Als (fun u t => RT H' u t ∧ GT ks (Wb m) (1 + 2 * m) t) us ts ∧ us.length = i ∧ LS H' S L ∧ Fr (Two S L) H3 H') ⟨[], [], upd_same, .nil, rfl, l3.laid hD, Fr.new hD⟩ ?_ ?_
    · rintro i H4 hi ⟨us, ts, h1, h2, h3, l4, f4⟩
      refine ⟨rfl, _, rfl, _, rfl, _, rfl, _, rfl, _, _, rfl, rfl, part_at H4 _ l4 (f3.trans f4) fun u t H5 l5 f5 rt gt => ?_⟩
      have h15 := f5.keep nD rfl h1
      have fm : Fr (fun b => b = D) H5 (upd H5 D (.lst (us ++ [u]))) := Fr.set rfl h15 rfl
      exact ⟨us, h15, Nat.lt_of_le_of_lt (show us.length ≤ 1000000 by omega) (by decide), us ++ [u], ts ++ [t], upd_same, (h2.mono fun _ _ z => ⟨z.1.keep (f5.tup.trans fm.tup), z.2⟩).app (.one ⟨rt.keep fm.tup, gt⟩), by simp [h3], l5.put nD, (f4.trans f5).mut hD h15 rfl⟩
    rintro H4 ⟨us, ts, h1, h2, h3, l4, f4⟩
    obtain ⟨u1, u2, u3, rfl⟩ : ∃ a b c, us = [a, b, c] := by
      match us, h3 with
      | [a, b, c], _ => exact ⟨a, b, c, rfl⟩
    cases h2 with
    | cons q1 h2 =>
    cases h2 with
    | cons q2 h2 =>
    cases h2 with
    | cons q3 h2 =>
    cases h2
    refine ⟨_, rfl, D, _, 0, _, rfl, rfl, SqL.of h1, rfl, _, rfl, D, _, 1, _, rfl, rfl, SqL.of h1, rfl, _, rfl, D, _, 2, _, rfl, rfl, SqL.of h1, rfl, sl4, fun y hy => ?_⟩
    have g : Fr No H4 (upd H4 y (.tup [.str "if", u1, u2, u3])) := Fr.new hy
    refine q _ (.if_ _ _ _) _ (l4.sm g.sm) (f3.trans (f4.trans g.no)) (.if_ upd_same (q1.1.keep g.tup) (q2.1.keep g.tup) (q3.1.keep g.tup)) ⟨⟨q1.2.g, q2.2.g, q3.2.g⟩, fun x h => ?_, ?_, ?_⟩
    · rcases h with h | h | h
      · exact q1.2.f x h
      · exact q2.2.f x h
      · exact q3.2.f x h
    · have a1 := q1.2.w
      have a2 := q2.2.w
      have a3 := q3.2.w
      have w3 := Wb_ge m
      show 8 + _ + _ + _ ≤ _
      omega
    · have a1 := q1.2.d
      have a2 := q2.2.d
      have a3 := q3.2.d
      show 1 + max _ (max _ _) ≤ _
      omega
  -- a let
  refine ⟨_, rfl, _, _, rfl, rfl, _, rfl, ?_⟩
  refine ite2 (fun _ => ?_) (fun _ => ?_)
  · exact ⟨_, rfl, _, rfl, _, rfl, _, rfl, S, L, .ref ka, wd, ks, r, rfl, l3, kn.fr f3, wr.fr hl f3, by omega, kl, fun u t H4 l4 f4 rt gt => q u t H4 l4 (f3.trans f4) rt gt⟩
  -- a call
  refine ⟨_, rfl, _, _, rfl, rfl, _, rfl, ?_⟩
  refine ite2 (fun _ => ?_) (fun _ => ?_)
  · refine ⟨_, rfl, S, L, 3, rfl, l3, by decide, nbs (by decide), fun g4 H4 a4 b4 l4 s4 => ⟨_, rfl, S, L, 6, rfl, l4, by decide, nbs (by decide), fun g5 H5 a5 b5 l5 s5 => ⟨sl2, fun z hz => ?_⟩⟩⟩
    have fz : Fr No H5 (upd H5 z (.lst [.int g4, .int g5])) := Fr.new hz
    refine ⟨_, rfl, S, L, 2, rfl, l5.laid hz, by decide, nbs (by decide), fun g6 H6 a6 b6 l6 s6 => ?_⟩
    have f6 := frTwo s6 (l5.laid hz)
    have hz6 := f6.keep (l5.two hz) rfl (show upd H5 z (.lst [.int g4, .int g5]) z = some _ from upd_same)
    have f36 : Fr (Two S L) H3 H6 := (frTwo s4 l3).trans ((frTwo s5 l4).trans (fz.no.trans f6))
    have f06 := f3.trans f36
    obtain ⟨ci, eci, cc⟩ := two_of (x := g4) (y := g5) a6 b6
    obtain ⟨c, rfl⟩ : ∃ c : Nat, ci = c := ⟨ci.toNat, by omega⟩
    refine ⟨z, _, g6, _, rfl, rfl, SqL.of hz6, eci, _, rfl, _, rfl, _, rfl, _, rfl, _, _, rfl, rfl, _, rfl, S, L, .ref ka, wd, ks, r - 1, c, rfl, l6, kn.fr f06, wr.fr hl f06, by omega, by omega, by omega, fun uf tf H7 l7 f7 rtf gtf => ?_⟩
    refine ⟨_, rfl, _, rfl, c, rfl, by omega, by omega, fun D hD => ?_⟩
    have nD := l7.two hD
    have f07 := f06.trans f7
    refine lc_range (lo := 0) (n := c) (fun i H' => ∃ us ts, H' D = some (.lst us) ∧ Als (fun u t => RT H' u t ∧ GT ks (Wb m) (1 + 2 * m) t) us ts ∧ us.length = i ∧ LS H' S L ∧ Fr (Two S L) H7 H') ⟨[], [], upd_same, .nil, rfl, l7.laid hD, Fr.new hD⟩ ?_ ?_
    · rintro i H8 hi ⟨us, ts, h1, h2, h3, l8, f8⟩
      refine ⟨rfl, _, rfl, _, rfl, _, rfl, _, rfl, _, _, rfl, rfl, part_at H8 _ l8 (f07.trans f8) fun u t H9 l9 f9 rt gt => ?_⟩
      have h15 := f9.keep nD rfl h1
      have fm : Fr (fun b => b = D) H9 (upd H9 D (.lst (us ++ [u]))) := Fr.set rfl h15 rfl
      exact ⟨us, h15, Nat.lt_of_le_of_lt (show us.length ≤ 1000000 by omega) (by decide), us ++ [u], ts ++ [t], upd_same, (h2.mono fun _ _ z => ⟨z.1.keep (f9.tup.trans fm.tup), z.2⟩).app (.one ⟨rt.keep fm.tup, gt⟩), by simp [h3], l9.put nD, (f8.trans f9).mut hD h15 rfl⟩
    rintro H8 ⟨us, ts, h1, h2, h3, l8, f8⟩
    refine ⟨D, us, rfl, .inl ⟨SqL.of h1, fun T hT => ⟨sl3, fun y hy => ?_⟩⟩⟩
    have g1 := Fr.new (X := No) (o := .tup us) hT
    have g2 := Fr.new (X := No) (o := .tup [V.str "call", uf, .ref T]) hy
    have g := g1.trans g2
    have lts := h2.len
    have rts : ∀ {us : List V} {ts : List Tr}, Als (fun u t => RT H8 u t ∧ GT ks (Wb m) (1 + 2 * m) t) us ts → RTs H8 us ts ∧ ∀ t ∈ ts, GT ks (Wb m) (1 + 2 * m) t := by
      intro us ts h
      induction h with
      | nil => exact ⟨.nil, fun _ m => by cases m⟩
      | cons r _ ih => exact ⟨.cons r.1 ih.1, fun t ht => (List.mem_cons.mp ht).elim (fun e => by rw [e]; exact r.2) (ih.2 t)⟩
    obtain ⟨rr, gg⟩ := rts h2
    obtain ⟨p1, p2, p3, p4⟩ := parts2 gg
    refine q _ (.call tf ts) _ (l8.sm g.sm) (f07.trans (f8.trans g.no)) (.call upd_same (g2.tup _ _ upd_same) ((rtf.keep f8.tup).keep g.tup) (rr.keep g.tup)) ⟨⟨by omega, gtf.g, p1⟩, fun y h => h.elim (gtf.f y) (p2 y), ?_, ?_⟩
    · rw [wT_call]
      have a1 := gtf.w
      have a2 : ts.length * (1 + Wb m) ≤ 5 * (1 + Wb m) := Nat.mul_le_mul_right _ (by omega)
      omega
    · rw [depT_call]
      have a1 := gtf.d
      omega
  -- a half of a pair
  refine ⟨_, rfl, rfl, _, rfl, ?_⟩
  refine ite2 (fun _ => ?_) (fun _ => ?_)
  · refine ⟨_, rfl, _, rfl, _, rfl, _, rfl, _, _, rfl, rfl, part_at H3 _ l3 f3 fun u1 t1 H4 l4 f4 rt1 gt1 => ⟨_, rfl, _, rfl, _, rfl, _, rfl, _, _, rfl, rfl, part_at H4 _ l4 (f3.trans f4) fun u2 t2 H5 l5 f5 rt2 gt2 => ⟨sl2, fun tp htp => ?_⟩⟩⟩
    have ftp : Fr No H5 (upd H5 tp (.tup [u1, u2])) := Fr.new htp
    have etp : upd H5 tp (.tup [u1, u2]) tp = some (.tup [u1, u2]) := upd_same
    have l6 := l5.sm ftp.sm
    refine ⟨sl2, fun z hz => ?_⟩
    have fz : Fr No _ (upd (upd H5 tp (.tup [u1, u2])) z (.lst (halves.map V.str))) := Fr.new hz
    refine ⟨_, rfl, S, L, 2, rfl, l6.laid hz, by decide, nbs (by decide), fun gg H7 a7 b7 l7 s7 => ?_⟩
    have f7 := frTwo s7 (l6.laid hz)
    have hz7 := f7.keep (l6.two hz) rfl (show upd (upd H5 tp (.tup [u1, u2])) z (.lst (halves.map V.str)) z = some _ from upd_same)
    obtain ⟨x, xm, ex⟩ := pick_map (f := V.str) (xs := halves) a7 b7
    refine ⟨z, _, gg, .str x, rfl, rfl, SqL.of hz7, ex, sl2, fun y1 hy1 => ⟨sl2, fun y2 hy2 => ⟨_, rfl, sl3, fun y3 hy3 => ⟨sl1, fun y4 hy4 => ⟨sl3, fun y5 hy5 => ?_⟩⟩⟩⟩⟩
    have g1 := Fr.new (X := No) (o := .tup [V.str "prim", .str x]) hy1
    have g2 := Fr.new (X := No) (o := .tup [V.str "prim", .str "pair"]) hy2
    have g3 := Fr.new (X := No) (o := .tup [V.str "call", .ref y2, .ref tp]) hy3
    have g4 := Fr.new (X := No) (o := .tup [V.ref y3]) hy4
    have g5 := Fr.new (X := No) (o := .tup [V.str "call", .ref y1, .ref y4]) hy5
    have g45 := g4.trans g5
    have g35 := g3.trans g45
    have g25 := g2.trans g35
    have g := g1.trans g25
    have f57 : Fr (Two S L) H5 H7 := (ftp.trans fz).no.trans f7
    have xp : x ∈ prims8 := by
      simp only [halves, List.mem_cons, List.not_mem_nil, or_false] at xm
      rcases xm with e | e <;> subst e <;> decide
    obtain ⟨p1, p2, p3, p4⟩ := parts2 (ts := [t1, t2]) fun t ht => by
      rcases List.mem_cons.mp ht with e | ht
      · rw [e]; exact gt1
      · rw [List.mem_singleton.mp ht]; exact gt2
    have k57 := f57.tup.trans g.tup
    refine q _ (.call (.prim x) [.call (.prim "pair") [t1, t2]]) _ (l7.sm g.sm) (f3.trans (f4.trans (f5.trans (f57.trans g.no)))) (.call upd_same (g5.tup _ _ upd_same) (.prim (g25.tup _ _ upd_same)) (.cons (.call (g45.tup _ _ upd_same) (g.tup _ _ (f7.tup _ _ (fz.tup _ _ etp))) (.prim (g35.tup _ _ upd_same)) (.cons ((rt1.keep f5.tup).keep k57) (.cons (rt2.keep k57) .nil))) .nil)) ⟨⟨by show 1 ≤ 5; omega, xp, ⟨by show 2 ≤ 5; omega, (by show ("pair" : Str) ∈ prims8; decide), p1⟩, trivial⟩, fun y h => ?_, ?_, ?_⟩
    · rcases h with h | (h | h) | h
      · exact h.elim
      · exact h.elim
      · exact p2 y h
      · exact h.elim
    · have : [t1, t2].length * (1 + Wb m) = 2 * (1 + Wb m) := rfl
      show 2 + 3 + (1 + (2 + 3 + wTs [t1, t2]) + 0) ≤ _
      omega
    · show 1 + max 1 (max (1 + max 1 (depTs [t1, t2])) 0) ≤ _
      omega
  exact ⟨_, rfl, _, rfl, _, rfl, _, rfl, S, L, .ref ka, wd, ks, r, rfl, l3, kn.fr f3, wr.fr hl f3, by omega, by omega, fun u t H4 l4 f4 rt gt => q u t H4 l4 (f3.trans f4) rt gt⟩
end
end My
namespace My
open PySem PySem.Spec PyProof.Rows L2 TL
/-! ### the generator by the room; _law_program -/
abbrev sPgm : Stmt := top 50
abbrev NPg : List Str := ["state", "world", "names", "name", "definitions", "module", "own"]
/-- a drawn program: definitions that are closed, and a closed tree -/
structure PgOk (ds : List ((Str × Str) × Tr)) (t : Tr) : Prop where
  l : ds.length ≤ 4
  d : ∀ d ∈ ds, GT [] 98753 13 d.2 ∧ d.1.1 ∈ globM ∧ d.1.2 ∈ globX
  t : GT [] 98753 13 t
def RDg (H : Hp) (v : V) (d : (Str × Str) × Tr) : Prop := ∃ (a : Addr) (c : V), v = .ref a ∧ H a = some (.tup [.str d.1.1, .str d.1.2, c]) ∧ RT H c d.2
theorem RDg.keep {H H' : Hp} (k : KpT H H') {v : V} {d : (Str × Str) × Tr} (h : RDg H v d) : RDg H' v d := by
  obtain ⟨a, c, e, h1, h2⟩ := h
  exact ⟨a, c, e, k _ _ h1, h2.keep k⟩
def spPgm : Sp := fun vs H Q _ => ∃ (S L : Addr), vs = [.ref S] ∧ LS H S L ∧ ∀ (r D : Addr) (us : List V) (c : V) (ds : List ((Str × Str) × Tr)) (t : Tr) H', LS H' S L → Fr (Two S L) H H' → H' r = some (.tup [.ref D, c]) → H' D = some (.lst us) → H D = none → Als (RDg H') us ds → RT H' c t → PgOk ds t → Q (.ref r) H'
/-- what stands for the generator -/
structure Gen (P : Program) (w : World) (K : PySem.W.Frag) (mg : Str → Option Value) (base : Heap) (m : Nat) (fP fF : Addr) (dP dF : FuncData) : Prop where
  p : FnOk P w K mg base CX0 (5 + 3 * m) fP dP ["state", "known", "world", "room"] (spPrt m)
  f : 1 ≤ m → FnOk P w K mg base CX0 (5 + 3 * m) fF dF ["state", "known", "world", "room", "arity"] (spFun m)
theorem cutV_strs (ns : List Str) (k : Nat) : cutV (ns.map V.str) none (some (k : Int)) = ((ns.take k).map V.str) := by
  unfold cutV
  rw [HT.sIx_none, HT.sIx_nat, List.drop_zero, List.length_map, ← List.map_take]
  congr 1
  rw [show min k ns.length - 0 = min k ns.length by omega, List.take_eq_take_iff.mpr]
  omega
def wdF (p : Str × Int) : Key × V := (Sum.inr p.1, .int p.2)
theorem pk_ws {x : Str} {j : Int} : ∀ {ps : List (Str × Int)}, ∃ ps' : List (Str × Int), putK (ps.map wdF) (.inr x) (.int j) = ps'.map wdF ∧ ps'.length ≤ ps.length + 1 ∧ (∀ p ∈ ps', (p.1 = x ∧ p.2 = j) ∨ p ∈ ps) ∧ x ∈ ps'.map Prod.fst ∧ (∀ y ∈ ps.map Prod.fst, y ∈ ps'.map Prod.fst) := by
  intro ps
  unfold putK
  by_cases c : ((ps.map wdF).any fun kv => decide (kv.1 = Sum.inr x)) = true
  · rw [if_pos c]
    refine ⟨ps.map fun p => if p.1 = x then (p.1, j) else p, ?_, by rw [List.length_map]; omega, fun p hp => ?_, ?_, fun y hy => ?_⟩
    · rw [List.map_map, List.map_map]
      refine List.map_congr_left fun p _ => ?_
      show (if (Sum.inr p.1 : Key) = Sum.inr x then (Sum.inr p.1, V.int j) else wdF p) = wdF (if p.1 = x then (p.1, j) else p)
      by_cases e : p.1 = x
      · rw [if_pos (by rw [e]), if_pos e]; rfl
      · rw [if_neg (fun z => e (Sum.inr.inj z)), if_neg e]
    · obtain ⟨p0, h0, rfl⟩ := List.mem_map.mp hp
      by_cases e : p0.1 = x
      · rw [if_pos e]; exact .inl ⟨e, rfl⟩
      · rw [if_neg e]; exact .inr h0
    · obtain ⟨kv, h1, h2⟩ := List.any_eq_true.mp c
      obtain ⟨p0, h0, rfl⟩ := List.mem_map.mp h1
      have e : p0.1 = x := Sum.inr.inj (of_decide_eq_true h2)
      refine List.mem_map.mpr ⟨_, List.mem_map.mpr ⟨p0, h0, rfl⟩, ?_⟩
      rw [if_pos e]; exact e
    · obtain ⟨p0, h0, rfl⟩ := List.mem_map.mp hy
      refine List.mem_map.mpr ⟨_, List.mem_map.mpr ⟨p0, h0, rfl⟩, ?_⟩
      split <;> rfl
  · rw [if_neg c]
    refine ⟨ps ++ [(x, j)], by rw [List.map_append]; rfl, by rw [List.length_append]; exact Nat.le_refl _, fun p hp => ?_, ?_, fun y hy => ?_⟩
    · rcases List.mem_append.mp hp with hp | hp
      · exact .inr hp
      · rw [List.mem_singleton.mp hp]; exact .inl ⟨rfl, rfl⟩
    · rw [List.map_append]; exact List.mem_append_right _ List.mem_cons_self
    · rw [List.map_append]; exact List.mem_append_left _ hy
section
variable {P : Program} {w : World} {K : PySem.W.Frag} {mg : Str → Option Value} {base : Heap}
theorem gen_all {fT fL fN fS fP fF fE fX : Addr} {dT dL dN dS dP dF dE dX : FuncData} (B : Blt mg) (BS : mg "sorted" = none) (GT_ : Cal P w K mg base CX0 2 "_law_take" ["state", "limit"] spTake fT dT) (GL : Cal P w K mg base CX0 1 "_law_locals" ["known", "sort"] spLoc fL dL)
    (GN : Cal P w K mg base CX0 3 "_law_numbers" ["state", "count"] spNus fN dN) (GS : Cal P w K mg base CX0 3 "_law_small" ["state"] spSml fS dS) (FP : Fun K "_law_part" "_law_part" sPrt fP dP) (FF : Fun K "_law_function" "_law_function" sFnc fF dF) (FE : Fun K "_law_let" "_law_let" sLtt fE dE) (FX : Fun K "_law_strange" "_law_strange" sStr fX dX)
    (gP : mg "_law_part" = some (.ref fP)) (gF : mg "_law_function" = some (.ref fF)) (gE : mg "_law_let" = some (.ref fE)) (gX : mg "_law_strange" = some (.ref fX)) (bP : Binds K dP ["state", "known", "world", "room"] []) (bF : Binds K dF ["state", "known", "world", "room", "arity"] []) (bE : Binds K dE ["state", "known", "world", "room"] []) (bX : Binds K dX ["state", "known", "world", "room"] []) :
    ∀ m : Nat, m ≤ 6 → Gen P w K mg base m fP fF dP dF
  | 0, _ => by
    refine ⟨FnOk.mono (ok_prt (k := 4) (M := 0) (sP := fun _ _ _ _ => False) (sF := fun _ _ _ _ => False) (sE := fun _ _ _ _ => False) (sX := fun _ _ _ _ => False) (Nat.le_refl _) (.inl (by omega)) FP B GT_ GL GS ⟨fn_none, FP.kp, gP, bP⟩ ⟨fn_none, FF.kp, gF, bF⟩ ⟨fn_none, FE.kp, gE, bE⟩ ⟨fn_none, FX.kp, gX, bX⟩) (by omega), fun h => absurd h (by omega)⟩
  | 1, _ => by
    obtain ⟨p0, _⟩ := gen_all B BS GT_ GL GN GS FP FF FE FX gP gF gE gX bP bF bE bX 0 (by omega)
    refine ⟨FnOk.mono (ok_prt (k := 4) (M := 1) (sP := fun _ _ _ _ => False) (sF := fun _ _ _ _ => False) (sE := fun _ _ _ _ => False) (sX := fun _ _ _ _ => False) (Nat.le_refl _) (.inl (by omega)) FP B GT_ GL GS ⟨fn_none, FP.kp, gP, bP⟩ ⟨fn_none, FF.kp, gF, bF⟩ ⟨fn_none, FE.kp, gE, bE⟩ ⟨fn_none, FX.kp, gX, bX⟩) (by omega), fun _ => ?_⟩
    exact FnOk.mono (ok_fnc (m := 0) (by omega) FF B BS GT_ GL GN ⟨p0, FP.kp, gP, bP⟩) (by omega)
  | m + 2, h => by
    obtain ⟨p, f⟩ := gen_all B BS GT_ GL GN GS FP FF FE FX gP gF gE gX bP bF bE bX (m + 1) (by omega)
    have f := f (by omega)
    have e := ok_ltt (k := 5 + 3 * (m + 1)) (m := m + 1) (by omega) (by omega) (by omega) FE B GT_ GN ⟨p, FP.kp, gP, bP⟩ ⟨f, FF.kp, gF, bF⟩
    have x := ok_str (k := 5 + 3 * (m + 1)) (m := m + 1) (by omega) (by omega) (by omega) FX GT_ GS ⟨f, FF.kp, gF, bF⟩
    refine ⟨FnOk.mono (ok_prt (k := 5 + 3 * (m + 1) + 1) (M := m + 1 + 1) (by omega) (.inr ⟨m + 1, rfl, by omega, by omega, rfl, rfl, rfl, rfl⟩) FP B GT_ GL GS ⟨FnOk.mono p (by omega), FP.kp, gP, bP⟩ ⟨FnOk.mono f (by omega), FF.kp, gF, bF⟩ ⟨e, FE.kp, gE, bE⟩ ⟨x, FX.kp, gX, bX⟩) (by omega), fun _ => ?_⟩
    exact FnOk.mono (ok_fnc (m := m + 1) (by omega) FF B BS GT_ GL GN ⟨p, FP.kp, gP, bP⟩) (by omega)
theorem scPgm : FnScope NPg ["state"] (defScope sPgm) := ⟨rfl, rfl, rfl, by decide +kernel, rfl, by decide +kernel, by decide +kernel⟩
theorem Wb_le6 : ∀ m, Wb m ≤ 98753
  | 0 => by decide
  | 1 => by decide
  | 2 => by decide
  | 3 => by decide
  | 4 => by decide
  | 5 => by decide
  | _ + 6 => by show 98753 ≤ 98753; omega
theorem ok_pgm {f fT fP fF : Addr} {fd dT dP dF : FuncData} (F : Fun K "_law_program" "_law_program" sPgm f fd) (B : Blt mg) (GT_ : Cal P w K mg base CX0 2 "_law_take" ["state", "limit"] spTake fT dT)
    (GP : Cal P w K mg base CX0 23 "_law_part" ["state", "known", "world", "room"] (spPrt 6) fP dP) (GF : Cal P w K mg base CX0 23 "_law_function" ["state", "known", "world", "room", "arity"] (spFun 5) fF dF) : FnOk P w K mg base CX0 24 f fd ["state"] spPgm := by
  refine F.ok scPgm (fun vs H Q E h => ?_) (fun cdv A outer s H vs Q E hr h => ?_)
  · obtain ⟨S, L, rfl, _⟩ := h
    rfl
  obtain ⟨S, L, rfl, hl, q⟩ := h
  have nd := scPgm.nd
  have hu := hu_of hr
  have r2 : Room 2 _ := hr.mono (show 2 ≤ 23 by decide)
  refine ⟨_, (pss_cons (ps_set (i := 1) nd rfl (Or.inl rfl) pe_dnewK)
    (pss_cons (ps_set (i := 2) nd rfl (Or.inl rfl) (pe_slice sl_list (pe_lst (pa_cons pe_str (pa_cons pe_str (pa_cons pe_str (pa_cons pe_str pa_nil))))) po_none (po_some (pe_call GT_.ok r2 rfl GT_.g GT_.k GT_.b .nil pass0 (pa_cons (pv 0) (pa_cons pe_int pa_nil))))))
    (pss_cons (ps_for PassesOwn.never rfl (pi_list (pv 2)) (pg_name (i := 3) nd rfl (Or.inl rfl))
      (pss_one (ps_dput hu (pv 1) (pv 3) (pe_op op_sub (pe_call GT_.ok r2 rfl GT_.g GT_.k GT_.b .nil pass0 (pa_cons (pv 0) (pa_cons pe_int pa_nil))) pe_int) rfl)))
    (pss_cons (ps_set (i := 4) nd rfl (Or.inl rfl) (pe_lst pa_nil))
    (pss_cons (ps_for PassesOwn.never rfl (pi_list (pv 2)) (pg_name (i := 3) nd rfl (Or.inl rfl))
      (pss_cons (ps_asg (pe_split (pv 3) pe_str) (pg_lst rfl (pgs_cons (pg_name (i := 5) nd rfl (Or.inl rfl)) (pgs_cons (pg_name (i := 6) nd rfl (Or.inl rfl)) pgs_nil))))
      (pss_one (ps_if (pt_cmpR op_lt (pe_dget hu (pv 1) (pv 3) (fun _ _ => rfl)) pe_int (nomark _)) (pss_one (ps_expr (pe_bm PySem.F.plainAttrs_list PySem.F.slot_list_append PySem.F.type_list_append mt_append (pv 4) (pa_cons (pe_tup (pa_cons (pv 5) (pa_cons (pv 6) (pa_cons (pe_call GP.ok hr rfl GP.g GP.k GP.b .nil pass0 (pa_cons (pv 0) (pa_cons (pe_lst pa_nil) (pa_cons (pv 1) (pa_cons pe_int pa_nil))))) pa_nil)))) pa_nil)))) (pss_one (ps_expr (pe_bm PySem.F.plainAttrs_list PySem.F.slot_list_append PySem.F.type_list_append mt_append (pv 4) (pa_cons (pe_tup (pa_cons (pv 5) (pa_cons (pv 6) (pa_cons (pe_call GF.ok hr rfl GF.g GF.k GF.b .nil pass0 (pa_cons (pv 0) (pa_cons (pe_lst pa_nil) (pa_cons (pv 1) (pa_cons pe_int (pa_cons (pe_dget hu (pv 1) (pv 3) (fun _ _ => rfl)) pa_nil)))))) pa_nil)))) pa_nil))))))))
    (pss_one (ps_ret (pe_tup (pa_cons (pv 4) (pa_cons (pe_call GP.ok hr rfl GP.g GP.k GP.b .nil pass0 (pa_cons (pv 0) (pa_cons (pe_lst pa_nil) (pa_cons (pv 1) (pa_cons pe_int pa_nil))))) pa_nil)))))))))), ?_⟩
  refine fun Wd hWd => ?_
  have f1 : Fr No H (upd H Wd (.dK [])) := Fr.new hWd
  have l1 := hl.laid (o := .dK []) hWd
  refine ⟨by show 4 ≤ sizeLine; decide, fun z hz => ?_⟩
  have f2 : Fr No (upd H Wd (.dK [])) (upd (upd H Wd (.dK [])) z (.lst (wdNames.map V.str))) := Fr.new hz
  have l2 := l1.laid (o := .lst (wdNames.map V.str)) hz
  have nW := hl.two hWd
  refine ⟨_, rfl, S, L, 5, rfl, l2, by decide, nbs (by decide), fun g H3 a3 b3 l3 s3 => ?_⟩
  obtain ⟨k, rfl⟩ : ∃ k : Nat, g = k := ⟨g.toNat, by omega⟩
  have f3 := frTwo s3 l2
  have hz3 := f3.keep (l1.two hz) rfl (show upd (upd H Wd (.dK [])) z (.lst (wdNames.map V.str)) z = some _ from upd_same)
  have hW3 := f3.keep nW rfl (f2.keep (fun z => z) rfl (show upd H Wd (.dK []) Wd = some (.dK []) from upd_same))
  have f03 : Fr (Two S L) H H3 := f1.no.trans (f2.no.trans f3)
  refine ⟨(k : Int), rfl, z, _, rfl, SqL.of hz3, fun p hp => ?_⟩
  rw [cutV_strs]
  have nmk : ∀ x ∈ wdNames.take k, x ∈ wdNames := fun x m => List.mem_of_mem_take m
  have lnm : (wdNames.take k).length ≤ 4 := by
    have : wdNames.length = 4 := rfl
    rw [List.length_take]; omega
  generalize wdNames.take k = nms at nmk lnm ⊢
  have fp : Fr No H3 (upd H3 p (.lst (nms.map V.str))) := Fr.new hp
  have ep : upd H3 p (.lst (nms.map V.str)) p = some (.lst (nms.map V.str)) := upd_same
  have l4 := l3.laid (o := .lst (nms.map V.str)) hp
  have hW4 := fp.keep (fun z => z) rfl hW3
  have np := l3.two hp
  have nWp : p ≠ Wd := fun z => by rw [z] at hp; rw [hW3] at hp; cases hp
  generalize upd H3 p (.lst (nms.map V.str)) = H4 at fp ep l4 hW4 ⊢
  have f04 := f03.trans fp.no
  refine ⟨_, rfl, p, rfl, ⟨_, SqL.of ep⟩, for_list (xs := nms.map V.str) (fun i σ H' => ∃ (v3 : Option V) (ps : List (Str × Int)), σ = [some (.ref S), some (.ref Wd), some (.ref p), v3, none, none, none] ∧ H' Wd = some (.dK (ps.map wdF)) ∧ H' p = some (.lst (nms.map V.str)) ∧ (∀ x ∈ nms.take i, x ∈ ps.map Prod.fst) ∧ (∀ q ∈ ps, q.1 ∈ wdNames ∧ q.2 ≤ 4) ∧ ps.length ≤ i ∧ LS H' S L ∧ Fr (Two S L) H H')
    ⟨none, [], rfl, hW4, ep, (fun x m => by rw [List.take_zero] at m; cases m), (fun _ m => by cases m), Nat.le_refl _, l4, f04⟩ (fun i σ H' _ ⟨_, _, _, _, z, _⟩ => SqL.of z) ?_ ?_⟩
  · rintro i v σ H5 hi ⟨v3, ps, rfl, h1, h2, h3, h4, h5, l5, f5⟩
    rw [List.getElem?_map] at hi
    obtain ⟨x, hx, rfl⟩ := Option.map_eq_some_iff.mp hi
    have il : i < nms.length := (List.getElem?_eq_some_iff.mp hx).1
    refine ⟨_, rfl, S, L, 6, rfl, l5, by decide, nbs (by decide), fun g6 H6 a6 b6 l6 s6 => ⟨_, _, rfl, rfl, ?_⟩⟩
    have f6 := frTwo s6 l5
    have h16 := f6.keep nW rfl h1
    refine ⟨_, rfl, _, rfl, Wd, _, rfl, DPut.k (k := Sum.inr x) h16 (Nat.lt_of_le_of_lt (show _ ≤ 1000000 by rw [List.length_map]; omega) (by decide)), ?_⟩
    obtain ⟨ps', e1, e2, e3, e4, e5⟩ := pk_ws (x := x) (j := g6 - 1) (ps := ps)
    refine ⟨_, ps', rfl, by rw [upd_same]; dsimp only; rw [e1], by rw [upd_ne nWp]; exact f6.keep np rfl h2, fun y m => ?_, fun q hq => ?_, by omega, l6.put nW, (f5.trans f6).mut hWd h16 rfl⟩
    · rw [take_more hx] at m
      rcases List.mem_append.mp m with m | m
      · exact e5 y (h3 y m)
      · rw [List.mem_singleton.mp m]; exact e4
    · rcases e3 q hq with ⟨e, e'⟩ | e
      · rw [e, e']; exact ⟨nmk x (List.mem_of_getElem? hx), by omega⟩
      · exact h4 q e
  rintro σ H5 ⟨v3, ps, rfl, h1, h2, h3, h4, h5, l5, f5⟩
  rw [List.length_map] at h5
  rw [List.length_map, List.take_length] at h3
  refine ⟨by show 0 ≤ sizeLine; decide, fun D hD => ?_⟩
  have nD := l5.two hD
  have fD : Fr No H5 (upd H5 D (.lst [])) := Fr.new hD
  have npD : p ≠ D := ne_of_none h2 hD
  refine ⟨_, rfl, p, rfl, ⟨_, SqL.of (fD.keep (fun z => z) rfl h2)⟩, for_list (xs := nms.map V.str) (fun i σ H' => ∃ (v3 v5 v6 : Option V) (us : List V) (ds : List ((Str × Str) × Tr)), σ = [some (.ref S), some (.ref Wd), some (.ref p), v3, some (.ref D), v5, v6] ∧ H' D = some (.lst us) ∧ Als (RDg H') us ds ∧ ds.length = i ∧ (∀ d ∈ ds, GT [] 98753 13 d.2 ∧ d.1.1 ∈ globM ∧ d.1.2 ∈ globX) ∧ LS H' S L ∧ Fr (Two S L) H5 H')
    ⟨_, none, none, [], [], rfl, upd_same, .nil, rfl, (fun _ m => by cases m), l5.laid hD, fD.no⟩ (fun i σ H' _ ⟨_, _, _, _, _, _, _, _, _, _, _, z⟩ => SqL.of (z.keep np rfl h2)) ?_ ?_⟩
  · rintro i v σ H6 hi ⟨v3, v5, v6, us, ds, rfl, k1, k2, k3, k4, l6, f6⟩
    rw [List.getElem?_map] at hi
    obtain ⟨x, hx, rfl⟩ := Option.map_eq_some_iff.mp hi
    have il : i < nms.length := (List.getElem?_eq_some_iff.mp hx).1
    have xm := List.mem_of_getElem? hx
    obtain ⟨_, mm, yy, esp, hmg, hyg, hx10⟩ := wd_ok (nmk x xm)
    refine ⟨_, rfl, ⟨_, rfl⟩, x, " ", rfl, rfl, rfl, Nat.le_trans (Nat.add_le_add_right hx10 2) (by decide), fun l hl0 => ?_⟩
    rw [esp]
    have fl : Fr No H6 (upd H6 l (.lst ([mm, yy].map V.str))) := Fr.new hl0
    refine ⟨l, _, rfl, SqL.of upd_same, rfl, _, _, rfl, _, _, rfl, rfl, ?_⟩
    have l7 := l6.sm fl.sm
    have f7 := f6.trans fl.no
    have kD7 := fl.keep (fun z => z) rfl k1
    have al7 := k2.mono fun _ _ z => z.keep fl.tup
    generalize upd H6 l (.lst ([mm, yy].map V.str)) = H7 at fl l7 f7 kD7 al7 ⊢
    obtain ⟨j, hj, jm⟩ := valV_ws (h3 x xm)
    have j4 := (h4 _ jm).2
    dsimp only at j4
    have hW7 := f7.keep nW rfl h1
    have wr7 : WdR H7 (.ref Wd) := ⟨Wd, ps, rfl, hW7, by omega, fun q hq => (h4 q hq).1⟩
    have lus : us.length ≤ 4 := by rw [k2.len, k3]; omega
    have dg : DGet H7 Wd (V.str x) (some (.int j)) := by
      have := DGet.k (k := Sum.inr x) hW7
      rw [show valV (ps.map wdF) (.inr x) = some (.int j) from hj] at this
      exact this
    refine ⟨_, rfl, _, rfl, Wd, .int j, rfl, dg, _, _, rfl, rfl, _, rfl, ?_⟩
    have fin : ∀ (u : V) (t : Tr) (e : Addr) (H8 H9 : Hp), Fr No H7 H8 → LS H9 S L → Fr (Two S L) H8 H9 → RT H9 u t → GT [] 98753 13 t → ∀ y, H9 y = none → (upd H9 y (.tup [.str mm, .str yy, u])) D = some (.lst us) ∧ us.length < sizeLine ∧ ∃ us' ds', (upd (upd H9 y (.tup [.str mm, .str yy, u])) D (.lst (us ++ [.ref y]))) D = some (.lst us') ∧ Als (RDg (upd (upd H9 y (.tup [.str mm, .str yy, u])) D (.lst (us ++ [.ref y])))) us' ds' ∧ ds'.length = i + 1 ∧ (∀ d ∈ ds', GT [] 98753 13 d.2 ∧ d.1.1 ∈ globM ∧ d.1.2 ∈ globX) ∧ LS (upd (upd H9 y (.tup [.str mm, .str yy, u])) D (.lst (us ++ [.ref y]))) S L ∧ Fr (Two S L) H5 (upd (upd H9 y (.tup [.str mm, .str yy, u])) D (.lst (us ++ [.ref y]))) := by
      intro u t e H8 H9 f78 l9 f89 rt gt y hy
      have fy : Fr No H9 (upd H9 y (.tup [.str mm, .str yy, u])) := Fr.new hy
      have f79 := f78.no.trans (f89.trans fy.no)
      have kD9 := f79.keep nD rfl kD7
      have fm : Fr (fun b => b = D) _ (upd (upd H9 y (.tup [.str mm, .str yy, u])) D (.lst (us ++ [V.ref y]))) := Fr.set rfl kD9 rfl
      refine ⟨kD9, Nat.lt_of_le_of_lt (show us.length ≤ 1000000 by omega) (by decide), us ++ [.ref y], ds ++ [((mm, yy), t)], upd_same, ?_, by rw [List.length_append, k3]; rfl, fun d hd => ?_, (l9.sm fy.sm).put nD, (f7.trans f79).mut hD kD9 rfl⟩
      · exact (al7.mono fun _ _ z => z.keep (f79.tup.trans fm.tup)).app (.one ⟨y, u, rfl, fm.tup _ _ upd_same, (rt.keep fy.tup).keep fm.tup⟩)
      · rcases List.mem_append.mp hd with hd | hd
        · exact k4 d hd
        · rw [List.mem_singleton.mp hd]; exact ⟨gt, hmg, hyg⟩
    have kn0 : ∀ {H' : Hp} {e : Addr}, H' e = some (.lst []) → ¬ Two S L e → KnR S L H' (.ref e) [] := fun h n => ⟨⟨_, [], rfl, h, .nil, n⟩, fun _ m => by cases m⟩
    refine ite2 (fun _ => ?_) (fun cge => ?_)
    · refine ⟨_, rfl, .inl ⟨rfl, _, SqL.of kD7⟩, _, rfl, _, rfl, _, rfl, by show 0 ≤ sizeLine; decide, fun e he => ⟨_, rfl, ?_⟩⟩
      have fe : Fr No H7 (upd H7 e (.lst [])) := Fr.new he
      refine ⟨S, L, .ref e, .ref Wd, [], 3, rfl, l7.laid he, kn0 upd_same (l7.two he), (wr7.fr l7 fe.no), by decide, by decide, fun u t H9 l9 f9 rt gt => ⟨sl3, fun y hy => ?_⟩⟩
      obtain ⟨q1, q2, us', ds', q3⟩ := fin u t e _ H9 fe l9 f9 rt (gt.wide (Nat.le_refl _) (by omega)) y hy
      exact ⟨D, us, _, rfl, rfl, q1, q2, _, _, _, us', ds', rfl, q3⟩
    · have cge : ¬ (j < 0) := fun z => cge (decide_eq_true z)
      obtain ⟨jn, rfl⟩ : ∃ jn : Nat, j = jn := ⟨j.toNat, by omega⟩
      refine ⟨_, rfl, .inl ⟨rfl, _, SqL.of kD7⟩, _, rfl, _, rfl, _, rfl, by show 0 ≤ sizeLine; decide, fun e he => ?_⟩
      have fe : Fr No H7 (upd H7 e (.lst [])) := Fr.new he
      refine ⟨_, rfl, _, rfl, _, rfl, Wd, .int (jn : Nat), rfl, ?_, S, L, .ref e, .ref Wd, [], 5, jn, rfl, l7.laid he, kn0 upd_same (l7.two he), (wr7.fr l7 fe.no), by decide, by omega, by decide, fun u t H9 l9 f9 rt gt => ⟨sl3, fun y hy => ?_⟩⟩
      · have := DGet.k (k := Sum.inr x) (fe.keep (fun z => z) rfl hW7)
        rw [show valV (ps.map wdF) (.inr x) = some (.int (jn : Nat)) from hj] at this
        exact this
      obtain ⟨q1, q2, us', ds', q3⟩ := fin u t e _ H9 fe l9 f9 rt (gt.wide (by decide) (by decide)) y hy
      exact ⟨D, us, _, rfl, rfl, q1, q2, _, _, _, us', ds', rfl, q3⟩
  rintro σ H6 ⟨v3', v5, v6, us, ds, rfl, k1, k2, k3, k4, l6, f6⟩
  rw [List.length_map] at k3
  refine ⟨_, rfl, _, rfl, by show 0 ≤ sizeLine; decide, fun e he => ⟨_, rfl, ?_⟩⟩
  have fe : Fr No H6 (upd H6 e (.lst [])) := Fr.new he
  have hW6 := f6.keep nW rfl h1
  have wr6 : WdR H6 (.ref Wd) := ⟨Wd, ps, rfl, hW6, by omega, fun q hq => (h4 q hq).1⟩
  refine ⟨S, L, .ref e, .ref Wd, [], 6, rfl, l6.laid he, ⟨⟨_, [], rfl, upd_same, .nil, l6.two he⟩, fun _ m => by cases m⟩, (wr6.fr l6 fe.no), by decide, by decide, fun u t H9 l9 f9 rt gt => ⟨sl2, fun y hy => ?_⟩⟩
  have fy : Fr No H9 (upd H9 y (.tup [.ref D, u])) := Fr.new hy
  have f69 := fe.no.trans (f9.trans fy.no)
  refine q y D us u ds t _ (l9.sm fy.sm) (f5.trans (f6.trans f69)) upd_same (f69.keep nD rfl k1) (f5.dom hD) (k2.mono fun _ _ z => z.keep f69.tup) (rt.keep fy.tup) ⟨by omega, k4, gt.wide (by decide) (by decide)⟩
end
end My
namespace My
open PySem PySem.Spec PyProof.Rows L2 TL
/-! ### the evaluator is total on drawn trees -/
inductive GV : Vl → Prop
  | int (i : Int) (h : i.natAbs ≤ 10 ^ 60) : GV (.int i)
  | prim (p : Str) (h : p ∈ prims8) : GV (.prim p)
  | pair {u v : Vl} (hu : GV u) (hv : GV v) : GV (.pair u v)
  | fn {ns : List Int} {b : Tr} {en : Ev} (l : ns.length ≤ 5) (hn : ∀ n ∈ ns, nmOk n) (hb : gdT b) (hv : ∀ p, p ∈ en → GV p.2) (hk : ∀ p ∈ en, nmOk p.1) (nd : (en.map Prod.fst).Nodup) (hf : ∀ x, fv x b → x ∈ ns ∨ ∃ v, evGet x en = some v) : GV (.fnP ns b en)
structure EOk (en : Ev) : Prop where
  v : ∀ p, p ∈ en → GV p.2
  k : ∀ p ∈ en, nmOk p.1
  nd : (en.map Prod.fst).Nodup
theorem nodup_le : ∀ (n : Nat) (l : List Int), l.Nodup → (∀ x ∈ l, 0 ≤ x ∧ x < n) → l.length ≤ n
  | 0, [], _, _ => Nat.le_refl _
  | 0, x :: r, _, h => by have := h x List.mem_cons_self; omega
  | n + 1, l, nd, h => by
    by_cases c : (n : Int) ∈ l
    · have h1 := List.length_erase_of_mem c
      have h2 := nodup_le n (l.erase (n : Int)) (nd.erase _) (fun x m => by
        have m2 := (nd.mem_erase_iff).mp m
        have := h x m2.2
        have := m2.1
        omega)
      have : 0 < l.length := List.length_pos_of_mem c
      omega
    · have := nodup_le n l nd (fun x m => by
        have := h x m
        have : x ≠ n := fun e => c (by rw [← e]; exact m)
        omega)
      omega
theorem EOk.len {en : Ev} (h : EOk en) : en.length ≤ 7 := by
  have := nodup_le 7 (en.map Prod.fst) h.nd (fun x m => by
    obtain ⟨p, hp, rfl⟩ := List.mem_map.mp m
    exact h.k p hp)
  rwa [List.length_map] at this
theorem EOk.nil : EOk [] := ⟨fun _ m => (by cases m), fun _ m => (by cases m), List.nodup_nil⟩
theorem EOk.put {en : Ev} (h : EOk en) {n : Int} {y : Vl} (hn : nmOk n) (hy : GV y) : EOk (evPut n y en) := by
  unfold evPut
  by_cases c : evHas n en = true
  · rw [if_pos c]
    have ek : (en.map fun p => if p.1 = n then (p.1, y) else p).map Prod.fst = en.map Prod.fst := by
      rw [List.map_map]
      refine List.map_congr_left fun p _ => ?_
      show (if p.1 = n then (p.1, y) else p).1 = p.1
      split <;> rfl
    refine ⟨fun p hp => ?_, fun p hp => ?_, by rw [ek]; exact h.nd⟩
    · obtain ⟨q, hq, rfl⟩ := List.mem_map.mp hp
      split
      · exact hy
      · exact h.v q hq
    · obtain ⟨q, hq, rfl⟩ := List.mem_map.mp hp
      split
      · exact h.k q hq
      · exact h.k q hq
  · rw [if_neg c]
    refine ⟨fun p hp => ?_, fun p hp => ?_, ?_⟩
    · rcases List.mem_append.mp hp with hp | hp
      · exact h.v p hp
      · rw [List.mem_singleton.mp hp]; exact hy
    · rcases List.mem_append.mp hp with hp | hp
      · exact h.k p hp
      · rw [List.mem_singleton.mp hp]; exact hn
    · rw [List.map_append]
      refine List.nodup_append.mpr ⟨h.nd, by simp, fun a ha b hb => ?_⟩
      have hb : b = n := by simpa using hb
      subst hb
      intro e
      subst e
      obtain ⟨q, hq, e2⟩ := List.mem_map.mp ha
      exact c (List.any_eq_true.mpr ⟨q, hq, decide_eq_true e2⟩)
theorem EOk.puts : ∀ {ns : List Int} {ys : List Vl} {en : Ev}, EOk en → (∀ n ∈ ns, nmOk n) → (∀ y ∈ ys, GV y) → EOk (evPuts ns ys en)
  | [], _, _, h, _, _ => by unfold evPuts; exact h
  | _ :: _, [], _, h, _, _ => by unfold evPuts; exact h
  | n :: ns, y :: ys, en, h, hn, hy => by
    unfold evPuts
    exact EOk.puts (h.put (hn n List.mem_cons_self) (hy y List.mem_cons_self)) (fun m hm => hn m (List.mem_cons_of_mem _ hm)) (fun z hz => hy z (List.mem_cons_of_mem _ hz))
theorem evGet_mem {x : Int} {v : Vl} : ∀ {en : Ev}, evGet x en = some v → (x, v) ∈ en
  | [], h => by cases h
  | (m, y) :: r, h => by
    unfold evGet at h
    by_cases c : m = x
    · rw [if_pos c] at h; cases h; rw [c]; exact List.mem_cons_self
    · rw [if_neg c] at h; exact List.mem_cons_of_mem _ (evGet_mem h)
theorem EOk.get {en : Ev} (h : EOk en) {x : Int} {v : Vl} (e : evGet x en = some v) : GV v := h.v _ (evGet_mem e)
theorem evGet_puts {x : Int} : ∀ {ns : List Int} {ys : List Vl} {en : Ev}, ns.length = ys.length → (x ∈ ns ∨ ∃ v, evGet x en = some v) → ∃ v, evGet x (evPuts ns ys en) = some v
  | [], [], en, _, h => h.resolve_left (fun m => by cases m)
  | n :: ns, y :: ys, en, e, h => by
    unfold evPuts
    refine evGet_puts (by simpa using e) ?_
    by_cases c : n = x
    · exact .inr ⟨y, by rw [evGet_put, if_pos c]⟩
    · rcases h with h | ⟨v, h⟩
      · exact .inl ((List.mem_cons.mp h).resolve_left fun z => c z.symm)
      · exact .inr ⟨v, by rw [evGet_put, if_neg c]; exact h⟩
theorem reck_err {p : Str} {l r : Int} {ws : List Str} (h : reckF p l r = .error ws) : ws = (["error", "size"] : List Str) := by
  unfold reckF at h
  split at h
  · cases h
  split at h
  · cases h
  generalize opF p l r = o at h
  by_cases c : (if o < 0 then -o else o) > big60
  · rw [if_pos c] at h; cases h; rfl
  · rw [if_neg c] at h; cases h
theorem prim_tot {q : Str} {vs : List Vl} (hc : chkF (.prim q) vs.length = none) (hv : ∀ v ∈ vs, GV v) : (∃ y, primF q vs = .ok y ∧ GV y) ∨ ∃ w, primF q vs = .error (["error", w] : List Str) := by
  have hp := chk_par hc
  have hp : arP q = (vs.length : Int) := hp
  unfold arP at hp
  unfold primF
  by_cases c1 : q = "pair"
  · rw [if_pos c1]
    rw [if_neg (by rw [c1]; decide)] at hp
    match vs, hp, hv with
    | [x, y], _, hv => exact .inl ⟨_, rfl, .pair (hv x (by simp)) (hv y (by simp))⟩
  rw [if_neg c1]
  by_cases c2 : q = "first" ∨ q = "second"
  · rw [if_pos c2]
    rw [if_pos c2] at hp
    match vs, hp, hv with
    | [x], _, hv =>
      have hx := hv x (by simp)
      cases hx with
      | pair hu hw =>
        refine .inl ⟨_, rfl, ?_⟩
        split
        · exact hu
        · exact hw
      | int i h => exact .inr ⟨_, rfl⟩
      | prim p h => exact .inr ⟨_, rfl⟩
      | fn _ _ _ _ _ _ _ => exact .inr ⟨_, rfl⟩
  rw [if_neg c2]
  rw [if_neg c2] at hp
  by_cases c3 : vs.all isI = true
  · rw [if_pos c3]
    match vs, hp, hv, c3 with
    | [x, y], _, hv, c3 =>
      have hx := hv x (by simp)
      have hy := hv y (by simp)
      cases hx with
      | int i h =>
        cases hy with
        | int j h2 =>
          dsimp only
          cases e : reckF q i j with
          | ok z => exact .inl ⟨_, rfl, .int z (reckF_le e)⟩
          | error ws =>
            rw [reck_err e]
            exact .inr ⟨_, rfl⟩
        | prim p h => simp [isI] at c3
        | pair _ _ => simp [isI] at c3
        | fn _ _ _ _ _ _ _ => simp [isI] at c3
      | prim p h => simp [isI] at c3
      | pair _ _ => simp [isI] at c3
      | fn _ _ _ _ _ _ _ => simp [isI] at c3
  · rw [if_neg c3]
    exact .inr ⟨_, rfl⟩
theorem chk_err {f : Vl} {n : Nat} {ws : List Str} (h : chkF f n = some ws) : ∃ w, ws = (["error", w] : List Str) := by
  unfold chkF at h
  split at h
  · split at h
    · cases h
    · cases h; exact ⟨_, rfl⟩
  · cases h; exact ⟨_, rfl⟩
/-- an outcome is told by its words -/
def wsOk (ws : List Str) : Prop := ws = (["steps"] : List Str) ∨ ∃ w : Str, ws = (["error", w] : List Str)
def EvTot (f : Nat) : Prop := ∀ (gl : Gl) (env : Ev) (t : Tr) (l s d : Nat) (last : Bool), gdT t → EOk env → (∀ x, fv x t → ∃ v, evGet x env = some v) → (∀ k v, glGet k gl = some v → GV v) → l < f →
  ∃ r l' s', evT f gl env t l s d last = some (r, l', s') ∧ l' ≤ l ∧ (∀ v, r = .val v → GV v) ∧ ∀ ws, r = .out ws → wsOk ws
theorem evL_tot {R : Tr → Nat → Nat → Option (Rs × Nat × Nat)} {l0 : Nat} : ∀ (ts : List Tr) (l s : Nat), (∀ t ∈ ts, ∀ l s, l ≤ l0 → ∃ r l' s', R t l s = some (r, l', s') ∧ l' ≤ l ∧ (∀ v, r = .val v → GV v) ∧ ∀ ws, r = .out ws → wsOk ws) → l ≤ l0 →
    ∃ r l' s', evL R ts l s = some (r, l', s') ∧ l' ≤ l ∧ (∀ vs, r = .inl vs → vs.length = ts.length ∧ ∀ v ∈ vs, GV v) ∧ ∀ ws, r = .inr ws → wsOk ws
  | [], l, s, _, _ => ⟨.inl [], l, s, rfl, Nat.le_refl _, fun vs e => (by cases e; exact ⟨rfl, fun v m => by cases m⟩), fun ws e => by cases e⟩
  | t :: ts, l, s, h, hl => by
    obtain ⟨r, l1, s1, e1, b1, g1, w1⟩ := h t List.mem_cons_self l s hl
    unfold evL
    rw [e1]
    cases r with
    | out ws => exact ⟨.inr ws, l1, s1, rfl, b1, fun vs e => (by cases e), fun ws' e => by cases e; exact w1 _ rfl⟩
    | val v =>
      obtain ⟨r2, l2, s2, e2, b2, g2, w2⟩ := evL_tot ts l1 s1 (fun u m => h u (List.mem_cons_of_mem _ m)) (by omega)
      dsimp only
      rw [e2]
      cases r2 with
      | inr ws => exact ⟨.inr ws, l2, s2, rfl, by omega, fun vs e => (by cases e), fun ws' e => by cases e; exact w2 _ rfl⟩
      | inl vs =>
        refine ⟨.inl (v :: vs), l2, s2, rfl, by omega, fun vs' e => ?_, fun ws' e => by cases e⟩
        cases e
        obtain ⟨g3, g4⟩ := g2 _ rfl
        refine ⟨by simp [g3], fun u m => ?_⟩
        rcases List.mem_cons.mp m with e | m
        · rw [e]; exact g1 _ rfl
        · exact g4 u m
theorem evT_tot : ∀ f, EvTot f
  | 0 => fun _ _ _ _ _ _ _ _ _ _ _ h => absurd h (by omega)
  | f + 1 => by
    have IH := evT_tot f
    intro gl env t l s d last gd eo cov gg hl
    unfold evT
    by_cases l0 : l = 0
    · rw [if_pos l0]
      exact ⟨_, _, _, rfl, by omega, fun v e => (by cases e), fun ws e => by cases e; exact .inl rfl⟩
    rw [if_neg l0]
    cases t with
    | int i =>
      have gd : i.natAbs ≤ 10 ^ 40 := gd
      have h60 : i.natAbs ≤ 10 ^ 60 := Nat.le_trans gd (by decide +kernel)
      dsimp only
      rw [if_pos h60]
      exact ⟨_, _, _, rfl, by omega, fun v e => (by cases e; exact .int i h60), fun ws e => by cases e⟩
    | loc x =>
      obtain ⟨v, hv⟩ := cov x rfl
      dsimp only
      rw [hv]
      exact ⟨_, _, _, rfl, by omega, fun v e => (by cases e; exact eo.get hv), fun ws e => by cases e⟩
    | glob a b =>
      dsimp only
      cases hg : glGet (a, b) gl with
      | none => exact ⟨_, _, _, rfl, by omega, fun v e => (by cases e), fun ws e => by cases e; exact .inr ⟨_, rfl⟩⟩
      | some v => exact ⟨_, _, _, rfl, by omega, fun v e => (by cases e; exact gg _ _ hg), fun ws e => by cases e⟩
    | prim q => exact ⟨_, _, _, rfl, by omega, fun v e => (by cases e; exact .prim q gd), fun ws e => by cases e⟩
    | fn ns b =>
      obtain ⟨g1, g2, g3⟩ : ns.length ≤ 5 ∧ (∀ n ∈ ns, nmOk n) ∧ gdT b := gd
      refine ⟨_, _, _, rfl, by omega, fun v e => ?_, fun ws e => by cases e⟩
      cases e
      refine .fn g1 g2 g3 eo.v eo.k eo.nd fun x hx => ?_
      by_cases c : x ∈ ns
      · exact .inl c
      · exact .inr (cov x ⟨hx, c⟩)
    | let_ ns ts b =>
      obtain ⟨g1, g2, g3, g4, g5⟩ : ns.length ≤ 5 ∧ ns.length = ts.length ∧ (∀ n ∈ ns, nmOk n) ∧ gdTs ts ∧ gdT b := gd
      dsimp only
      have le := eo.len
      rw [if_pos ⟨by omega, g2, by omega⟩]
      obtain ⟨r, l1, s1, e1, b1, h1, w1⟩ := evL_tot (R := fun t l s => evT f gl env t l s d false) (l0 := l - 1) ts (l - 1) s (fun t m l2 s2 hl2 => IH gl env t l2 s2 d false (gdTs_mem g4 t m) eo (fun x hx => cov x (.inl (fvs_mem.mpr ⟨t, m, hx⟩))) gg (by omega)) (Nat.le_refl _)
      rw [e1]
      cases r with
      | inr ws => exact ⟨_, _, _, rfl, by omega, fun v e => (by cases e), fun ws' e => by cases e; exact w1 _ rfl⟩
      | inl vs =>
        obtain ⟨h2, h3⟩ := h1 _ rfl
        obtain ⟨r, l2, s2, e2, b2, z⟩ := IH gl (evPuts ns vs env) b l1 s1 d last g5 (eo.puts g3 h3) (fun x hx => evGet_puts (by omega) (by
          by_cases c : x ∈ ns
          · exact .inl c
          · exact .inr (cov x (.inr ⟨hx, c⟩)))) gg (by omega)
        exact ⟨r, l2, s2, e2, by omega, z⟩
    | if_ a b c =>
      obtain ⟨g1, g2, g3⟩ : gdT a ∧ gdT b ∧ gdT c := gd
      dsimp only
      obtain ⟨r, l1, s1, e1, b1, h1, w1⟩ := IH gl env a (l - 1) s d false g1 eo (fun x hx => cov x (.inl hx)) gg (by omega)
      rw [e1]
      cases r with
      | out ws => exact ⟨_, _, _, rfl, by omega, fun v e => (by cases e), fun ws' e => by cases e; exact w1 _ rfl⟩
      | val v =>
        dsimp only
        by_cases z : zeroV v = true
        · rw [if_pos z]
          obtain ⟨r, l2, s2, e2, b2, y⟩ := IH gl env c l1 s1 d last g3 eo (fun x hx => cov x (.inr (.inr hx))) gg (by omega)
          exact ⟨r, l2, s2, e2, by omega, y⟩
        · rw [if_neg z]
          obtain ⟨r, l2, s2, e2, b2, y⟩ := IH gl env b l1 s1 d last g2 eo (fun x hx => cov x (.inr (.inl hx))) gg (by omega)
          exact ⟨r, l2, s2, e2, by omega, y⟩
    | call g ts =>
      obtain ⟨g1, g2, g3⟩ : ts.length ≤ 5 ∧ gdT g ∧ gdTs ts := gd
      dsimp only
      rw [if_pos (show ts.length ≤ 60 by omega)]
      obtain ⟨r, l1, s1, e1, b1, h1, w1⟩ := evL_tot (R := fun t l s => evT f gl env t l s d false) (l0 := l - 1) (g :: ts) (l - 1) s (fun t m l2 s2 hl2 => IH gl env t l2 s2 d false (by
        rcases List.mem_cons.mp m with e | m
        · rw [e]; exact g2
        · exact gdTs_mem g3 t m) eo (fun x hx => cov x (by
          rcases List.mem_cons.mp m with e | m
          · rw [e] at hx; exact .inl hx
          · exact .inr (fvs_mem.mpr ⟨t, m, hx⟩))) gg (by omega)) (Nat.le_refl _)
      rw [e1]
      cases r with
      | inr ws => exact ⟨_, _, _, rfl, by omega, fun v e => (by cases e), fun ws' e => by cases e; exact w1 _ rfl⟩
      | inl vs =>
        obtain ⟨h2, h3⟩ := h1 _ rfl
        cases vs with
        | nil => simp at h2
        | cons called vs =>
          dsimp only
          have hcal := h3 called List.mem_cons_self
          have hvs : ∀ v ∈ vs, GV v := fun v m => h3 v (List.mem_cons_of_mem _ m)
          cases hc : chkF called vs.length with
          | some ws => exact ⟨_, _, _, rfl, by omega, fun v e => (by cases e), fun ws' e => by cases e; exact .inr (chk_err hc)⟩
          | none =>
            dsimp only
            cases hcal with
            | int i h => simp [chkF, isF, isR] at hc
            | pair hu hv => simp [chkF, isF, isR] at hc
            | prim q h =>
              dsimp only
              rcases prim_tot hc hvs with ⟨y, e, gy⟩ | ⟨w, e⟩
              · rw [e]; exact ⟨_, _, _, rfl, by omega, fun v e => (by cases e; exact gy), fun ws e => by cases e⟩
              · rw [e]; exact ⟨_, _, _, rfl, by omega, fun v e => (by cases e), fun ws e => by cases e; exact .inr ⟨_, rfl⟩⟩
            | @fn ns b en f1 f2 f3 f4 f5 f6 f7 =>
              dsimp only
              have eo2 : EOk en := ⟨f4, f5, f6⟩
              have le := eo2.len
              rw [if_pos (show en.length + ns.length ≤ 1000000 by omega)]
              have hp := chk_par hc
              have hp : ((ns.length : Nat) : Int) = (vs.length : Int) := hp
              obtain ⟨r, l2, s2, e2, b2, z⟩ := IH gl (evPuts ns vs en) b l1 (max s1 (d + if last = true then 0 else 1)) (d + if last = true then 0 else 1) true f3 (eo2.puts f2 hvs) (fun x hx => evGet_puts (by omega) (f7 x hx)) gg (by omega)
              exact ⟨r, l2, s2, e2, by omega, z⟩
end My
namespace My
open PySem PySem.Spec PyProof.Rows L2 TL
/-! ### as many steps as are needed, and less -/
def stW : List Str := ["steps"]
structure Cut (R : Tr → Nat → Nat → Option (Rs × Nat × Nat)) : Prop where
  le : ∀ t l s r l' s', R t l s = some (r, l', s') → l' ≤ l ∧ s ≤ s'
  ex : ∀ t l s r l' s', R t l s = some (r, l', s') → r ≠ .out stW → ∀ j, R t (l - l' + j) s = some (r, j, s')
  lt : ∀ t l s r l' s', R t l s = some (r, l', s') → ∀ m, m < l - l' → ∃ s'', R t m s = some (.out stW, 0, s'') ∧ s'' ≤ s'
theorem evL_cut {R : Tr → Nat → Nat → Option (Rs × Nat × Nat)} (C : Cut R) : ∀ (ts : List Tr) (l s : Nat) (r : List Vl ⊕ List Str) (l' s' : Nat), evL R ts l s = some (r, l', s') →
    (r ≠ .inr stW → ∀ j, evL R ts (l - l' + j) s = some (r, j, s')) ∧ ∀ m, m < l - l' → ∃ s'', evL R ts m s = some (.inr stW, 0, s'') ∧ s'' ≤ s'
  | [], l, s, r, l', s', h => by
    cases h
    exact ⟨fun _ j => (by rw [Nat.sub_self, Nat.zero_add]; rfl), fun m hm => absurd hm (by omega)⟩
  | t :: ts, l, s, r, l', s', h => by
    unfold evL at h
    cases h1 : R t l s with
    | none => rw [h1] at h; cases h
    | some q =>
    obtain ⟨r1, l1, s1⟩ := q
    rw [h1] at h
    obtain ⟨b1, b2⟩ := C.le _ _ _ _ _ _ h1
    have e1 := C.ex _ _ _ _ _ _ h1
    have t1 := C.lt _ _ _ _ _ _ h1
    cases r1 with
    | out ws =>
      cases h
      refine ⟨fun ne j => ?_, fun m hm => ?_⟩
      · unfold evL
        rw [e1 (fun z => ne (by cases z; rfl)) j]
      · obtain ⟨s'', e, le⟩ := t1 m hm
        refine ⟨s'', ?_, le⟩
        unfold evL
        rw [e]
    | val v =>
      dsimp only at h
      have e1 := e1 (fun z => by cases z)
      cases h2 : evL R ts l1 s1 with
      | none => rw [h2] at h; cases h
      | some q =>
      obtain ⟨r2, l2, s2⟩ := q
      rw [h2] at h
      obtain ⟨c1, c2⟩ := evL_cut C ts l1 s1 r2 l2 s2 h2
      obtain ⟨d1, d2⟩ := evL_le C.le ts l1 s1 r2 l2 s2 h2
      have fin : ∀ (r3 : List Vl ⊕ List Str), (∀ l2 s2, evL R ts l1 s1 = some (r2, l2, s2) → True) → True := fun _ _ => trivial
      have less : ∀ m, m < l - l2 → ∃ s'', evL R (t :: ts) m s = some (.inr stW, 0, s'') ∧ s'' ≤ s2 := by
        intro m hm
        by_cases c : m < l - l1
        · obtain ⟨s'', e, le⟩ := t1 m c
          refine ⟨s'', ?_, by omega⟩
          unfold evL
          rw [e]
        · have e := e1 (m - (l - l1))
          rw [show l - l1 + (m - (l - l1)) = m by omega] at e
          obtain ⟨s'', e2, le⟩ := c2 (m - (l - l1)) (by omega)
          refine ⟨s'', ?_, le⟩
          unfold evL
          rw [e]
          dsimp only
          rw [e2]
      cases r2 with
      | inr ws =>
        cases h
        refine ⟨fun ne j => ?_, less⟩
        have e := e1 (l1 - l' + j)
        rw [show l - l1 + (l1 - l' + j) = l - l' + j by omega] at e
        unfold evL
        rw [e]
        dsimp only
        rw [c1 ne j]
      | inl vs =>
        cases h
        refine ⟨fun ne j => ?_, less⟩
        have e := e1 (l1 - l' + j)
        rw [show l - l1 + (l1 - l' + j) = l - l' + j by omega] at e
        unfold evL
        rw [e]
        dsimp only
        rw [c1 (fun z => by cases z) j]
theorem evT_cut : ∀ (f : Nat) (gl : Gl) (env : Ev) (d : Nat) (last : Bool) (t : Tr) (l s : Nat) (r : Rs) (l' s' : Nat), evT f gl env t l s d last = some (r, l', s') →
    (r ≠ .out stW → ∀ j, evT f gl env t (l - l' + j) s d last = some (r, j, s')) ∧ ∀ m, m < l - l' → ∃ s'', evT f gl env t m s d last = some (.out stW, 0, s'') ∧ s'' ≤ s'
  | 0, _, _, _, _, _, _, _, _, _, _, h => by unfold evT at h; cases h
  | f + 1, gl, env, d, last, t, l, s, r, l', s', h => by
    have IH : ∀ (gl : Gl) (env : Ev) (d : Nat) (last : Bool), Cut (fun t l s => evT f gl env t l s d last) := fun gl env d last =>
      ⟨fun t l s r l' s' h => evT_le _ _ _ _ _ _ _ _ _ _ _ h, fun t l s r l' s' h => (evT_cut f gl env d last t l s r l' s' h).1, fun t l s r l' s' h => (evT_cut f gl env d last t l s r l' s' h).2⟩
    have zero : evT (f + 1) gl env t 0 s d last = some (.out stW, 0, s) := by
      unfold evT
      rw [if_pos rfl]
      rfl
    have le0 := evT_le _ _ _ _ _ _ _ _ _ _ _ h
    by_cases l0 : l = 0
    · unfold evT at h
      rw [if_pos l0] at h
      cases h
      exact ⟨fun ne => absurd rfl ne, fun m hm => absurd hm (by omega)⟩
    have leaf : l' = l - 1 → (∀ m, 0 < m → evT (f + 1) gl env t m s d last = some (r, m - 1, s')) → (r ≠ .out stW → ∀ j, evT (f + 1) gl env t (l - l' + j) s d last = some (r, j, s')) ∧ ∀ m, m < l - l' → ∃ s'', evT (f + 1) gl env t m s d last = some (.out stW, 0, s'') ∧ s'' ≤ s' := by
      intro e g
      refine ⟨fun _ j => ?_, fun m hm => ?_⟩
      · rw [g _ (by omega), show l - l' + j - 1 = j by omega]
      · rw [show m = 0 by omega]
        exact ⟨s, zero, le0.2⟩
    unfold evT at h
    rw [if_neg l0] at h
    cases t with
    | int i =>
      dsimp only at h
      split at h
      · rename_i hi
        cases h
        refine leaf rfl fun m hm => ?_
        unfold evT
        rw [if_neg (by omega)]
        dsimp only
        rw [if_pos hi]
      · cases h
    | loc x =>
      dsimp only at h
      cases hv : evGet x env with
      | none => rw [hv] at h; cases h
      | some v =>
        rw [hv] at h
        cases h
        refine leaf rfl fun m hm => ?_
        unfold evT
        rw [if_neg (by omega)]
        dsimp only
        rw [hv]
    | glob a b =>
      dsimp only at h
      cases hv : glGet (a, b) gl with
      | none =>
        rw [hv] at h
        cases h
        refine leaf rfl fun m hm => ?_
        unfold evT
        rw [if_neg (by omega)]
        dsimp only
        rw [hv]
      | some v =>
        rw [hv] at h
        cases h
        refine leaf rfl fun m hm => ?_
        unfold evT
        rw [if_neg (by omega)]
        dsimp only
        rw [hv]
    | prim q =>
      cases h
      refine leaf rfl fun m hm => ?_
      unfold evT
      rw [if_neg (by omega)]
    | fn ns b =>
      cases h
      refine leaf rfl fun m hm => ?_
      unfold evT
      rw [if_neg (by omega)]
    | let_ ns ts b =>
      dsimp only at h
      by_cases lim : ts.length ≤ 60 ∧ ns.length = ts.length ∧ env.length + ns.length ≤ 1000000
      case neg => rw [if_neg lim] at h; cases h
      rw [if_pos lim] at h
      have step : ∀ m, 0 < m → evT (f + 1) gl env (.let_ ns ts b) m s d last = (match evL (fun t l s => evT f gl env t l s d false) ts (m - 1) s with
          | some (.inl vs, l', s') => evT f gl (evPuts ns vs env) b l' s' d last
          | some (.inr ws, z) => some (.out ws, z)
          | none => none) := by
        intro m hm
        conv => lhs; unfold evT
        rw [if_neg (by omega)]
        dsimp only
        rw [if_pos lim]
        all_goals (
          generalize evL (fun t l s => evT f gl env t l s d false) ts (m - 1) s = q
          match q with
          | none => rfl
          | some (.inl _, _, _) => rfl
          | some (.inr _, _) => rfl)
      cases h1 : evL (fun t l s => evT f gl env t l s d false) ts (l - 1) s with
      | none => rw [h1] at h; cases h
      | some q =>
      obtain ⟨r1, l1, s1⟩ := q
      rw [h1] at h
      obtain ⟨x1, y1⟩ := evL_cut (IH gl env d false) ts (l - 1) s r1 l1 s1 h1
      obtain ⟨b1, b2⟩ := evL_le (IH gl env d false).le ts (l - 1) s r1 l1 s1 h1
      cases r1 with
      | inr ws =>
        cases h
        refine ⟨fun ne j => ?_, fun m hm => ?_⟩
        · rw [step _ (by omega), show l - l' + j - 1 = l - 1 - l' + j by omega, x1 (fun z => ne (by cases z; rfl)) j]
        · by_cases m0 : m = 0
          · rw [m0]; exact ⟨s, zero, b2⟩
          · obtain ⟨s'', e, le⟩ := y1 (m - 1) (by omega)
            exact ⟨s'', by rw [step _ (by omega), e], le⟩
      | inl vs =>
        dsimp only at h
        have D := IH gl (evPuts ns vs env) d last
        have ex := D.ex _ _ _ _ _ _ h
        have lt := D.lt _ _ _ _ _ _ h
        obtain ⟨c1, c2⟩ := D.le _ _ _ _ _ _ h
        have x1 := x1 (fun z => by cases z)
        refine ⟨fun ne j => ?_, fun m hm => ?_⟩
        · rw [step _ (by omega), show l - l' + j - 1 = l - 1 - l1 + (l1 - l' + j) by omega, x1 _]
          exact ex ne j
        · by_cases m0 : m = 0
          · rw [m0]; exact ⟨s, zero, by omega⟩
          by_cases c : m - 1 < l - 1 - l1
          · obtain ⟨s'', e, le⟩ := y1 (m - 1) c
            exact ⟨s'', by rw [step _ (by omega), e], by omega⟩
          · obtain ⟨s'', e, le⟩ := lt (m - 1 - (l - 1 - l1)) (by omega)
            refine ⟨s'', ?_, le⟩
            rw [step _ (by omega), show m - 1 = l - 1 - l1 + (m - 1 - (l - 1 - l1)) by omega, x1 _]
            exact e
    | if_ a b c =>
      dsimp only at h
      have step : ∀ m, 0 < m → evT (f + 1) gl env (.if_ a b c) m s d last = (match evT f gl env a (m - 1) s d false with
          | some (.val v, l', s') => evT f gl env (if zeroV v = true then c else b) l' s' d last
          | some (.out ws, z) => some (.out ws, z)
          | none => none) := by
        intro m hm
        conv => lhs; unfold evT
        rw [if_neg (by omega)]
        try dsimp only
        all_goals (
          generalize evT f gl env a (m - 1) s d false = q
          match q with
          | none => rfl
          | some (.val _, _, _) => rfl
          | some (.out _, _) => rfl)
      cases h1 : evT f gl env a (l - 1) s d false with
      | none => rw [h1] at h; cases h
      | some q =>
      obtain ⟨r1, l1, s1⟩ := q
      rw [h1] at h
      have A := IH gl env d false
      have x1 := A.ex _ _ _ _ _ _ h1
      have y1 := A.lt _ _ _ _ _ _ h1
      obtain ⟨b1, b2⟩ := A.le _ _ _ _ _ _ h1
      cases r1 with
      | out ws =>
        cases h
        refine ⟨fun ne j => ?_, fun m hm => ?_⟩
        · have e := x1 ne j
          rw [step _ (by omega), show l - l' + j - 1 = l - 1 - l' + j by omega, e]
        · by_cases m0 : m = 0
          · rw [m0]; exact ⟨s, zero, b2⟩
          · obtain ⟨s'', e, le⟩ := y1 (m - 1) (by omega)
            exact ⟨s'', by rw [step _ (by omega), e], le⟩
      | val v =>
        dsimp only at h
        have D := IH gl env d last
        have ex := D.ex _ _ _ _ _ _ h
        have lt := D.lt _ _ _ _ _ _ h
        obtain ⟨c1, c2⟩ := D.le _ _ _ _ _ _ h
        have x1 := x1 (fun z => by cases z)
        refine ⟨fun ne j => ?_, fun m hm => ?_⟩
        · have e := x1 (l1 - l' + j)
          rw [step _ (by omega), show l - l' + j - 1 = l - 1 - l1 + (l1 - l' + j) by omega, e]
          exact ex ne j
        · by_cases m0 : m = 0
          · rw [m0]; exact ⟨s, zero, by omega⟩
          by_cases c : m - 1 < l - 1 - l1
          · obtain ⟨s'', e, le⟩ := y1 (m - 1) c
            exact ⟨s'', by rw [step _ (by omega), e], by omega⟩
          · obtain ⟨s'', e, le⟩ := lt (m - 1 - (l - 1 - l1)) (by omega)
            refine ⟨s'', ?_, le⟩
            have e2 := x1 (m - 1 - (l - 1 - l1))
            rw [step _ (by omega), show m - 1 = l - 1 - l1 + (m - 1 - (l - 1 - l1)) by omega, e2]
            exact e
    | call g ts =>
      dsimp only at h
      by_cases lim : ts.length ≤ 60
      case neg => rw [if_neg lim] at h; cases h
      rw [if_pos lim] at h
      cases h1 : evL (fun t l s => evT f gl env t l s d false) (g :: ts) (l - 1) s with
      | none => rw [h1] at h; cases h
      | some q =>
      obtain ⟨r1, l1, s1⟩ := q
      rw [h1] at h
      obtain ⟨x1, y1⟩ := evL_cut (IH gl env d false) (g :: ts) (l - 1) s r1 l1 s1 h1
      obtain ⟨b1, b2⟩ := evL_le (IH gl env d false).le (g :: ts) (l - 1) s r1 l1 s1 h1
      have stepE : ∀ m ws z, 0 < m → evL (fun t l s => evT f gl env t l s d false) (g :: ts) (m - 1) s = some (.inr ws, z) → evT (f + 1) gl env (.call g ts) m s d last = some (.out ws, z) := by
        intro m ws z hm e
        unfold evT
        rw [if_neg (by omega)]
        dsimp only
        rw [if_pos lim, e]
      cases r1 with
      | inr ws =>
        cases h
        refine ⟨fun ne j => ?_, fun m hm => ?_⟩
        · refine stepE _ _ _ (by omega) ?_
          rw [show l - l' + j - 1 = l - 1 - l' + j by omega]
          exact x1 (fun z => ne (by cases z; rfl)) j
        · by_cases m0 : m = 0
          · rw [m0]; exact ⟨s, zero, b2⟩
          · obtain ⟨s'', e, le⟩ := y1 (m - 1) (by omega)
            exact ⟨s'', stepE _ _ _ (by omega) e, le⟩
      | inl vs =>
        have x1 := x1 (fun z => by cases z)
        cases vs with
        | nil => cases h
        | cons called vs =>
        dsimp only at h
        have few : ∀ m, m < l - l1 → ∃ s'', evT (f + 1) gl env (.call g ts) m s d last = some (.out stW, 0, s'') ∧ s'' ≤ s1 := by
          intro m hm
          by_cases m0 : m = 0
          · rw [m0]; exact ⟨s, zero, b2⟩
          · obtain ⟨s'', e, le⟩ := y1 (m - 1) (by omega)
            exact ⟨s'', stepE _ _ _ (by omega) e, le⟩
        cases hc : chkF called vs.length with
        | some ws =>
          rw [hc] at h
          cases h
          refine ⟨fun ne j => ?_, few⟩
          unfold evT
          rw [if_neg (by omega)]
          dsimp only
          rw [if_pos lim, show l - l' + j - 1 = l - 1 - l' + j by omega, x1 j]
          dsimp only
          rw [hc]
        | none =>
          rw [hc] at h
          dsimp only at h
          cases called with
          | int i => cases h
          | pair u v => cases h
          | fnM c k => cases h
          | prim q =>
            dsimp only at h
            cases hp : primF q vs with
            | ok y =>
              rw [hp] at h
              cases h
              refine ⟨fun ne j => ?_, few⟩
              unfold evT
              rw [if_neg (by omega)]
              dsimp only
              rw [if_pos lim, show l - l' + j - 1 = l - 1 - l' + j by omega, x1 j]
              dsimp only
              rw [hc]
              dsimp only
              rw [hp]
            | error ws =>
              rw [hp] at h
              cases h
              refine ⟨fun ne j => ?_, few⟩
              unfold evT
              rw [if_neg (by omega)]
              dsimp only
              rw [if_pos lim, show l - l' + j - 1 = l - 1 - l' + j by omega, x1 j]
              dsimp only
              rw [hc]
              dsimp only
              rw [hp]
          | fnP ns b en =>
            dsimp only at h
            by_cases le : en.length + ns.length ≤ 1000000
            case neg => rw [if_neg le] at h; cases h
            rw [if_pos le] at h
            have D := IH gl (evPuts ns vs en) (d + if last = true then 0 else 1) true
            have ex := D.ex _ _ _ _ _ _ h
            have lt := D.lt _ _ _ _ _ _ h
            obtain ⟨c1, c2⟩ := D.le _ _ _ _ _ _ h
            have go : ∀ m j, m = l - l1 + j → evT (f + 1) gl env (.call g ts) m s d last = evT f gl (evPuts ns vs en) b j (max s1 (d + if last = true then 0 else 1)) (d + if last = true then 0 else 1) true := by
              intro m j e
              conv => lhs; unfold evT
              rw [if_neg (by omega)]
              dsimp only
              rw [if_pos lim, show m - 1 = l - 1 - l1 + j by omega, x1 j]
              dsimp only
              rw [hc]
              dsimp only
              rw [if_pos le]
            refine ⟨fun ne j => ?_, fun m hm => ?_⟩
            · rw [go _ (l1 - l' + j) (by omega)]
              exact ex ne j
            · by_cases c : m < l - l1
              · obtain ⟨s'', e, le2⟩ := few m c
                exact ⟨s'', e, by omega⟩
              · obtain ⟨s'', e, le2⟩ := lt (m - (l - l1)) (by omega)
                exact ⟨s'', by rw [go _ (m - (l - l1)) (by omega)]; exact e, le2⟩
theorem evP_cut {f : Nat} : ∀ (ds : List ((Str × Str) × Tr)) (t : Tr) (gl : Gl) (l s : Nat) (r : Rs) (l' s' : Nat), evP f ds t gl l s = some (r, l', s') → (l' ≤ l ∧ s ≤ s') ∧ (r ≠ .out stW → ∀ j, evP f ds t gl (l - l' + j) s = some (r, j, s')) ∧ ∀ m, m < l - l' → ∃ s'', evP f ds t gl m s = some (.out stW, 0, s'') ∧ s'' ≤ s'
  | [], t, gl, l, s, r, l', s', h => ⟨evT_le _ _ _ _ _ _ _ _ _ _ _ h, evT_cut f gl [] 1 true t l s r l' s' h⟩
  | (key, d) :: ds, t, gl, l, s, r, l', s', h => by
    unfold evP at h
    cases h1 : evT f gl [] d l s 1 true with
    | none => rw [h1] at h; cases h
    | some q =>
    obtain ⟨r1, l1, s1⟩ := q
    rw [h1] at h
    obtain ⟨x1, y1⟩ := evT_cut f gl [] 1 true d l s r1 l1 s1 h1
    obtain ⟨b1, b2⟩ := evT_le _ _ _ _ _ _ _ _ _ _ _ h1
    have few : ∀ m, m < l - l1 → ∃ s'', evP f ((key, d) :: ds) t gl m s = some (.out stW, 0, s'') ∧ s'' ≤ s1 := by
      intro m hm
      obtain ⟨s'', e, le⟩ := y1 m hm
      refine ⟨s'', ?_, le⟩
      unfold evP
      rw [e]
    cases r1 with
    | out ws =>
      cases h
      refine ⟨⟨b1, b2⟩, fun ne j => ?_, few⟩
      unfold evP
      rw [x1 ne j]
    | val v =>
      dsimp only at h
      obtain ⟨⟨c1, c2⟩, c3, c4⟩ := evP_cut ds t _ l1 s1 r l' s' h
      have x1 := x1 (fun z => by cases z)
      have go : ∀ j, evP f ((key, d) :: ds) t gl (l - l1 + j) s = evP f ds t (glPut key v gl) j s1 := by
        intro j
        conv => lhs; unfold evP
        rw [x1 j]
      refine ⟨⟨by omega, by omega⟩, fun ne j => ?_, fun m hm => ?_⟩
      · rw [show l - l' + j = l - l1 + (l1 - l' + j) by omega, go]
        exact c3 ne j
      · by_cases c : m < l - l1
        · obtain ⟨s'', e, le⟩ := few m c
          exact ⟨s'', e, by omega⟩
        · obtain ⟨s'', e, le⟩ := c4 (m - (l - l1)) (by omega)
          refine ⟨s'', ?_, le⟩
          rw [show m = l - l1 + (m - (l - l1)) by omega, go]
          exact e
end My
namespace My
open PySem PySem.Spec PyProof.Rows L2 TL
/-! ### the law's own values -/
mutual
inductive RL (X : Addr → Prop) (H : Hp) : V → Vl → Prop
  | int (i : Int) : RL X H (.int i) (.int i)
  | pair {a : Addr} {u w : V} {x y : Vl} (h : H a = some (.tup [.str "pair", u, w])) (r : RL X H u x) (s : RL X H w y) : RL X H (.ref a) (.pair x y)
  | prim {a : Addr} {p : Str} (h : H a = some (.tup [.str "prim", .str p])) : RL X H (.ref a) (.prim p)
  | fn {a q e : Addr} {c : V} {ns : List Int} {b : Tr} {kvs : List (Key × V)} {env : Ev} (h : H a = some (.tup [.str "fn", .ref q, c, .ref e])) (hq : H q = some (.tup (ns.map V.int))) (rt : RT H c b) (he : H e = some (.dK kvs)) (ne : ¬ X e) (re : RLe X H kvs env) : RL X H (.ref a) (.fnP ns b env)
inductive RLe (X : Addr → Prop) (H : Hp) : List (Key × V) → Ev → Prop
  | nil : RLe X H [] []
  | cons {n : Int} {v : V} {x : Vl} {kvs : List (Key × V)} {env : Ev} (r : RL X H v x) (rs : RLe X H kvs env) : RLe X H ((.inl n, v) :: kvs) ((n, x) :: env)
end
section
variable {X : Addr → Prop} {H H' : Hp}
mutual
theorem RL.kp (kt : KpT H H') (kd : ∀ a kvs, ¬ X a → H a = some (.dK kvs) → H' a = some (.dK kvs)) : ∀ {v : V} {x : Vl}, RL X H v x → RL X H' v x
  | _, _, .int i => .int i
  | _, _, .pair h r s => .pair (kt _ _ h) (RL.kp kt kd r) (RL.kp kt kd s)
  | _, _, .prim h => .prim (kt _ _ h)
  | _, _, .fn h hq rt he ne re => .fn (kt _ _ h) (kt _ _ hq) (rt.keep kt) (kd _ _ ne he) ne (RLe.kp kt kd re)
theorem RLe.kp (kt : KpT H H') (kd : ∀ a kvs, ¬ X a → H a = some (.dK kvs) → H' a = some (.dK kvs)) : ∀ {kvs : List (Key × V)} {env : Ev}, RLe X H kvs env → RLe X H' kvs env
  | _, _, .nil => .nil
  | _, _, .cons r rs => .cons (RL.kp kt kd r) (RLe.kp kt kd rs)
end
theorem RL.fr (f : Fr X H H') {v : V} {x : Vl} (r : RL X H v x) : RL X H' v x := r.kp f.tup fun _ _ n e => f.keep n rfl e
theorem RLe.fr (f : Fr X H H') {kvs : List (Key × V)} {env : Ev} (r : RLe X H kvs env) : RLe X H' kvs env := r.kp f.tup fun _ _ n e => f.keep n rfl e
/-- a list changes -/
theorem lst_kp {D : Addr} {ws : List V} {o : HO} (hD : H D = some (.lst ws)) : KpT H (upd H D o) ∧ ∀ a kvs, H a = some (.dK kvs) → upd H D o a = some (.dK kvs) :=
  ⟨fun a xs h => by rw [upd_ne (fun z => by rw [z, hD] at h; cases h)]; exact h, fun a xs h => by rw [upd_ne (fun z => by rw [z, hD] at h; cases h)]; exact h⟩
theorem RL.lst {D : Addr} {ws : List V} {o : HO} (hD : H D = some (.lst ws)) {v : V} {x : Vl} (r : RL X H v x) : RL X (upd H D o) v x := r.kp (lst_kp hD).1 fun a kvs _ e => (lst_kp hD).2 a kvs e
theorem RLe.lst {D : Addr} {ws : List V} {o : HO} (hD : H D = some (.lst ws)) {kvs : List (Key × V)} {env : Ev} (r : RLe X H kvs env) : RLe X (upd H D o) kvs env := r.kp (lst_kp hD).1 fun a kvs _ e => (lst_kp hD).2 a kvs e
theorem RLs.fr (f : Fr X H H') {vs : List V} {xs : List Vl} (h : Als (RL X H) vs xs) : Als (RL X H') vs xs := h.mono fun _ _ r => r.fr f
theorem RLe.len : ∀ {kvs : List (Key × V)} {env : Ev}, RLe X H kvs env → kvs.length = env.length
  | _, _, .nil => rfl
  | _, _, .cons _ r => congrArg (· + 1) (RLe.len r)
theorem RLe.app : ∀ {kvs lvs : List (Key × V)} {env env' : Ev}, RLe X H kvs env → RLe X H lvs env' → RLe X H (kvs ++ lvs) (env ++ env')
  | _, _, _, _, .nil, s => s
  | _, _, _, _, .cons r rs, s => .cons r (RLe.app rs s)
theorem RLe.get {n : Int} : ∀ {kvs : List (Key × V)} {env : Ev} {x : Vl}, RLe X H kvs env → evGet n env = some x → ∃ v, valV kvs (.inl n) = some v ∧ RL X H v x
  | _, _, _, .nil, e => by cases e
  | _, _, x, .cons (n := m) (v := v) (x := x') (kvs := kvs) (env := env) r rs, e => by
    unfold evGet at e
    by_cases c : m = n
    · rw [if_pos c] at e
      cases e
      exact ⟨v, valV_pos (by rw [c]), r⟩
    · rw [if_neg c] at e
      obtain ⟨u, h1, h2⟩ := RLe.get rs e
      exact ⟨u, by rw [valV_neg (fun z => c (Sum.inl.inj z))]; exact h1, h2⟩
theorem RLe.has {n : Int} : ∀ {kvs : List (Key × V)} {env : Ev}, RLe X H kvs env → (kvs.any fun kv => decide (kv.1 = .inl n)) = evHas n env
  | _, _, .nil => rfl
  | _, _, .cons (n := m) (v := v) (x := x') (kvs := kvs) (env := env) r rs => by
    unfold evHas
    rw [List.any_cons, List.any_cons, RLe.has rs]
    show (decide ((Sum.inl m : Key) = Sum.inl n) || evHas n env) = (decide (m = n) || evHas n env)
    rw [decide_eq_decide.mpr (show (Sum.inl m : Key) = Sum.inl n ↔ m = n from ⟨Sum.inl.inj, fun h => by rw [h]⟩)]
theorem RLe.map {n : Int} {w : V} {y : Vl} (rw' : RL X H w y) : ∀ {kvs : List (Key × V)} {env : Ev}, RLe X H kvs env → RLe X H (kvs.map fun kv => if kv.1 = .inl n then (kv.1, w) else kv) (env.map fun p => if p.1 = n then (p.1, y) else p)
  | _, _, .nil => .nil
  | _, _, .cons (n := m) (v := v) (x := x') (kvs := kvs) (env := env) r rs => by
    rw [List.map_cons, List.map_cons]
    by_cases c : m = n
    · have c2 : (Sum.inl m : Key) = .inl n := by rw [c]
      simp only [c2, c, if_true]
      exact .cons rw' (RLe.map rw' rs)
    · have c2 : ¬ (Sum.inl m : Key) = .inl n := fun z => c (Sum.inl.inj z)
      simp only [c2, c, if_false]
      exact .cons r (RLe.map rw' rs)
theorem RLe.put {n : Int} {w : V} {y : Vl} {kvs : List (Key × V)} {env : Ev} (r : RLe X H kvs env) (rw' : RL X H w y) : RLe X H (putK kvs (.inl n) w) (evPut n y env) := by
  unfold putK evPut
  rw [r.has]
  by_cases c : evHas n env = true
  · rw [if_pos c, if_pos c]; exact r.map rw'
  · rw [if_neg c, if_neg c]; exact r.app (.cons rw' .nil)
end
/-- what is told of a part -/
def ROu (X : Addr → Prop) (H : Hp) (v : V) : Rs → Prop
  | .val x => ∃ a u, v = .ref a ∧ H a = some (.tup [.str "value", u]) ∧ RL X H u x
  | .out ws => ∃ a, v = .ref a ∧ H a = some (.tup (ws.map V.str)) ∧ wsOk ws
theorem ROu.fr {X : Addr → Prop} {H H' : Hp} (f : Fr X H H') {v : V} {r : Rs} (h : ROu X H v r) : ROu X H' v r := by
  cases r with
  | val x => obtain ⟨a, u, e, h1, h2⟩ := h; exact ⟨a, u, e, f.tup _ _ h1, h2.fr f⟩
  | out ws => obtain ⟨a, e, h1, h2⟩ := h; exact ⟨a, e, f.tup _ _ h1, h2⟩
def primO (q : Str) (ys : List Vl) : Rs := match chkF (.prim q) ys.length with
  | some ws => .out ws
  | none => match primF q ys with
    | .ok y => .val y
    | .error ws => .out ws
abbrev sLpr : Stmt := top 51
abbrev NLpr : List Str := ["name", "values", "one", "two", "number"]
def spLpr : Sp := fun vs H Q _ => ∃ (X : Addr → Prop) (q : Str) (b : Addr) (us : List V) (ys : List Vl), vs = [.str q, .ref b] ∧ q ∈ prims8 ∧ H b = some (.lst us) ∧ Als (RL X H) us ys ∧ (∀ y ∈ ys, GV y) ∧ ∀ v H', Fr No H H' → ROu X H' v (primO q ys) → Q v H'
abbrev sLwi : Stmt := top 52
abbrev NLwi : List Str := ["around", "numbers", "values", "table", "k"]
def spLwi (tup : Bool) : Sp := fun vs H Q _ => ∃ (X : Addr → Prop) (e a b : Addr) (kvs : List (Key × V)) (env : Ev) (ns : List Int) (us : List V) (ys : List Vl), vs = [.ref e, .ref a, .ref b] ∧ H e = some (.dK kvs) ∧ RLe X H kvs env ∧ H a = some (if tup = true then .tup (ns.map V.int) else .lst (ns.map V.int)) ∧
  H b = some (.lst us) ∧ Als (RL X H) us ys ∧ ns.length = ys.length ∧ ns.length ≤ 100 ∧ env.length ≤ 100 ∧
  ∀ p H' lvs, Fr No H H' → H p = none → H' p = some (.dK lvs) → RLe X H' lvs (evPuts ns ys env) → Q (.ref p) H'
section
variable {P : Program} {w : World} {K : PySem.W.Frag} {mg : Str → Option Value} {base : Heap}
theorem scLwi : FnScope NLwi ["around", "numbers", "values"] (defScope sLwi) := ⟨rfl, rfl, rfl, by decide +kernel, rfl, by decide +kernel, by decide +kernel⟩
theorem Als.get2 {α : Type} {R : V → α → Prop} {vs : List V} {xs : List α} (h : Als R vs xs) {i : Nat} (hi : i < xs.length) : ∃ v x, vs[i]? = some v ∧ xs[i]? = some x ∧ R v x := by
  exact h.at (by rw [h.len]; exact hi)
theorem ok_lwT {f : Addr} {fd : FuncData} (F : Fun K "_law_with" "_law_with" sLwi f fd) (B : Blt mg) (B2 : Bl2 mg) : FnOk P w K mg base CX0 1 f fd ["around", "numbers", "values"] (spLwi true) := by
  refine F.ok scLwi (fun vs H Q E h => ?_) (fun cdv A outer s H vs Q E hr h => ?_)
  · obtain ⟨X, e, a, b, kvs, env, ns, us, ys, rfl, _⟩ := h
    rfl
  obtain ⟨X, e, a, b, kvs, env, ns, us, ys, rfl, he, re, ha, hb, ru, ln, l1, l2, q⟩ := h
  have nd := scLwi.nd
  have hu := hu_of hr
  refine ⟨_, (pss_cons (ps_set (i := 3) nd rfl (Or.inl rfl) (pe_callTy call_dictD (by rfl) B2.dict (by decide +kernel) (pa_cons (pv 0) pa_nil)))
    (pss_cons (ps_for PassesOwn.never rfl (pi_range1 (by rfl) B.range (pa_cons (pe_callB call_len_seq (by rfl) B.len PySem.boot_len (pa_cons (pv 1) pa_nil)) pa_nil)) (pg_name (i := 4) nd rfl (Or.inl rfl))
      (pss_one (ps_dput hu (pv 3) (pe_ix (r := rIxT K) ix_tup (pv 1) (pv 4) (fun _ _ => rfl)) (pe_ix (r := rIxL K) ix_list (pv 2) (pv 4) (fun _ _ => rfl)) rfl)))
    (pss_one (ps_ret (pv 3))))), ?_⟩
  refine ⟨_, rfl, e, kvs, rfl, .inl he, fun p hp => ?_⟩
  have f1 : Fr No H (upd H p (.dK kvs)) := Fr.new hp
  have lu := ru.len
  refine ⟨_, rfl, a, ns.map V.int, rfl, .inr (SqT.of (f1.tup _ _ ha)), ns.length, by rw [List.length_map], by omega, by omega, for_range (n := ns.length) (fun i σ H' => ∃ (v4 : Option V) (lvs : List (Key × V)), σ = [some (.ref e), some (.ref a), some (.ref b), some (.ref p), v4] ∧ H' p = some (.dK lvs) ∧ RLe X H lvs (evPuts (ns.take i) (ys.take i) env) ∧ Fr No H H')
    ⟨none, kvs, rfl, upd_same, by rw [List.take_zero, List.take_zero]; unfold evPuts; exact re, f1⟩ ?_ ?_⟩
  · rintro i σ H' hi ⟨v4, lvs, rfl, hp', rp, g⟩
    have hn : ns[i]? = some ns[i] := List.getElem?_eq_getElem hi
    obtain ⟨u, y, hu', hy, ry⟩ := ru.get2 (i := i) (by omega)
    have ll : lvs.length < sizeLine := by
      rw [rp.len]
      have h1 := evPuts_len (ns.take i) (ys.take i) env
      rw [List.length_take] at h1
      exact Nat.lt_of_le_of_lt (show _ ≤ 1000 by omega) (by decide)
    have ei : (0 : Int) + (i : Nat) = (i : Nat) := by omega
    refine ⟨_, rfl, _, rfl, b, us, _, u, rfl, rfl, SqL.of (g.keep (fun z => z) rfl hb), by rw [ei]; exact atI_nat hu', _, rfl, _, rfl, _, rfl, a, ns.map V.int, _, .int ns[i], rfl, rfl, SqT.of (g.tup _ _ ha), by rw [ei]; exact atI_nat (by rw [List.getElem?_map, hn]; rfl), p, _, rfl, DPut.k (k := .inl ns[i]) hp' ll, ?_⟩
    refine ⟨_, _, rfl, upd_same, ?_, g.mut hp hp' rfl⟩
    rw [take_more hn, take_more hy, evPuts_snoc _ _ _ _ _ (by rw [List.length_take, List.length_take]; omega)]
    exact rp.put ry
  · rintro σ H' ⟨v4, lvs, rfl, hp', rp, g⟩
    rw [List.take_length] at rp
    rw [ln, List.take_length] at rp
    exact ⟨_, rfl, q p H' lvs g hp hp' (rp.fr g.no)⟩
theorem ok_lwL {f : Addr} {fd : FuncData} (F : Fun K "_law_with" "_law_with" sLwi f fd) (B : Blt mg) (B2 : Bl2 mg) : FnOk P w K mg base CX0 1 f fd ["around", "numbers", "values"] (spLwi false) := by
  refine F.ok scLwi (fun vs H Q E h => ?_) (fun cdv A outer s H vs Q E hr h => ?_)
  · obtain ⟨X, e, a, b, kvs, env, ns, us, ys, rfl, _⟩ := h
    rfl
  obtain ⟨X, e, a, b, kvs, env, ns, us, ys, rfl, he, re, ha, hb, ru, ln, l1, l2, q⟩ := h
  have nd := scLwi.nd
  have hu := hu_of hr
  have ha : H a = some (.lst (ns.map V.int)) := ha
  refine ⟨_, (pss_cons (ps_set (i := 3) nd rfl (Or.inl rfl) (pe_callTy call_dictD (by rfl) B2.dict (by decide +kernel) (pa_cons (pv 0) pa_nil)))
    (pss_cons (ps_for PassesOwn.never rfl (pi_range1 (by rfl) B.range (pa_cons (pe_callB call_len_seq (by rfl) B.len PySem.boot_len (pa_cons (pv 1) pa_nil)) pa_nil)) (pg_name (i := 4) nd rfl (Or.inl rfl))
      (pss_one (ps_dput hu (pv 3) (pe_ix (r := rIxL K) ix_list (pv 1) (pv 4) (fun _ _ => rfl)) (pe_ix (r := rIxL K) ix_list (pv 2) (pv 4) (fun _ _ => rfl)) rfl)))
    (pss_one (ps_ret (pv 3))))), ?_⟩
  refine ⟨_, rfl, e, kvs, rfl, .inl he, fun p hp => ?_⟩
  have f1 : Fr No H (upd H p (.dK kvs)) := Fr.new hp
  have lu := ru.len
  refine ⟨_, rfl, a, ns.map V.int, rfl, .inl (SqL.of (f1.keep (fun z => z) rfl ha)), ns.length, by rw [List.length_map], by omega, by omega, for_range (n := ns.length) (fun i σ H' => ∃ (v4 : Option V) (lvs : List (Key × V)), σ = [some (.ref e), some (.ref a), some (.ref b), some (.ref p), v4] ∧ H' p = some (.dK lvs) ∧ RLe X H lvs (evPuts (ns.take i) (ys.take i) env) ∧ Fr No H H')
    ⟨none, kvs, rfl, upd_same, by rw [List.take_zero, List.take_zero]; unfold evPuts; exact re, f1⟩ ?_ ?_⟩
  · rintro i σ H' hi ⟨v4, lvs, rfl, hp', rp, g⟩
    have hn : ns[i]? = some ns[i] := List.getElem?_eq_getElem hi
    obtain ⟨u, y, hu', hy, ry⟩ := ru.get2 (i := i) (by omega)
    have ll : lvs.length < sizeLine := by
      rw [rp.len]
      have h1 := evPuts_len (ns.take i) (ys.take i) env
      rw [List.length_take] at h1
      exact Nat.lt_of_le_of_lt (show _ ≤ 1000 by omega) (by decide)
    have ei : (0 : Int) + (i : Nat) = (i : Nat) := by omega
    refine ⟨_, rfl, _, rfl, b, us, _, u, rfl, rfl, SqL.of (g.keep (fun z => z) rfl hb), by rw [ei]; exact atI_nat hu', _, rfl, _, rfl, _, rfl, a, ns.map V.int, _, .int ns[i], rfl, rfl, SqL.of (g.keep (fun z => z) rfl ha), by rw [ei]; exact atI_nat (by rw [List.getElem?_map, hn]; rfl), p, _, rfl, DPut.k (k := .inl ns[i]) hp' ll, ?_⟩
    refine ⟨_, _, rfl, upd_same, ?_, g.mut hp hp' rfl⟩
    rw [take_more hn, take_more hy, evPuts_snoc _ _ _ _ _ (by rw [List.length_take, List.length_take]; omega)]
    exact rp.put ry
  · rintro σ H' ⟨v4, lvs, rfl, hp', rp, g⟩
    rw [List.take_length] at rp
    rw [ln, List.take_length] at rp
    exact ⟨_, rfl, q p H' lvs g hp hp' (rp.fr g.no)⟩
end
end My
namespace My
open PySem PySem.Spec PyProof.Rows L2 TL
/-! ### _law_prim -/

def halves2 : List Str := ["first", "second"]
theorem tyL {K : PySem.W.Frag} {X : Addr → Prop} {H : Hp} {v : V} {x : Vl} (r : RL X H v x) (o : GV x) : ∃ t, TyX K H v (.type t) ∧ kitB t "int" = some (isI x) ∧ kitB t "tuple" = some (!isI x) := by
  cases r with
  | int i => exact ⟨"int", .base (.int i), (show kitB "int" "int" = some true by decide +kernel), (show kitB "int" "tuple" = some false by decide +kernel)⟩
  | pair h _ _ => exact ⟨"tuple", .base (.tup h), (show kitB "tuple" "int" = some false by decide +kernel), (show kitB "tuple" "tuple" = some true by decide +kernel)⟩
  | prim h => exact ⟨"tuple", .base (.tup h), (show kitB "tuple" "int" = some false by decide +kernel), (show kitB "tuple" "tuple" = some true by decide +kernel)⟩
  | fn h _ _ _ _ _ => exact ⟨"tuple", .base (.tup h), (show kitB "tuple" "int" = some false by decide +kernel), (show kitB "tuple" "tuple" = some true by decide +kernel)⟩
def tagV : Vl → Str
  | .pair _ _ => "pair"
  | .prim _ => "prim"
  | _ => "fn"
theorem RL.tag {X : Addr → Prop} {H : Hp} {v : V} {x : Vl} (r : RL X H v x) (hi : isI x = false) : ∃ a xs, v = .ref a ∧ H a = some (.tup (.str (tagV x) :: xs)) := by
  cases r with
  | int i => cases hi
  | pair h _ _ => exact ⟨_, _, rfl, h⟩
  | prim h => exact ⟨_, _, rfl, h⟩
  | fn h _ _ _ _ _ => exact ⟨_, _, rfl, h⟩
section
variable {P : Program} {w : World} {K : PySem.W.Frag} {mg : Str → Option Value} {base : Heap}
theorem scLpr : FnScope NLpr ["name", "values"] (defScope sLpr) := ⟨rfl, rfl, rfl, by decide +kernel, rfl, by decide +kernel, by decide +kernel⟩
theorem ok_lpr {f : Addr} {fd : FuncData} (F : Fun K "_law_prim" "_law_prim" sLpr f fd) (B : Blt mg) : FnOk P w K mg base CX0 1 f fd ["name", "values"] spLpr := by
  refine F.ok scLpr (fun vs H Q E h => ?_) (fun cdv A outer s H vs Q E hr h => ?_)
  · obtain ⟨X, q, b, us, ys, rfl, _⟩ := h
    rfl
  obtain ⟨X, nm, b, us, ys, rfl, hq, hb, al, gv, q⟩ := h
  have nd := scLpr.nd
  have hu := hu_of hr
  refine ⟨_, (pss_cons (ps_if (pt_cmpR op_ne (pe_callB call_len_seq (by rfl) B.len PySem.boot_len (pa_cons (pv 1) pa_nil)) (pe_op op_add (pe_callTy call_int1 (by rfl) B.int (by decide +kernel) (pa_cons (pe_cmpR op_notIn_seq (pv 0) (pe_lst (pa_cons pe_str (pa_cons pe_str pa_nil))) (by rfl)) pa_nil)) pe_int) (nomark _)) (pss_one (ps_ret (pe_tup (pa_cons pe_str (pa_cons pe_str pa_nil))))) pss_nil)
    (pss_cons (ps_if (pt_cmpR op_eq (pv 0) pe_str (nomark _)) (pss_one (ps_ret (pe_tup (pa_cons pe_str (pa_cons (pe_tup (pa_cons pe_str (pa_cons (pe_ix (r := rIxL K) ix_list (pv 1) pe_int (fun _ _ => rfl)) (pa_cons (pe_ix (r := rIxL K) ix_list (pv 1) pe_int (fun _ _ => rfl)) pa_nil)))) pa_nil))))) pss_nil)
    (pss_cons (ps_if (PW.pt (pw_or (pt_cmpR op_eq (pv 0) pe_str (nomark _)) (pw_or1 (pt_cmpR op_eq (pv 0) pe_str (nomark _))))) (pss_cons (ps_if (PW.pt (pw_or (pt_not (pt_val (pe_callB call_isi (by rfl) B.isinstance (by decide +kernel) (pa_cons (pe_ix (r := rIxL K) ix_list (pv 1) pe_int (fun _ _ => rfl)) (pa_cons (pe_bltn (v := .ty "tuple") (by rfl) B.tuple (by decide +kernel) rfl) pa_nil))))) (pw_or1 (pt_cmpR op_ne (pe_ix (r := rIxT K) ix_tup (pe_ix (r := rIxL K) ix_list (pv 1) pe_int (fun _ _ => rfl)) pe_int (fun _ _ => rfl)) pe_str (nomark _))))) (pss_one (ps_ret (pe_tup (pa_cons pe_str (pa_cons pe_str pa_nil))))) pss_nil)
      (pss_one (ps_ret (pe_tup (pa_cons pe_str (pa_cons (pe_ix (r := rIxT K) ix_tup (pe_ix (r := rIxL K) ix_list (pv 1) pe_int (fun _ _ => rfl)) (pe_op op_add pe_int (pe_callTy call_int1 (by rfl) B.int (by decide +kernel) (pa_cons (pe_cmpR op_eq (pv 0) pe_str (nomark _)) pa_nil))) (fun _ _ => rfl)) pa_nil)))))) pss_nil)
    (pss_cons (ps_if (PW.pt (pw_or (pt_not (pt_val (pe_callB call_isi (by rfl) B.isinstance (by decide +kernel) (pa_cons (pe_ix (r := rIxL K) ix_list (pv 1) pe_int (fun _ _ => rfl)) (pa_cons (pe_bltn (v := .ty "int") (by rfl) B.int (by decide +kernel) rfl) pa_nil))))) (pw_or1 (pt_not (pt_val (pe_callB call_isi (by rfl) B.isinstance (by decide +kernel) (pa_cons (pe_ix (r := rIxL K) ix_list (pv 1) pe_int (fun _ _ => rfl)) (pa_cons (pe_bltn (v := .ty "int") (by rfl) B.int (by decide +kernel) rfl) pa_nil)))))))) (pss_one (ps_ret (pe_tup (pa_cons pe_str (pa_cons pe_str pa_nil))))) pss_nil)
    (pss_cons (ps_asg (pv 1) (pg_lst rfl (pgs_cons (pg_name (i := 2) nd rfl (Or.inl rfl)) (pgs_cons (pg_name (i := 3) nd rfl (Or.inl rfl)) pgs_nil))))
    (pss_cons (ps_if (pt_cmpR op_eq (pv 0) pe_str (nomark _)) (pss_one (ps_ret (pe_tup (pa_cons pe_str (pa_cons (pe_callTy call_int1 (by rfl) B.int (by decide +kernel) (pa_cons (pe_cmpR op_lt (pv 2) (pv 3) (nomark _)) pa_nil)) pa_nil))))) pss_nil)
    (pss_cons (ps_if (pt_cmpR op_eq (pv 0) pe_str (nomark _)) (pss_one (ps_ret (pe_tup (pa_cons pe_str (pa_cons (pe_callTy call_int1 (by rfl) B.int (by decide +kernel) (pa_cons (pe_cmpR op_eq (pv 2) (pv 3) (nomark _)) pa_nil)) pa_nil))))) pss_nil)
    (pss_cons (ps_set (i := 4) nd rfl (Or.inl rfl) (pe_dget hu (pe_disp (pps_cons pe_str (pe_op op_add (pv 2) (pv 3)) (pps_cons pe_str (pe_op op_sub (pv 2) (pv 3)) (pps_cons pe_str (pe_op op_mulW (pv 2) (pv 3)) pps_nil))) (by rfl) (by rfl) (fun z => by cases z) (by decide)) (pv 0) (fun _ _ => rfl)))
    (pss_cons (ps_if (PW.pt (pw_or (pt_cmpR op_gt (pv 4) (pe_op op_pow pe_int pe_int) (nomark _)) (pw_or1 (pt_cmpR op_lt (pv 4) (pe_op op_sub pe_int (pe_op op_pow pe_int pe_int)) (nomark _))))) (pss_one (ps_ret (pe_tup (pa_cons pe_str (pa_cons pe_str pa_nil))))) pss_nil)
    (pss_one (ps_ret (pe_tup (pa_cons pe_str (pa_cons (pv 4) pa_nil)))))))))))))), ?_⟩
  have lu := al.len
  unfold primO at q
  have bad : ∀ {H' : Hp} {t : Addr} (x : Str), Fr No H H' → H' t = none → (∀ v H2, Fr No H H2 → ROu X H2 v (.out ["error", x]) → Q v H2) → Q (.ref t) (upd H' t (.tup [.str "error", .str x])) := fun {H' t} x f ht g => g _ _ (f.trans (Fr.new ht)) ⟨t, rfl, upd_same, .inr ⟨x, rfl⟩⟩
  have good : ∀ {H' : Hp} {t : Addr} {u : V} {x : Vl}, Fr No H H' → H' t = none → RL X H' u x → (∀ v H2, Fr No H H2 → ROu X H2 v (.val x) → Q v H2) → Q (.ref t) (upd H' t (.tup [.str "value", u])) := fun {H' t u x} f ht r g => g _ _ (f.trans (Fr.new ht)) ⟨t, u, rfl, upd_same, r.fr (Fr.new ht)⟩
  refine ⟨_, rfl, b, us, rfl, .inl (SqL.of hb), _, rfl, sl2, fun z hz => ⟨z, _, rfl, .inl (SqL.of upd_same), rfl, rfl, .inr ⟨_, rfl, _, _, rfl, rfl, rfl, _, rfl, ?_⟩⟩⟩
  have f : Fr No H (upd H z (.lst [.str "first", .str "second"])) := Fr.new hz
  have ein : inV (.str nm) [.str "first", .str "second"] = decide (nm ∈ halves2) := inV_strs nm halves2
  have hm : nm ∈ halves2 ↔ (nm = "first" ∨ nm = "second") := by simp [halves2]
  have har : (if (if true = true then !inV (.str nm) [.str "first", .str "second"] else inV (.str nm) [.str "first", .str "second"]) = true then (1 : Int) else 0) + 1 = arP nm := by
    rw [if_pos rfl, ein]
    unfold arP
    by_cases c : nm = "first" ∨ nm = "second"
    · rw [if_pos c, decide_eq_true (hm.mpr c)]; rfl
    · rw [if_neg c, decide_eq_false (fun y => c (hm.mp y))]; rfl
  generalize upd H z (.lst [.str "first", .str "second"]) = H2 at f ⊢
  refine ite2 (fun c => ?_) (fun c => ?_)
  · have ne : ¬ arP nm = ((ys.length : Nat) : Int) := fun e =>
      absurd (congrArg V.int ((show ((us.length : Nat) : Int) = arP nm by rw [lu, e]).trans har.symm)) (of_decide_eq_false ((Bool.not_eq_true' _).mp c))
    have hc : chkF (.prim nm) ys.length = some (["error", "count"] : List Str) := by
      unfold chkF
      rw [if_pos (show (isF (Vl.prim nm) || isR (Vl.prim nm)) = true from rfl), if_neg (show ¬ parN (.prim nm) = _ from ne)]
    rw [hc] at q
    exact ⟨sl2, fun t ht => bad "count" f ht q⟩
  have eq : arP nm = ((ys.length : Nat) : Int) := by
    by_cases e : arP nm = ((ys.length : Nat) : Int)
    · exact e
    · exact absurd ((Bool.not_eq_true' _).mpr (decide_eq_false fun y => e (by rw [← lu]; exact ((V.int.inj y).trans har).symm))) c
  have hc : chkF (.prim nm) ys.length = none := by
    unfold chkF
    rw [if_pos (show (isF (Vl.prim nm) || isR (Vl.prim nm)) = true from rfl), if_pos (show parN (.prim nm) = _ from eq)]
  rw [hc] at q
  dsimp only at q
  unfold primF at q
  unfold arP at eq
  have hbN := f.keep (fun z => z) rfl hb
  have alN := RLs.fr f.no al
  refine ⟨_, rfl, rfl, _, rfl, ?_⟩
  refine ite2 (fun c1 => ?_) (fun c1 => ?_)
  · have e := v_str c1
    rw [if_pos e] at q
    rw [if_neg (by rw [e]; decide)] at eq
    match ys, us, eq, alN with
    | [y1, y2], [u1, u2], _, .cons r1 (.cons r2 .nil) =>
    refine ⟨_, rfl, b, _, 0, _, rfl, rfl, SqL.of hbN, rfl, _, rfl, b, _, 1, _, rfl, rfl, SqL.of hbN, rfl, sl3, fun t3 h3 => ⟨sl2, fun t4 h4 => ?_⟩⟩
    have g3 : Fr No H2 (upd H2 t3 (.tup [.str "pair", u1, u2])) := Fr.new h3
    exact good (f.trans g3) h4 (.pair upd_same (r1.fr g3.no) (r2.fr g3.no)) q
  have n1 : ¬ nm = "pair" := fun z => c1 (decide_eq_true (congrArg V.str z))
  rw [if_neg n1] at q
  refine ⟨_, rfl, rfl, _, rfl, ?_⟩
  by_cases cF : nm = "first"
  · have eqh := eq
    rw [if_pos (.inl cF)] at eqh
    rw [if_pos (.inl cF)] at q
    rw [decide_eq_true (congrArg V.str cF)]
    refine iteT (iteT ?_)
    unfold halF at q
    match ys, us, eqh, alN, gv with
    | [y1], [u1], _, .cons r1 .nil, gv =>
    have g1 : GV y1 := gv y1 (by simp)
    obtain ⟨tn, ty1, ki, kt⟩ := tyL (K := K) r1 g1
    refine ⟨_, rfl, b, _, 0, _, rfl, rfl, SqL.of hbN, rfl, _, _, _, _, _, rfl, .ty "tuple", ty1, kit_ty kt, _, rfl, ?_⟩
    cases hi : isI y1 with
    | true =>
      refine iteT (iteT ⟨sl2, fun t ht => bad "kind" f ht fun v H3 f3 r3 => q v H3 f3 ?_⟩)
      cases y1 with
      | int i => exact r3
      | _ => cases hi
    | false =>
    refine iteF ?_
    obtain ⟨p, xs, rfl, hp⟩ := r1.tag hi
    refine ⟨_, rfl, b, _, 0, _, rfl, rfl, SqL.of hbN, rfl, p, _, 0, _, rfl, rfl, SqT.of hp, at0 _ _, rfl, _, rfl, ?_⟩
    cases y1 with
    | int i => cases hi
    | fnM _ _ => cases g1
    | prim z => exact iteT ⟨sl2, fun t ht => bad "kind" f ht q⟩
    | fnP _ _ _ => exact iteT ⟨sl2, fun t ht => bad "kind" f ht q⟩
    | pair x y =>
      refine iteF ?_
      dsimp only at q
      rw [if_pos cF] at q
      cases r1 with
      | @pair _ ux uy _ _ hp2 rx ry =>
      refine ⟨_, rfl, b, _, 0, _, rfl, rfl, SqL.of hbN, rfl, _, rfl, rfl, .inr ⟨_, rfl, _, _, rfl, rfl, p, _, _, ux, rfl, rfl, SqT.of hp2, ?_, sl2, fun t ht => good f ht rx q⟩⟩
      rw [decide_eq_false (fun z : V.str nm = V.str "second" => by have := V.str.inj z; rw [cF] at this; exact absurd this (by decide))]
      rfl
  rw [decide_eq_false (fun z => cF (V.str.inj z))]
  refine iteF ⟨_, rfl, rfl, _, rfl, ?_⟩
  by_cases cS : nm = "second"
  · have eqh := eq
    rw [if_pos (.inr cS)] at eqh
    rw [if_pos (.inr cS)] at q
    rw [decide_eq_true (congrArg V.str cS)]
    refine iteT ?_
    unfold halF at q
    match ys, us, eqh, alN, gv with
    | [y1], [u1], _, .cons r1 .nil, gv =>
    have g1 : GV y1 := gv y1 (by simp)
    obtain ⟨tn, ty1, ki, kt⟩ := tyL (K := K) r1 g1
    refine ⟨_, rfl, b, _, 0, _, rfl, rfl, SqL.of hbN, rfl, _, _, _, _, _, rfl, .ty "tuple", ty1, kit_ty kt, _, rfl, ?_⟩
    cases hi : isI y1 with
    | true =>
      refine iteT (iteT ⟨sl2, fun t ht => bad "kind" f ht fun v H3 f3 r3 => q v H3 f3 ?_⟩)
      cases y1 with
      | int i => exact r3
      | _ => cases hi
    | false =>
    refine iteF ?_
    obtain ⟨p, xs, rfl, hp⟩ := r1.tag hi
    refine ⟨_, rfl, b, _, 0, _, rfl, rfl, SqL.of hbN, rfl, p, _, 0, _, rfl, rfl, SqT.of hp, at0 _ _, rfl, _, rfl, ?_⟩
    cases y1 with
    | int i => cases hi
    | fnM _ _ => cases g1
    | prim z => exact iteT ⟨sl2, fun t ht => bad "kind" f ht q⟩
    | fnP _ _ _ => exact iteT ⟨sl2, fun t ht => bad "kind" f ht q⟩
    | pair x y =>
      refine iteF ?_
      dsimp only at q
      rw [if_neg cF] at q
      cases r1 with
      | @pair _ ux uy _ _ hp2 rx ry =>
      refine ⟨_, rfl, b, _, 0, _, rfl, rfl, SqL.of hbN, rfl, _, rfl, rfl, .inr ⟨_, rfl, _, _, rfl, rfl, p, _, _, uy, rfl, rfl, SqT.of hp2, ?_, sl2, fun t ht => good f ht ry q⟩⟩
      rw [decide_eq_true (congrArg V.str cS)]
      rfl
  rw [decide_eq_false (fun z => cS (V.str.inj z))]
  refine iteF ?_
  have nFS : ¬ (nm = "first" ∨ nm = "second") := fun z => z.elim cF cS
  rw [if_neg nFS] at q eq
  match ys, us, eq, alN, gv with
  | [y1, y2], [u1, u2], _, .cons r1 (.cons r2 .nil), gv =>
  have o1 : GV y1 := gv y1 (by simp)
  have o2 : GV y2 := gv y2 (by simp)
  obtain ⟨tn1, ty1, k1, _⟩ := tyL (K := K) r1 o1
  obtain ⟨tn2, ty2, k2, _⟩ := tyL (K := K) r2 o2
  refine ⟨_, rfl, b, _, 0, _, rfl, rfl, SqL.of hbN, rfl, _, _, _, _, _, rfl, .ty "int", ty1, kit_ty k1, _, rfl, ?_⟩
  cases c1' : isI y1 with
  | false =>
    have ha : ([y1, y2].all isI) = false := by simp [c1']
    rw [ha, if_neg Bool.false_ne_true] at q
    exact iteT (iteT ⟨sl2, fun t ht => bad "kind" f ht q⟩)
  | true =>
  refine iteF ?_
  refine ⟨_, rfl, b, _, 1, _, rfl, rfl, SqL.of hbN, rfl, _, _, _, _, _, rfl, .ty "int", ty2, kit_ty k2, _, rfl, ?_⟩
  cases c2' : isI y2 with
  | false =>
    have ha : ([y1, y2].all isI) = false := by simp [c1', c2']
    rw [ha, if_neg Bool.false_ne_true] at q
    exact iteT ⟨sl2, fun t ht => bad "kind" f ht q⟩
  | true =>
  refine iteF ?_
  have ha : ([y1, y2].all isI) = true := by simp [c1', c2']
  rw [ha, if_pos rfl] at q
  cases o1 with
  | prim _ _ => cases c1'
  | pair _ _ => cases c1'
  | fn _ _ _ _ _ _ _ => cases c1'
  | int l hl =>
  cases o2 with
  | prim _ _ => cases c2'
  | pair _ _ => cases c2'
  | fn _ _ _ _ _ _ _ => cases c2'
  | int r hr2 =>
  cases r1
  cases r2
  dsimp only at q
  unfold reckF at q
  refine ⟨_, rfl, b, _, rfl, SqL.of hbN, rfl, _, _, rfl, _, _, rfl, rfl, ?_⟩
  refine ⟨_, rfl, rfl, _, rfl, ?_⟩
  refine ite2 (fun c => ?_) (fun c => ?_)
  · rw [if_pos (v_str c)] at q
    have e : (if decide (l < r) = true then (1 : Int) else 0) = if l < r then 1 else 0 := by simp
    refine ⟨_, rfl, _, rfl, _, _, rfl, rfl, .inr ⟨_, rfl, sl2, fun t ht => ?_⟩⟩
    rw [e]
    exact good f ht (.int _) q
  have n2 : ¬ nm = "<" := fun z => c (decide_eq_true (congrArg V.str z))
  rw [if_neg n2] at q
  refine ⟨_, rfl, rfl, _, rfl, ?_⟩
  refine ite2 (fun c => ?_) (fun c => ?_)
  · rw [if_pos (v_str c)] at q
    have e : (if decide (V.int l = V.int r) = true then (1 : Int) else 0) = if l = r then 1 else 0 := by
      by_cases h : l = r
      · rw [if_pos h, if_pos (decide_eq_true (congrArg V.int h))]
      · rw [if_neg h, if_neg (fun z => h (v_int z))]
    refine ⟨_, rfl, _, rfl, rfl, .inr ⟨_, rfl, sl2, fun t ht => ?_⟩⟩
    rw [e]
    exact good f ht (.int _) q
  have n3 : ¬ nm = "=" := fun z => c (decide_eq_true (congrArg V.str z))
  rw [if_neg n3] at q
  have b200 : ∀ {n : Nat}, n ≤ 10 ^ 60 → n < 2 ^ 200 := fun {n} h => Nat.lt_of_le_of_lt h (by decide +kernel)
  refine fun d hd => ?_
  have fd : Fr No H2 (upd H2 d (.dK [])) := Fr.new hd
  refine ⟨_, rfl, _, rfl, _, _, rfl, rfl, _, rfl, _, rfl, _, _, rfl, rfl, _, rfl, _, rfl, _, _, rfl, rfl, wide_mul (b200 hl) (b200 hr2) (by decide) (by decide) (by decide), upd_same, [(.inr "+", .int (l + r)), (.inr "-", .int (l - r)), (.inr "*", .int (l * r))], rfl, by show 3 ≤ 15; omega, ?_⟩
  have hmk : mergeK [] [((Sum.inr "+" : Key), V.int (l + r)), (.inr "-", .int (l - r)), (.inr "*", .int (l * r))] = [((Sum.inr "+" : Key), V.int (l + r)), (.inr "-", .int (l - r)), (.inr "*", .int (l * r))] := by kernel_rfl
  rw [hmk]
  have three : nm = "+" ∨ nm = "-" ∨ nm = "*" := by
    simp only [prims8, List.mem_cons, List.not_mem_nil, or_false] at hq
    rcases hq with e | e | e | e | e | e | e | e
    · exact .inl e
    · exact .inr (.inl e)
    · exact .inr (.inr e)
    · exact absurd e n2
    · exact absurd e n3
    · exact absurd e n1
    · exact absurd e cF
    · exact absurd e cS
  have hget : valV [((Sum.inr "+" : Key), V.int (l + r)), (.inr "-", .int (l - r)), (.inr "*", .int (l * r))] (.inr nm) = some (.int (opF nm l r)) := by
    have ne : ∀ {a b : Str}, a ≠ b → ¬ ((Sum.inr a : Key) = .inr b) := fun h z => h (Sum.inr.inj z)
    unfold opF
    rcases three with e | e | e
    · rw [if_pos e, e]; exact valV_pos rfl
    · rw [if_neg (by rw [e]; decide), if_pos e, e, valV_neg (ne (by decide))]; exact valV_pos rfl
    · rw [if_neg (by rw [e]; decide), if_neg (by rw [e]; decide), e, valV_neg (ne (by decide)), valV_neg (ne (by decide))]; exact valV_pos rfl
  have f2d : Fr No H2 (upd (upd H2 d (.dK [])) d (.dK [((Sum.inr "+" : Key), V.int (l + r)), (.inr "-", .int (l - r)), (.inr "*", .int (l * r))])) := fd.mut hd upd_same rfl
  have dg : DGet (upd (upd H2 d (.dK [])) d (.dK [((Sum.inr "+" : Key), V.int (l + r)), (.inr "-", .int (l - r)), (.inr "*", .int (l * r))])) d (V.str nm) (some (.int (opF nm l r))) := by
    have := DGet.k (k := Sum.inr nm) (show upd (upd H2 d (.dK [])) d (.dK [((Sum.inr "+" : Key), V.int (l + r)), (.inr "-", .int (l - r)), (.inr "*", .int (l * r))]) d = some _ from upd_same)
    rw [hget] at this
    exact this
  refine ⟨_, rfl, d, _, rfl, dg, ?_⟩
  generalize upd (upd H2 d (.dK [])) d (.dK [((Sum.inr "+" : Key), V.int (l + r)), (.inr "-", .int (l - r)), (.inr "*", .int (l * r))]) = H5 at f2d ⊢
  have ff := f.trans f2d
  have e60 : (10 : Int) ^ (60 : Int).toNat = big60 := by decide +kernel
  refine ⟨_, rfl, _, _, rfl, rfl, ⟨by decide, by decide, by decide⟩, _, _, rfl, rfl, _, rfl, ?_⟩
  have b0 : (0 : Int) < big60 := by decide +kernel
  generalize opF nm l r = o at q ⊢
  generalize hB : big60 = B6 at q b0 e60 ⊢
  by_cases cb : o > B6
  · rw [if_pos (show (if o < 0 then -o else o) > B6 by rw [if_neg (by omega)]; exact cb)] at q
    refine ite2 (fun _ => iteT ⟨sl2, fun t ht => bad "size" ff ht q⟩) (fun c => absurd (decide_eq_true (by rw [e60]; exact cb)) c)
  refine ite2 (fun c => absurd (of_decide_eq_true c) (by rw [e60]; exact cb)) (fun _ => ?_)
  refine ⟨_, rfl, _, _, rfl, rfl, ⟨by decide, by decide, by decide⟩, _, _, rfl, rfl, _, _, rfl, rfl, _, rfl, ?_⟩
  by_cases cs : o < 0 - B6
  · rw [if_pos (show (if o < 0 then -o else o) > B6 by rw [if_pos (by omega)]; omega)] at q
    refine ite2 (fun _ => ⟨sl2, fun t ht => bad "size" ff ht q⟩) (fun c => absurd (decide_eq_true (by rw [e60]; exact cs)) c)
  · rw [if_neg (show ¬ (if o < 0 then -o else o) > B6 by split <;> omega)] at q
    refine ite2 (fun c => absurd (of_decide_eq_true c) (by rw [e60]; exact cs)) (fun _ => ?_)
    exact ⟨_, rfl, sl2, fun t ht => good ff ht (.int _) q⟩
end
end My
namespace My
open PySem PySem.Spec PyProof.Rows L2 TL
/-! ### a tuple is no integer -/
def rEqT0 : R2 := fun x y H Q => rEq x y H Q ∨ ∃ (a : Addr) (xs : List V) (i : Int), x = .ref a ∧ y = .int i ∧ H a = some (.tup xs) ∧ Q (.bl false) H
theorem op_eqT0 {X : Cx} (hu : X.A.units < cLine) : OpR X (compareOp .Eq) rEqT0 := by
  intro pins s σ H x y v u Q I rx ry h
  rcases h with h | ⟨a, xs, i, rfl, rfl, ha, q⟩
  · exact op_eq pins s σ H x y v u Q I rx ry h
  · cases (show v = Value.ref a from rx)
    obtain ⟨t, e⟩ := (show ∃ t, u = Value.int i t from ry)
    cases e
    obtain ⟨its, rv, pl, _⟩ := I.tuple (SqT.of (K := X.K) ha)
    exact SeqAt.RcAt.tuple_int i t pl hu X.prog X.w X.xe _ ⟨.bl false, H, I, rfl, q⟩
theorem eqT0_zero {X : Addr → Prop} {H : Hp} {v : V} {x : Vl} {Q : VK} (r : RL X H v x) (q : Q (.bl (zeroV x)) H) : rEqT0 v (.int 0) H Q := by
  cases r with
  | int i =>
    refine .inl ⟨rfl, ?_⟩
    rw [show decide (V.int i = V.int 0) = zeroV (.int i) from decide_eq_decide.mpr ⟨fun z => V.int.inj z, fun z => by rw [z]⟩]
    exact q
  | pair h _ _ => exact .inr ⟨_, _, 0, rfl, rfl, h, q⟩
  | prim h => exact .inr ⟨_, _, 0, rfl, rfl, h, q⟩
  | fn h _ _ _ _ _ => exact .inr ⟨_, _, 0, rfl, rfl, h, q⟩
end My
namespace My
open PySem PySem.Spec PyProof.Rows L2 TL
/-! ### defs that go deep: one frame a level -/
structure RoomF (k : Nat) (A : Around) : Prop where
  hd : A.handled = none
  dp : A.depth + k + 20 < recursionLimit
  un : A.units + 6 * k + 400 < cLine
theorem RoomF.mono {j k : Nat} {A : Around} (r : RoomF k A) (h : j ≤ k) : RoomF j A := ⟨r.hd, by have := r.dp; omega, by have := r.un; omega⟩
theorem RoomF.deeper {k : Nat} {A : Around} (r : RoomF (k + 1) A) (env : Env) : RoomF k (A.deeper env) :=
  ⟨r.hd, by have := r.dp; show A.depth + 1 + k + 20 < _; omega, by have := r.un; show A.units + 3 + 6 * k + 400 < _; omega⟩
theorem RoomF.depth {k : Nat} {A : Around} (r : RoomF k A) : A.depth < recursionLimit := by have := r.dp; omega
theorem RoomF.small {j k : Nat} {A : Around} (r : RoomF k A) (h : j ≤ 5) : Room j A := ⟨r.hd, by have := r.dp; omega, by have := r.un; omega⟩
theorem RoomF.of {j k : Nat} {A : Around} (r : Room k A) (h : j + 15 ≤ 3 * k) (h2 : 6 * j + 200 ≤ 16 * k) : RoomF j A := ⟨r.hd, by have := r.dp; omega, by have := r.un; omega⟩
theorem unF {k : Nat} {A : Around} (r : RoomF k A) : A.units < cLine := by have := r.un; omega
structure FnF (P : Program) (w : World) (K : PySem.W.Frag) (mg : Str → Option Value) (base : Heap) (CX : CXT) (k : Nat) (f : Addr) (fd : FuncData) (ps : List Str) (sp : Sp) : Prop where
  len : ∀ vs H Q E, sp vs H Q E → vs.length = ps.length
  run : ∀ (A : Around) (outer : List Env) (s : Shared) (H : Hp) (args : Args) (us : List Value) (vs : List V) (Q : VK) (E : XK), RoomF k A → Env0 P w K mg base A outer s H → BindsTo s fd args (ps.zip us) → Vals vs us → sp vs H Q E →
    codeAny (model P w) A (.call (.ref f) args) (CR CX outer P w H s Q E) s
theorem FnF.mono {P : Program} {w : World} {K : PySem.W.Frag} {mg : Str → Option Value} {base : Heap} {CX : CXT} {j k : Nat} {f : Addr} {fd : FuncData} {ps : List Str} {sp : Sp} (F : FnF P w K mg base CX j f fd ps sp) (h : j ≤ k) :
    FnF P w K mg base CX k f fd ps sp := ⟨F.len, fun A outer s H args us vs Q E hr => F.run A outer s H args us vs Q E (hr.mono h)⟩
theorem fn_ofF {CX : CXT} {P : Program} {w : World} {K : PySem.W.Frag} {mg : Str → Option Value} {base : Heap} {k : Nat} {f : Addr} {name qual : Str} {params : Arguments} {body : List Stmt} {scope : Scope} {dV kV doc pm cdv ct oc : Value} {an od : Option Addr}
    {osl : Array (Option Value)} {N ps : List Str} {sp : Sp} (lk : K.lookup f = some ⟨oc, od, .func (PySem.W.fnOf name qual params body scope dV kV doc pm an cdv ct), osl⟩) (hcd : PySem.W.codeIn K cdv qual = true) (S : FnScope N ps scope)
    (len : ∀ vs H Q E, sp vs H Q E → vs.length = ps.length)
    (hbody : ∀ (A : Around) (outer : List Env) (s : Shared) (H : Hp) (vs : List V) (Q : VK) (E : XK), RoomF k (A.deeper (envOfC qual scope s.heap.objs.size f cdv)) → sp vs H Q E →
      ∃ t, PSs (cxOf CX P w K mg base N qual scope f cdv A outer s H E) body t ∧ t { nx := fun _ H' => Q .non H', rt := Q } (start N vs) H) :
    FnF P w K mg base CX (k + 1) f (PySem.W.fnOf name qual params body scope dV kV doc pm an cdv ct) ps sp := by
  refine ⟨len, fun A outer s H args us vs Q E hr e0 hb r hsp => ?_⟩
  have hl := len _ _ _ _ hsp
  have KX : K.In s.heap := e0.mod.kin.keeps fun b o e => (e0.bs b o e).1
  have lim : s.heap.NoLimit := e0.mod.nolimit.keeps fun b o e => (e0.bs b o e).1
  have hkind : ∀ y ∈ ps.zip us, scope.names.lookup y.1 = some .local ∨ (scope.names.lookup y.1 = some .cell ∧ ((cellsFrom (s.heap.objs.size + 1) scope.names []).lookup y.1).isSome = true) := fun ⟨n, v⟩ hy => by
    rcases S.par n (List.of_mem_zip hy).1 with q | q
    · exact .inl q
    · exact .inr ⟨q, PySem.W.cellsFrom_some _ _ _ (.inl q)⟩
  refine codeAny_call_function hr.depth (KX _ _ lk) rfl S.co S.gen rfl (PySem.W.codeRec_of KX hcd) (hb _ _ _ _ ?_)
  refine wpAny_newFunctionEnv_cells S.kind hkind fun env he s1 x => ?_
  subst he
  refine ⟨lim.keeps x.toInCall.keep, codeAny_func ?_⟩
  obtain ⟨t, ht, hq⟩ := hbody A outer s H vs Q E (hr.deeper _) hsp
  have I : Inv (cxOf CX P w K mg base N qual scope f cdv A outer s H E) [] (start N vs) H s1 := inv_start S hr.hd e0 hl r x
  refine wpAny_mono (ht.run [] s1 (start N vs) H _ I hq) (fun fl s' hs => ?_) fun e s' hs => hs
  have fin : ∀ {σ' : L2.St} {H' : Hp} {v : V} {u : Value}, Inv (cxOf CX P w K mg base N qual scope f cdv A outer s H E) [] σ' H' s' → RelV v u → Q v H' → CE outer P w H s Q u s' :=
    fun {σ' H' v u} J rv q => ⟨v, H', J.os, J.bare, J.base, J.hok, rv, q⟩
  cases fl with
  | ret u =>
    obtain ⟨v, σ', H', J, rv, q⟩ := hs
    exact fin J rv q
  | next =>
    obtain ⟨σ', H', J, q⟩ := hs
    exact fin (v := V.non) (u := Value.none) J rfl q
  | brk =>
    obtain ⟨_, _, _, q⟩ := hs
    exact False.elim q
  | cont =>
    obtain ⟨_, _, _, q⟩ := hs
    exact False.elim q
theorem okFF {CX : CXT} {P : Program} {w : World} {K : PySem.W.Frag} {mg : Str → Option Value} {base : Heap} {x qual : Str} {st : Stmt} {f : Addr} {fd : FuncData} {N ps : List Str} {k : Nat} {sp : Sp} (F : Fun K x qual st f fd) (S : FnScope N ps (defScope st))
    (len : ∀ vs H Q E, sp vs H Q E → vs.length = ps.length)
    (body : ∀ (cdv : Value) (A : Around) (outer : List Env) (s : Shared) (H : Hp) (vs : List V) (Q : VK) (E : XK), RoomF k (A.deeper (envOfC qual (defScope st) s.heap.objs.size f cdv)) → sp vs H Q E →
      ∃ t, PSs (cxOf CX P w K mg base N qual (defScope st) f cdv A outer s H E) (defBody st) t ∧ t { nx := fun _ H' => Q .non H', rt := Q } (start N vs) H) : FnF P w K mg base CX (k + 1) f fd ps sp := by
  obtain ⟨oc, od, kV, doc, pm, an, cdv, ct, osl, efd, lk, hcd⟩ := F.ex
  subst efd
  exact fn_ofF lk hcd S len fun A out s0 H0 vs Q E room told => body cdv A out s0 H0 vs Q E room told
structure CalF (P : Program) (w : World) (K : PySem.W.Frag) (mg : Str → Option Value) (base : Heap) (CX : CXT) (k : Nat) (x : Str) (ps : List Str) (sp : Sp) (f : Addr) (fd : FuncData) : Prop where
  ok : FnF P w K mg base CX k f fd ps sp
  k : PySem.W.keepIn K (.ref f) = true
  g : mg x = some (.ref f)
  b : Binds K fd ps []
section
variable {X : Cx} {CX : CXT} {k : Nat} {f C : Addr} {fd : FuncData} {ps : List Str} {sp : Sp} {x m : Str} {p pos apos : Pos} {e o : Expr} {es : List Expr} {ta : TE} {t : TA} {dvs : List V} {ds : List Value}
theorem run_fnF {pins : List (Addr × Obj)} {σ : L2.St} {H : Hp} {s : Shared} {Q : VK} {us : List Value} {vs : List V} {E : XK} (F : FnF X.prog X.w X.K X.mg X.base CX k f fd ps sp) (hr : RoomF k X.A) (hb : Binds X.K fd ps ds) (hd : Vals dvs ds) (hx : Passes CX X E)
    (I : Inv X pins σ H s) (r : Vals vs us) (h : sp (vs ++ dvs) H Q E) : wpAny (model X.prog X.w) X.A (call (.ref f) us) (EP X pins σ Q) X.xe s := by
  have r2 : Vals (vs ++ dvs) (us ++ ds) := r.append hd
  have hl : (us ++ ds).length = ps.length := by rw [← r2.length]; exact F.len _ _ _ _ h
  refine wpAny_call (codeAny_mono (F.run X.A X.stack s H ⟨us, []⟩ (us ++ ds) (vs ++ dvs) Q E hr I.env0 (hb s us I.kIn hl) r2 h) fun r s' hq => ?_)
  cases r with
  | error e => exact hx pins σ H s e s' I hq
  | ok fl =>
    cases fl with
    | ret u => exact I.after hq
    | next => exact False.elim hq
    | brk => exact False.elim hq
    | cont => exact False.elim hq
theorem pe_callF {E : XK} (F : FnF X.prog X.w X.K X.mg X.base CX k f fd ps sp) (hr : RoomF k X.A) (hg : L2.Gl X x) (hm : X.mg x = some (.ref f)) (hk : PySem.W.keepIn X.K (.ref f) = true) (hb : Binds X.K fd ps ds) (hd : Vals dvs ds) (hx : Passes CX X E)
    (ha : PA X (e :: es) t) (hdb : (x == ("__debug__" : Str)) = false := by decide) (he : starEach (e :: es) X.env = (false, eval e X.env) :: starEach es X.env := by rfl) (hpl : (backTo pos (starEach es X.env)).any (·.1) = false := by rfl) :
    PE X (.Call (.Name x p) (e :: es) [] pos) (tCall sp dvs E t) := by
  refine ⟨fun pins s σ H Q I h => ?_⟩
  refine wpAny_Call_Name_kw (ld_glob I hg hm ?_ hdb)
  refine PySem.W.callWith_K (h₀ := X.base) I.ok.mod.kin hk (thn (ha.run pos pins s σ H _ I h) fun us s1 ⟨vs, H1, I1, r, q⟩ => ⟨I1.kIn, ?_⟩) he hpl
  exact run_fnF F hr hb hd hx I1 r q
theorem run_fnSF {pins : List (Addr × Obj)} {σ : L2.St} {H : Hp} {s : Shared} {Q : VK} {us : List Value} {vs : List V} {E : L2.St → XK} (F : FnF X.prog X.w X.K X.mg X.base CX k f fd ps sp) (hr : RoomF k X.A) (hb : Binds X.K fd ps []) (hx : PassesAt CX X σ (E σ))
    (I : Inv X pins σ H s) (r : Vals vs us) (h : sp vs H Q (E σ)) : wpAny (model X.prog X.w) X.A (call (.ref f) us) (EP X pins σ Q) X.xe s := by
  have hl : us.length = ps.length := by rw [← r.length]; exact F.len _ _ _ _ h
  have b := hb s us I.kIn (by rw [List.append_nil]; exact hl)
  rw [List.append_nil] at b
  refine wpAny_call (codeAny_mono (F.run X.A X.stack s H ⟨us, []⟩ us vs Q (E σ) hr I.env0 b r h) fun r s' hq => ?_)
  cases r with
  | error e => exact hx pins H s e s' I hq
  | ok fl =>
    cases fl with
    | ret u => exact I.after hq
    | next => exact False.elim hq
    | brk => exact False.elim hq
    | cont => exact False.elim hq
theorem pe_callSF {E : L2.St → XK} (F : FnF X.prog X.w X.K X.mg X.base CX k f fd ps sp) (hr : RoomF k X.A) (hg : L2.Gl X x) (hm : X.mg x = some (.ref f)) (hk : PySem.W.keepIn X.K (.ref f) = true) (hb : Binds X.K fd ps []) (hx : ∀ σ, PassesAt CX X σ (E σ))
    (ha : PA X (e :: es) t) (hdb : (x == ("__debug__" : Str)) = false := by decide) (he : starEach (e :: es) X.env = (false, eval e X.env) :: starEach es X.env := by rfl) (hpl : (backTo pos (starEach es X.env)).any (·.1) = false := by rfl) :
    PE X (.Call (.Name x p) (e :: es) [] pos) (tCallS sp E t) := by
  refine ⟨fun pins s σ H Q I h => ?_⟩
  refine wpAny_Call_Name_kw (ld_glob I hg hm ?_ hdb)
  refine PySem.W.callWith_K (h₀ := X.base) I.ok.mod.kin hk (thn (ha.run pos pins s σ H _ I h) fun us s1 ⟨vs, H1, I1, r, q⟩ => ⟨I1.kIn, ?_⟩) he hpl
  exact run_fnSF F hr hb (hx σ) I1 r q
end
end My
namespace My
open PySem PySem.Spec PyProof.Rows L2 TL
/-! ### the law's own evaluation: what it promises -/
theorem iteS {a b : Str} {p q : Prop} (h : a ≠ b) (x : q) : if decide (V.str a = V.str b) = true then p else q := by
  rw [if_neg (fun z => h (v_str z))]; exact x
theorem iteSt {a : Str} {p q : Prop} (x : p) : if decide (V.str a = V.str a) = true then p else q := by
  rw [if_pos (decide_eq_true rfl)]; exact x
theorem huF {k : Nat} {A : Around} (r : RoomF k A) : A.units + 1 < cLine := by have := r.un; omega
def wdK (l s : Nat) (T : Addr) : List (Key × V) := [(.inr "left", .int l), (.inr "table", .ref T), (.inr "deepest", .int s)]
structure RGt (X : Addr → Prop) (H : Hp) (T : Addr) (gl : Gl) : Prop where
  h : ∃ kvs, H T = some (.dK kvs) ∧ kvs.length ≤ 10 ∧ ∀ m ∈ globM, ∀ x ∈ globX, (∀ v, glGet (m, x) gl = some v → ∃ u, valV kvs (.inr (m ++ "." ++ x)) = some u ∧ RL X H u v) ∧ (glGet (m, x) gl = none → valV kvs (.inr (m ++ "." ++ x)) = none)
structure Sw (X : Addr → Prop) (H : Hp) (W T : Addr) (l s : Nat) (gl : Gl) : Prop where
  w : H W = some (.dK (wdK l s T))
  t : RGt X H T gl
  ne : T ≠ W
  xW : X W
  xT : X T
  xd : ∀ b, X b → H b ≠ none
abbrev isW (W : Addr) : Addr → Prop := fun b => b = W
section
variable {X : Addr → Prop} {H H' : Hp} {W T : Addr} {l s l' s' : Nat} {gl : Gl}
theorem Sw.wide (h : Sw X H W T l s gl) (f : Fr (isW W) H H') : Fr X H H' := f.wide fun b e => by rw [e]; exact h.xW
theorem Sw.dom (h : Sw X H W T l s gl) (f : Fr (isW W) H H') : ∀ b, X b → H' b ≠ none := fun b x e => h.xd b x (f.dom e)
theorem RGt.fr (g : RGt X H T gl) (h : Sw X H W T l s gl) (f : Fr (isW W) H H') : RGt X H' T gl := by
  obtain ⟨kvs, h1, h2, h3⟩ := g.h
  exact ⟨kvs, f.keep h.ne rfl h1, h2, fun m hm x hx => ⟨fun v e => let ⟨u, e1, e2⟩ := (h3 m hm x hx).1 v e; ⟨u, e1, e2.fr (h.wide f)⟩, (h3 m hm x hx).2⟩⟩
theorem Sw.no (h : Sw X H W T l s gl) (f : Fr No H H') : Sw X H' W T l s gl := ⟨f.keep (fun z => z) rfl h.w, h.t.fr h f.no, h.ne, h.xW, h.xT, h.dom f.no⟩
theorem Sw.put (h : Sw X H W T l s gl) (l' s' : Nat) : Sw X (upd H W (.dK (wdK l' s' T))) W T l' s' gl := by
  have f : Fr (isW W) H (upd H W (.dK (wdK l' s' T))) := Fr.set rfl h.w rfl
  exact ⟨upd_same, h.t.fr h f, h.ne, h.xW, h.xT, h.dom f⟩
theorem Sw.lst (h : Sw X H W T l s gl) {D : Addr} {ws : List V} {o : HO} (hD : H D = some (.lst ws)) : Sw X (upd H D o) W T l s gl := by
  obtain ⟨kvs, h1, h2, h3⟩ := h.t.h
  exact ⟨(lst_kp hD).2 _ _ h.w, ⟨kvs, (lst_kp hD).2 _ _ h1, h2, fun m hm x hx => ⟨fun v e => let ⟨u, e1, e2⟩ := (h3 m hm x hx).1 v e; ⟨u, e1, e2.lst hD⟩, (h3 m hm x hx).2⟩⟩, h.ne, h.xW, h.xT, fun b xb z => h.xd b xb (upd_dom b z)⟩
theorem Sw.left (h : Sw X H W T l s gl) : DGet H W (.str "left") (some (.int l)) := by
  have := DGet.k (k := Sum.inr "left") h.w
  rw [show valV (wdK l s T) (.inr "left") = some (.int l) from valV_pos rfl] at this
  exact this
theorem Sw.table (h : Sw X H W T l s gl) : DGet H W (.str "table") (some (.ref T)) := by
  have := DGet.k (k := Sum.inr "table") h.w
  rw [show valV (wdK l s T) (.inr "table") = some (.ref T) from (valV_neg (fun z => absurd (Sum.inr.inj z) (by decide))).trans (valV_pos rfl)] at this
  exact this
theorem Sw.deep (h : Sw X H W T l s gl) : DGet H W (.str "deepest") (some (.int s)) := by
  have := DGet.k (k := Sum.inr "deepest") h.w
  rw [show valV (wdK l s T) (.inr "deepest") = some (.int s) from (valV_neg (fun z => absurd (Sum.inr.inj z) (by decide))).trans ((valV_neg (fun z => absurd (Sum.inr.inj z) (by decide))).trans (valV_pos rfl))] at this
  exact this
theorem wd_left {x : Int} {l2 : Nat} (e : x = l2) : putK (wdK l s T) (.inr "left") (.int x) = wdK l2 s T := by subst e; kernel_rfl
theorem wd_deep {x : Int} {s2 : Nat} (e : x = s2) : putK (wdK l s T) (.inr "deepest") (.int x) = wdK l s2 T := by subst e; kernel_rfl
end
/-- a call, behind the step that begins it -/
def callE (f : Nat) (gl : Gl) (env : Ev) (g : Tr) (ts : List Tr) (l s d : Nat) (last : Bool) : Option (Rs × Nat × Nat) := match evL (fun t l s => evT f gl env t l s d false) (g :: ts) l s with
  | some (.inl (called :: vs), l', s') => (match chkF called vs.length with
    | some ws => some (.out ws, l', s')
    | none => match called with
      | .prim q => (match primF q vs with
        | .ok y => some (.val y, l', s')
        | .error ws => some (.out ws, l', s'))
      | .fnP ns b en => if en.length + ns.length ≤ 1000000 then evT f gl (evPuts ns vs en) b l' (max s' (d + if last then 0 else 1)) (d + if last then 0 else 1) true else none
      | _ => none)
  | some (.inl [], _) => none
  | some (.inr ws, z) => some (.out ws, z)
  | none => none
theorem evT_call {f : Nat} {gl : Gl} {env : Ev} {g : Tr} {ts : List Tr} {l s d : Nat} {last : Bool} {x : Rs × Nat × Nat} (hl : ¬ l = 0) (h : evT (f + 1) gl env (.call g ts) l s d last = some x) : ts.length ≤ 60 ∧ callE f gl env g ts (l - 1) s d last = some x := by
  unfold evT at h
  rw [if_neg hl] at h
  dsimp only at h
  by_cases lim : ts.length ≤ 60
  case neg => rw [if_neg lim] at h; cases h
  rw [if_pos lim] at h
  refine ⟨lim, ?_⟩
  rw [← h]
  unfold callE
  rfl
abbrev sLru : Stmt := top 55
abbrev NLru : List Str := ["core", "around", "world", "depth", "last", "kind", "told", "values", "pair"]
abbrev sLca : Stmt := top 54
abbrev NLca : List Str := ["core", "around", "world", "depth", "last", "told", "values", "function"]
abbrev sLal : Stmt := top 53
abbrev NLal : List Str := ["parts", "around", "world", "depth", "values", "part", "told"]
/-- where a part is evaluated -/
structure Pl (X : Addr → Prop) (H : Hp) (W T e : Addr) (l s : Nat) (gl : Gl) (env : Ev) : Prop where
  sw : Sw X H W T l s gl
  he : ∃ kvs, H e = some (.dK kvs) ∧ RLe X H kvs env
  ne : ¬ X e
  ok : EOk env
  g : ∀ k v, glGet k gl = some v → GV v
theorem Pl.fr {X : Addr → Prop} {H H' : Hp} {W T e : Addr} {l s l' s' : Nat} {gl : Gl} {env : Ev} (p : Pl X H W T e l s gl env) (f : Fr (isW W) H H') (h : Sw X H' W T l' s' gl) : Pl X H' W T e l' s' gl env := by
  obtain ⟨kvs, h1, h2⟩ := p.he
  exact ⟨h, ⟨kvs, f.keep (fun z => p.ne (by rw [show e = W from z]; exact p.sw.xW)) rfl h1, h2.fr (p.sw.wide f)⟩, p.ne, p.ok, p.g⟩
def covT (t : Tr) (env : Ev) : Prop := ∀ x, fv x t → ∃ v, evGet x env = some v
def spRun (n : Nat) : Sp := fun vs H Q _ => ∃ (X : Addr → Prop) (W T e : Addr) (gl : Gl) (env : Ev) (c : V) (t : Tr) (f l s d : Nat) (last : Bool) (r : Rs) (l' s' : Nat), vs = [c, .ref e, .ref W, .int (d : Nat), .bl last] ∧ Pl X H W T e l s gl env ∧ RT H c t ∧ gdT t ∧ covT t env ∧ l ≤ n ∧ l < f ∧
  evT f gl env t l s d last = some (r, l', s') ∧ ∀ v H', Fr (isW W) H H' → Sw X H' W T l' s' gl → ROu X H' v r → Q v H'
def spCal (n : Nat) : Sp := fun vs H Q _ => ∃ (X : Addr → Prop) (W T e : Addr) (gl : Gl) (env : Ev) (c : V) (g : Tr) (ts : List Tr) (f l s d : Nat) (last : Bool) (r : Rs) (l' s' : Nat), vs = [c, .ref e, .ref W, .int (d : Nat), .bl last] ∧ Pl X H W T e l s gl env ∧ RT H c (.call g ts) ∧ gdT (.call g ts) ∧ covT (.call g ts) env ∧ l ≤ n ∧ l < f ∧
  callE f gl env g ts l s d last = some (r, l', s') ∧ ∀ v H', Fr (isW W) H H' → Sw X H' W T l' s' gl → ROu X H' v r → Q v H'
def AllO (X : Addr → Prop) (H : Hp) (a : Addr) : List Vl ⊕ List Str → Prop
  | .inl vs => ∃ D us, H a = some (.tup [.non, .ref D]) ∧ H D = some (.lst us) ∧ Als (RL X H) us vs ∧ ¬ X D
  | .inr ws => ∃ o D, H a = some (.tup [.ref o, .ref D]) ∧ H o = some (.tup (ws.map V.str)) ∧ wsOk ws
def spAlx (tup : Bool) (n : Nat) : Sp := fun vs H Q _ => ∃ (X : Addr → Prop) (W T e a : Addr) (gl : Gl) (env : Ev) (us : List V) (ts : List Tr) (f l s d : Nat) (r : List Vl ⊕ List Str) (l' s' : Nat), vs = [.ref a, .ref e, .ref W, .int (d : Nat)] ∧ Pl X H W T e l s gl env ∧ H a = some (if tup = true then .tup us else .lst us) ∧ ¬ X a ∧ RTs H us ts ∧ (∀ t ∈ ts, gdT t ∧ covT t env) ∧ ts.length ≤ 100 ∧ l ≤ n ∧ l < f ∧
  evL (fun t l s => evT f gl env t l s d false) ts l s = some (r, l', s') ∧ ∀ a' H', Fr (isW W) H H' → Sw X H' W T l' s' gl → AllO X H' a' r → Q (.ref a') H'
section
variable {P : Program} {w : World} {K : PySem.W.Frag} {mg : Str → Option Value} {base : Heap}
theorem scLal : FnScope NLal ["parts", "around", "world", "depth"] (defScope sLal) := ⟨rfl, rfl, rfl, by decide +kernel, rfl, by decide +kernel, by decide +kernel⟩
theorem RTs.at {H : Hp} : ∀ {vs : List V} {ts : List Tr} {i : Nat} {v : V}, RTs H vs ts → vs[i]? = some v → ∃ t, ts[i]? = some t ∧ RT H v t := RTs.get
theorem ok_alT {f fR : Addr} {fd dR : FuncData} {n k : Nat} {sR : Sp} (hk : 3 ≤ k) (hS : ∀ vs H Q E, spRun n vs H Q E → sR vs H Q E) (F : Fun K "_law_all" "_law_all" sLal f fd) (GR : CalF P w K mg base CX0 k "_law_run" ["core", "around", "world", "depth", "last"] sR fR dR) : FnF P w K mg base CX0 (k + 1) f fd ["parts", "around", "world", "depth"] (spAlx true n) := by
  refine okFF F scLal (fun vs H Q E h => ?_) (fun cdv A outer s0 H vs Q E hr h => ?_)
  · obtain ⟨X, W, T, e, a, gl, env, us, ts, f, l, s, d, r, l', s', rfl, _⟩ := h
    rfl
  obtain ⟨X, W, T, e, a, gl, env, us, ts, fu, l, s, d, r, l', s', rfl, pl, ha, na, rts, gts, lt, ln, lf, hev, q⟩ := h
  have nd := scLal.nd
  have ha : H a = some (.tup us) := ha
  refine ⟨_, (pss_cons (ps_set (i := 4) nd rfl (Or.inl rfl) (pe_lst pa_nil))
    (pss_cons (ps_for (passes_of rfl) rfl (pi_tup (pv 0)) (pg_name (i := 5) nd rfl (Or.inl rfl))
      (pss_cons (ps_set (i := 6) nd rfl (Or.inl rfl) (pe_callF GR.ok hr rfl GR.g GR.k GR.b .nil pass0 (pa_cons (pv 5) (pa_cons (pv 1) (pa_cons (pv 2) (pa_cons (pv 3) (pa_cons pe_bl pa_nil)))))))
      (pss_cons (ps_if (pt_cmpR op_ne (pe_ix (r := rIxT K) ix_tup (pv 6) pe_int (fun _ _ => rfl)) pe_str (nomark _)) (pss_one (ps_ret (pe_tup (pa_cons (pv 6) (pa_cons (pv 4) pa_nil))))) pss_nil)
      (pss_one (ps_expr (pe_bm PySem.F.plainAttrs_list PySem.F.slot_list_append PySem.F.type_list_append mt_append (pv 4) (pa_cons (pe_ix (r := rIxT K) ix_tup (pv 6) pe_int (fun _ _ => rfl)) pa_nil)))))))
    (pss_one (ps_ret (pe_tup (pa_cons pe_non (pa_cons (pv 4) pa_nil))))))), ?_⟩
  have lus := rts.len
  refine ⟨by show 0 ≤ sizeLine; decide, fun D hD => ?_⟩
  have fD : Fr No H (upd H D (.lst [])) := Fr.new hD
  have nXD : ¬ X D := fun z => pl.sw.xd D z hD
  have nWD : ¬ isW W D := fun z => nXD (by rw [show D = W from z]; exact pl.sw.xW)
  have nWa : ¬ isW W a := fun z => na (by rw [show a = W from z]; exact pl.sw.xW)
  have hsrc : ∀ {H'}, Fr (isW W) H H' → H' a = some (.tup us) := fun f => f.tup _ _ ha
  refine ⟨_, rfl, a, rfl, ⟨_, SqT.of (hsrc fD.no)⟩, for_tup (xs := us) (fun i σ H' => ∃ (v5 v6 : Option V) (ws : List V) (vs : List Vl) (l1 s1 : Nat) (r2 : List Vl ⊕ List Str) , σ = [some (.ref a), some (.ref e), some (.ref W), some (.int (d : Nat)), some (.ref D), v5, v6] ∧ H' D = some (.lst ws) ∧ Als (RL X H') ws vs ∧ vs.length = i ∧ Sw X H' W T l1 s1 gl ∧ l1 ≤ l ∧ Fr (isW W) H H' ∧
      evL (fun t l s => evT fu gl env t l s d false) (ts.drop i) l1 s1 = some (r2, l', s') ∧ r = (match r2 with | .inl vs2 => .inl (vs ++ vs2) | .inr ws => .inr ws))
    ⟨none, none, [], [], l, s, r, rfl, upd_same, .nil, rfl, pl.sw.no fD, Nat.le_refl _, fD.no, hev, by cases r <;> rfl⟩ (fun i σ H' _ ⟨_, _, _, _, _, _, _, _, _, _, _, _, _, f, _⟩ => SqT.of (hsrc f)) ?_ ?_⟩
  · rintro i v σ H1 hi ⟨v5, v6, ws, vs, l1, s1, r2, rfl, h1, h2, h3, sw1, le1, f1, ev1, er⟩
    obtain ⟨t, ht, rt⟩ := rts.at hi
    have il : i < ts.length := (List.getElem?_eq_some_iff.mp ht).1
    have hdrop : ts.drop i = t :: ts.drop (i + 1) := by
      rw [List.drop_eq_getElem_cons il, (List.getElem?_eq_some_iff.mp ht).2]
    rw [hdrop] at ev1
    unfold evL at ev1
    cases hx : evT fu gl env t l1 s1 d false with
    | none => rw [hx] at ev1; cases ev1
    | some x =>
    obtain ⟨r1, l2, s2⟩ := x
    rw [hx] at ev1
    obtain ⟨g1, g2⟩ := gts t (List.mem_of_getElem? ht)
    have le2 := (evT_le _ _ _ _ _ _ _ _ _ _ _ hx).1
    refine ⟨_, rfl, _, rfl, _, rfl, _, rfl, hS _ _ _ _ ⟨X, W, T, e, gl, env, v, t, fu, l1, s1, d, false, r1, l2, s2, rfl, pl.fr f1 sw1, rt.keep f1.tup, g1, g2, by omega, by omega, hx, fun u H2 f2 sw2 ro => ?_⟩⟩
    have f02 := f1.trans f2
    have hD2 := f2.keep nWD rfl h1
    cases r1 with
    | out wz =>
      dsimp only at ev1
      cases ev1
      obtain ⟨o, rfl, ho, hok⟩ := ro
      have hw : ∃ w0 wr, wz = w0 :: wr ∧ w0 ≠ "value" := by
        rcases hok with e | ⟨x, e⟩
        · exact ⟨_, _, e, by decide⟩
        · exact ⟨_, _, e, by decide⟩
      obtain ⟨w0, wr, rfl, hne⟩ := hw
      refine ⟨_, rfl, o, _, 0, _, rfl, rfl, SqT.of ho, at0 _ _, rfl, _, rfl, ?_⟩
      rw [decide_eq_false (fun z => hne (V.str.inj z))]
      refine iteT ⟨_, rfl, _, rfl, sl2, fun y hy => ?_⟩
      have fy : Fr No H2 (upd H2 y (.tup [.ref o, .ref D])) := Fr.new hy
      exact q y _ (f02.trans fy.no) (sw2.no fy) (by rw [er]; exact ⟨o, D, upd_same, fy.tup _ _ ho, hok⟩)
    | val x =>
      obtain ⟨o, ux, rfl, ho, rx⟩ := ro
      dsimp only at ev1
      refine ⟨_, rfl, o, _, 0, _, rfl, rfl, SqT.of ho, at0 _ _, rfl, _, rfl, ?_⟩
      rw [decide_eq_true rfl]
      refine iteF ?_
      have lws : ws.length ≤ 100 := by rw [h2.len, h3]; omega
      refine ⟨_, rfl, .inl ⟨rfl, _, SqL.of hD2⟩, _, rfl, o, _, 1, _, rfl, rfl, SqT.of ho, at1 _ _ _, D, ws, _, rfl, rfl, hD2, Nat.lt_of_le_of_lt (show ws.length ≤ 1000000 by omega) (by decide), ?_⟩
      have f0m : Fr (isW W) H (upd H2 D (.lst (ws ++ [ux]))) := f02.mut hD hD2 rfl
      cases hy : evL (fun t l s => evT fu gl env t l s d false) (ts.drop (i + 1)) l2 s2 with
      | none => rw [hy] at ev1; cases ev1
      | some y =>
      obtain ⟨r3, l3, s3⟩ := y
      rw [hy] at ev1
      refine ⟨_, _, ws ++ [ux], vs ++ [x], l2, s2, r3, rfl, upd_same, ?_, by rw [List.length_append, h3]; rfl, sw2.lst hD2, by omega, f0m, ?_, ?_⟩
      · exact (h2.mono fun _ _ z => (z.fr (sw1.wide f2)).lst hD2).app (.one (rx.lst hD2))
      · rw [hy]
        cases r3 <;> (cases ev1; rfl)
      · rw [er]
        cases r3 with
        | inl v3 => cases ev1; show Sum.inl (vs ++ x :: v3) = Sum.inl ((vs ++ [x]) ++ v3); rw [List.append_assoc]; rfl
        | inr w3 => cases ev1; rfl
  · rintro σ H1 ⟨v5, v6, ws, vs, l1, s1, r2, rfl, h1, h2, h3, sw1, le1, f1, ev1, er⟩
    rw [lus, List.drop_length] at ev1
    cases ev1
    refine ⟨_, rfl, sl2, fun y hy => ?_⟩
    have fy : Fr No H1 (upd H1 y (.tup [.non, .ref D])) := Fr.new hy
    refine q y _ (f1.trans fy.no) (sw1.no fy) ?_
    rw [er]
    refine ⟨D, ws, upd_same, fy.keep (fun z => z) rfl h1, ?_, nXD⟩
    rw [List.append_nil]
    exact RLs.fr fy.no h2

theorem ok_alL {f fR : Addr} {fd dR : FuncData} {n k : Nat} {sR : Sp} (hk : 3 ≤ k) (hS : ∀ vs H Q E, spRun n vs H Q E → sR vs H Q E) (F : Fun K "_law_all" "_law_all" sLal f fd) (GR : CalF P w K mg base CX0 k "_law_run" ["core", "around", "world", "depth", "last"] sR fR dR) : FnF P w K mg base CX0 (k + 1) f fd ["parts", "around", "world", "depth"] (spAlx false n) := by
  refine okFF F scLal (fun vs H Q E h => ?_) (fun cdv A outer s0 H vs Q E hr h => ?_)
  · obtain ⟨X, W, T, e, a, gl, env, us, ts, f, l, s, d, r, l', s', rfl, _⟩ := h
    rfl
  obtain ⟨X, W, T, e, a, gl, env, us, ts, fu, l, s, d, r, l', s', rfl, pl, ha, na, rts, gts, lt, ln, lf, hev, q⟩ := h
  have nd := scLal.nd
  have ha : H a = some (.lst us) := ha
  refine ⟨_, (pss_cons (ps_set (i := 4) nd rfl (Or.inl rfl) (pe_lst pa_nil))
    (pss_cons (ps_for (passes_of rfl) rfl (pi_list (pv 0)) (pg_name (i := 5) nd rfl (Or.inl rfl))
      (pss_cons (ps_set (i := 6) nd rfl (Or.inl rfl) (pe_callF GR.ok hr rfl GR.g GR.k GR.b .nil pass0 (pa_cons (pv 5) (pa_cons (pv 1) (pa_cons (pv 2) (pa_cons (pv 3) (pa_cons pe_bl pa_nil)))))))
      (pss_cons (ps_if (pt_cmpR op_ne (pe_ix (r := rIxT K) ix_tup (pv 6) pe_int (fun _ _ => rfl)) pe_str (nomark _)) (pss_one (ps_ret (pe_tup (pa_cons (pv 6) (pa_cons (pv 4) pa_nil))))) pss_nil)
      (pss_one (ps_expr (pe_bm PySem.F.plainAttrs_list PySem.F.slot_list_append PySem.F.type_list_append mt_append (pv 4) (pa_cons (pe_ix (r := rIxT K) ix_tup (pv 6) pe_int (fun _ _ => rfl)) pa_nil)))))))
    (pss_one (ps_ret (pe_tup (pa_cons pe_non (pa_cons (pv 4) pa_nil))))))), ?_⟩
  have lus := rts.len
  refine ⟨by show 0 ≤ sizeLine; decide, fun D hD => ?_⟩
  have fD : Fr No H (upd H D (.lst [])) := Fr.new hD
  have nXD : ¬ X D := fun z => pl.sw.xd D z hD
  have nWD : ¬ isW W D := fun z => nXD (by rw [show D = W from z]; exact pl.sw.xW)
  have nWa : ¬ isW W a := fun z => na (by rw [show a = W from z]; exact pl.sw.xW)
  have hsrc : ∀ {H'}, Fr (isW W) H H' → H' a = some (.lst us) := fun f => f.keep nWa rfl ha
  refine ⟨_, rfl, a, rfl, ⟨_, SqL.of (hsrc fD.no)⟩, for_list (xs := us) (fun i σ H' => ∃ (v5 v6 : Option V) (ws : List V) (vs : List Vl) (l1 s1 : Nat) (r2 : List Vl ⊕ List Str) , σ = [some (.ref a), some (.ref e), some (.ref W), some (.int (d : Nat)), some (.ref D), v5, v6] ∧ H' D = some (.lst ws) ∧ Als (RL X H') ws vs ∧ vs.length = i ∧ Sw X H' W T l1 s1 gl ∧ l1 ≤ l ∧ Fr (isW W) H H' ∧
      evL (fun t l s => evT fu gl env t l s d false) (ts.drop i) l1 s1 = some (r2, l', s') ∧ r = (match r2 with | .inl vs2 => .inl (vs ++ vs2) | .inr ws => .inr ws))
    ⟨none, none, [], [], l, s, r, rfl, upd_same, .nil, rfl, pl.sw.no fD, Nat.le_refl _, fD.no, hev, by cases r <;> rfl⟩ (fun i σ H' _ ⟨_, _, _, _, _, _, _, _, _, _, _, _, _, f, _⟩ => SqL.of (hsrc f)) ?_ ?_⟩
  · rintro i v σ H1 hi ⟨v5, v6, ws, vs, l1, s1, r2, rfl, h1, h2, h3, sw1, le1, f1, ev1, er⟩
    obtain ⟨t, ht, rt⟩ := rts.at hi
    have il : i < ts.length := (List.getElem?_eq_some_iff.mp ht).1
    have hdrop : ts.drop i = t :: ts.drop (i + 1) := by
      rw [List.drop_eq_getElem_cons il, (List.getElem?_eq_some_iff.mp ht).2]
    rw [hdrop] at ev1
    unfold evL at ev1
    cases hx : evT fu gl env t l1 s1 d false with
    | none => rw [hx] at ev1; cases ev1
    | some x =>
    obtain ⟨r1, l2, s2⟩ := x
    rw [hx] at ev1
    obtain ⟨g1, g2⟩ := gts t (List.mem_of_getElem? ht)
    have le2 := (evT_le _ _ _ _ _ _ _ _ _ _ _ hx).1
    refine ⟨_, rfl, _, rfl, _, rfl, _, rfl, hS _ _ _ _ ⟨X, W, T, e, gl, env, v, t, fu, l1, s1, d, false, r1, l2, s2, rfl, pl.fr f1 sw1, rt.keep f1.tup, g1, g2, by omega, by omega, hx, fun u H2 f2 sw2 ro => ?_⟩⟩
    have f02 := f1.trans f2
    have hD2 := f2.keep nWD rfl h1
    cases r1 with
    | out wz =>
      dsimp only at ev1
      cases ev1
      obtain ⟨o, rfl, ho, hok⟩ := ro
      have hw : ∃ w0 wr, wz = w0 :: wr ∧ w0 ≠ "value" := by
        rcases hok with e | ⟨x, e⟩
        · exact ⟨_, _, e, by decide⟩
        · exact ⟨_, _, e, by decide⟩
      obtain ⟨w0, wr, rfl, hne⟩ := hw
      refine ⟨_, rfl, o, _, 0, _, rfl, rfl, SqT.of ho, at0 _ _, rfl, _, rfl, ?_⟩
      rw [decide_eq_false (fun z => hne (V.str.inj z))]
      refine iteT ⟨_, rfl, _, rfl, sl2, fun y hy => ?_⟩
      have fy : Fr No H2 (upd H2 y (.tup [.ref o, .ref D])) := Fr.new hy
      exact q y _ (f02.trans fy.no) (sw2.no fy) (by rw [er]; exact ⟨o, D, upd_same, fy.tup _ _ ho, hok⟩)
    | val x =>
      obtain ⟨o, ux, rfl, ho, rx⟩ := ro
      dsimp only at ev1
      refine ⟨_, rfl, o, _, 0, _, rfl, rfl, SqT.of ho, at0 _ _, rfl, _, rfl, ?_⟩
      rw [decide_eq_true rfl]
      refine iteF ?_
      have lws : ws.length ≤ 100 := by rw [h2.len, h3]; omega
      refine ⟨_, rfl, .inl ⟨rfl, _, SqL.of hD2⟩, _, rfl, o, _, 1, _, rfl, rfl, SqT.of ho, at1 _ _ _, D, ws, _, rfl, rfl, hD2, Nat.lt_of_le_of_lt (show ws.length ≤ 1000000 by omega) (by decide), ?_⟩
      have f0m : Fr (isW W) H (upd H2 D (.lst (ws ++ [ux]))) := f02.mut hD hD2 rfl
      cases hy : evL (fun t l s => evT fu gl env t l s d false) (ts.drop (i + 1)) l2 s2 with
      | none => rw [hy] at ev1; cases ev1
      | some y =>
      obtain ⟨r3, l3, s3⟩ := y
      rw [hy] at ev1
      refine ⟨_, _, ws ++ [ux], vs ++ [x], l2, s2, r3, rfl, upd_same, ?_, by rw [List.length_append, h3]; rfl, sw2.lst hD2, by omega, f0m, ?_, ?_⟩
      · exact (h2.mono fun _ _ z => (z.fr (sw1.wide f2)).lst hD2).app (.one (rx.lst hD2))
      · rw [hy]
        cases r3 <;> (cases ev1; rfl)
      · rw [er]
        cases r3 with
        | inl v3 => cases ev1; show Sum.inl (vs ++ x :: v3) = Sum.inl ((vs ++ [x]) ++ v3); rw [List.append_assoc]; rfl
        | inr w3 => cases ev1; rfl
  · rintro σ H1 ⟨v5, v6, ws, vs, l1, s1, r2, rfl, h1, h2, h3, sw1, le1, f1, ev1, er⟩
    rw [lus, List.drop_length] at ev1
    cases ev1
    refine ⟨_, rfl, sl2, fun y hy => ?_⟩
    have fy : Fr No H1 (upd H1 y (.tup [.non, .ref D])) := Fr.new hy
    refine q y _ (f1.trans fy.no) (sw1.no fy) ?_
    rw [er]
    refine ⟨D, ws, upd_same, fy.keep (fun z => z) rfl h1, ?_, nXD⟩
    rw [List.append_nil]
    exact RLs.fr fy.no h2

end
end My
namespace My
open PySem PySem.Spec PyProof.Rows L2 TL
/-! ### _law_call -/
theorem catT_use {K : PySem.W.Frag} {H : Hp} {a b : Addr} {xs ys : List V} {Q : VK} (ha : H a = some (.tup xs)) (hb : H b = some (.tup ys)) (ne : xs ≠ []) (le : xs.length + ys.length ≤ sizeLine) (q : ∀ p H', Fr No H H' → H' p = some (.tup (xs ++ ys)) → (p = a ∨ H p = none) → Q (.ref p) H') : rCatT K (.ref a) (.ref b) H Q := by
  refine ⟨a, b, xs, ys, rfl, rfl, SqT.of ha, SqT.of hb, ne, le, fun e => q a H (Fr.refl _ _) (by rw [e, List.append_nil]; exact ha) (.inl rfl), fun _ p hp => q p _ (Fr.new hp) upd_same (.inr hp)⟩
theorem cut1 {v : V} {vs : List V} : cutV (v :: vs) (some 1) none = vs := by
  unfold cutV
  rw [HT.sIx_none, show (1 : Int) = ((1 : Nat) : Int) from rfl, HT.sIx_nat]
  simp
theorem Sw.gone {X : Addr → Prop} {H : Hp} {W T : Addr} {l s : Nat} {gl : Gl} (h : Sw X H W T l s gl) {b : Addr} (e : H b = none) : ¬ X b := fun z => h.xd b z e
section
variable {P : Program} {w : World} {K : PySem.W.Frag} {mg : Str → Option Value} {base : Heap}
theorem scLca : FnScope NLca ["core", "around", "world", "depth", "last"] (defScope sLca) := ⟨rfl, rfl, rfl, by decide +kernel, rfl, by decide +kernel, by decide +kernel⟩
theorem ok_lca {f fR fA fW fP : Addr} {fd dR dA dW dP : FuncData} {n k : Nat} (hk : 3 ≤ k) (F : Fun K "_law_call" "_law_call" sLca f fd) (B : Blt mg) (B2 : Bl2 mg) (GR : CalF P w K mg base CX0 k "_law_run" ["core", "around", "world", "depth", "last"] (spRun n) fR dR) (GA : CalF P w K mg base CX0 k "_law_all" ["parts", "around", "world", "depth"] (spAlx true n) fA dA)
    (GW : Cal P w K mg base CX0 1 "_law_with" ["around", "numbers", "values"] (spLwi true) fW dW) (GP : Cal P w K mg base CX0 1 "_law_prim" ["name", "values"] spLpr fP dP) : FnF P w K mg base CX0 (k + 1) f fd ["core", "around", "world", "depth", "last"] (spCal n) := by
  refine okFF F scLca (fun vs H Q E h => ?_) (fun cdv A outer s0 H vs Q E hr h => ?_)
  · obtain ⟨X, W, T, e, gl, env, c, g, ts, f, l, s, d, last, r, l', s', rfl, _⟩ := h
    rfl
  obtain ⟨X, W, T, e, gl, env, c, g, ts, fu, l, s, d, last, r, l', s', rfl, pl, rt, gd, cov, ln, lf, hev, q⟩ := h
  have nd := scLca.nd
  have hu := huF hr
  have r1 : Room 1 _ := hr.small (j := 1) (by omega)
  refine ⟨_, (pss_cons (ps_asg (pe_callF GA.ok hr rfl GA.g GA.k GA.b .nil pass0 (pa_cons (pe_op op_catT (pe_tup (pa_cons (pe_ix (r := rIxT K) ix_tup (pv 0) pe_int (fun _ _ => rfl)) pa_nil)) (pe_ix (r := rIxT K) ix_tup (pv 0) pe_int (fun _ _ => rfl))) (pa_cons (pv 1) (pa_cons (pv 2) (pa_cons (pv 3) pa_nil))))) (pg_tup rfl (pgs_cons (pg_name (i := 5) nd rfl (Or.inl rfl)) (pgs_cons (pg_name (i := 6) nd rfl (Or.inl rfl)) pgs_nil))))
    (pss_cons (ps_if (pt_cmpR op_notN (pv 5) pe_non (nomark _)) (pss_one (ps_ret (pv 5))) pss_nil)
    (pss_cons (ps_set (i := 7) nd rfl (Or.inl rfl) (pe_ix (r := rIxL K) ix_list (pv 6) pe_int (fun _ _ => rfl)))
    (pss_cons (ps_set (i := 6) nd rfl (Or.inl rfl) (pe_slice sl_list (pv 6) (po_some pe_int) po_none))
    (pss_cons (ps_if (PW.pt (pw_or (pt_not (pt_val (pe_callB call_isi (by rfl) B.isinstance (by decide +kernel) (pa_cons (pv 7) (pa_cons (pe_bltn (v := .ty "tuple") (by rfl) B.tuple (by decide +kernel) rfl) pa_nil))))) (pw_or1 (pt_cmpR op_eq (pe_ix (r := rIxT K) ix_tup (pv 7) pe_int (fun _ _ => rfl)) pe_str (nomark _))))) (pss_one (ps_ret (pe_tup (pa_cons pe_str (pa_cons pe_str pa_nil))))) pss_nil)
    (pss_cons (ps_if (pt_cmpR op_eq (pe_ix (r := rIxT K) ix_tup (pv 7) pe_int (fun _ _ => rfl)) pe_str (nomark _)) (pss_one (ps_ret (pe_call GP.ok r1 rfl GP.g GP.k GP.b .nil pass0 (pa_cons (pe_ix (r := rIxT K) ix_tup (pv 7) pe_int (fun _ _ => rfl)) (pa_cons (pv 6) pa_nil))))) pss_nil)
    (pss_cons (ps_if (pt_cmpR op_ne (pe_callB call_len_seq (by rfl) B.len PySem.boot_len (pa_cons (pe_ix (r := rIxT K) ix_tup (pv 7) pe_int (fun _ _ => rfl)) pa_nil)) (pe_callB call_len_seq (by rfl) B.len PySem.boot_len (pa_cons (pv 6) pa_nil)) (nomark _)) (pss_one (ps_ret (pe_tup (pa_cons pe_str (pa_cons pe_str pa_nil))))) pss_nil)
    (pss_cons (ps_set (i := 3) nd rfl (Or.inl rfl) (pe_op op_add (pv 3) (pe_callTy call_int1 (by rfl) B.int (by decide +kernel) (pa_cons (pe_not (pv 4)) pa_nil))))
    (pss_cons (ps_dput hu (pv 2) pe_str (pe_callB (call_max2 rfl) (by rfl) B2.max (by decide +kernel) (pa_cons (pe_dget hu (pv 2) pe_str (fun _ _ => rfl)) (pa_cons (pv 3) pa_nil))) rfl)
    (pss_one (ps_ret (pe_callF GR.ok hr rfl GR.g GR.k GR.b .nil pass0 (pa_cons (pe_ix (r := rIxT K) ix_tup (pv 7) pe_int (fun _ _ => rfl)) (pa_cons (pe_call GW.ok r1 rfl GW.g GW.k GW.b .nil pass0 (pa_cons (pe_ix (r := rIxT K) ix_tup (pv 7) pe_int (fun _ _ => rfl)) (pa_cons (pe_ix (r := rIxT K) ix_tup (pv 7) pe_int (fun _ _ => rfl)) (pa_cons (pv 6) pa_nil)))) (pa_cons (pv 2) (pa_cons (pv 3) (pa_cons pe_bl pa_nil))))))))))))))))), ?_⟩
  obtain ⟨gt, g1, g2⟩ : ts.length ≤ 5 ∧ gdT g ∧ gdTs ts := gd
  cases rt with
  | @call a q0 v us _ _ ha hq0 rg rts =>
  have lus := rts.len
  refine ⟨_, rfl, a, _, 1, _, rfl, rfl, SqT.of ha, at1 _ _ _, sl1, fun t1 ht1 => ?_⟩
  have ft1 : Fr No H (upd H t1 (.tup [v])) := Fr.new ht1
  refine ⟨_, rfl, a, _, 2, _, rfl, rfl, SqT.of (ft1.tup _ _ ha), atI_nat (j := 2) rfl, ?_⟩
  refine catT_use upd_same (ft1.tup _ _ hq0) (by simp) (Nat.le_trans (show [v].length + us.length ≤ 10 by show 1 + us.length ≤ 10; omega) (by decide)) fun p H1 f1' hp hpn => ?_
  have f1 := ft1.trans f1'
  refine ⟨_, rfl, _, rfl, _, rfl, ?_⟩
  have sw1 := pl.sw.no f1
  have pl1 := pl.fr f1.no sw1
  unfold callE at hev
  cases hx : evL (fun t l s => evT fu gl env t l s d false) (g :: ts) l s with
  | none => rw [hx] at hev; cases hev
  | some x =>
  obtain ⟨r2, l1, s1⟩ := x
  rw [hx] at hev
  have gall : ∀ t ∈ g :: ts, gdT t ∧ covT t env := fun t m => by
    rcases List.mem_cons.mp m with e | m
    · rw [e]; exact ⟨g1, fun x hx => cov x (.inl hx)⟩
    · exact ⟨gdTs_mem g2 t m, fun x hx => cov x (.inr (fvs_mem.mpr ⟨t, m, hx⟩))⟩
  have nXp : ¬ X p := by
    rcases hpn with e | e
    · rw [e]; exact pl.sw.gone ht1
    · exact pl.sw.gone (ft1.dom e)
  refine ⟨X, W, T, e, p, gl, env, v :: us, g :: ts, fu, l, s, d, r2, l1, s1, rfl, pl1, hp, nXp, .cons (rg.keep f1.tup) (rts.keep f1.tup), gall, by simp; omega, ln, lf, hx, fun a' H2 f2 sw2 ao => ?_⟩
  have f02 := f1.no.trans f2
  have err : ∀ (x : Str) (H3 : Hp) (y : Addr), Fr (isW W) H H3 → Sw X H3 W T l' s' gl → r = .out ["error", x] → H3 y = none → Q (.ref y) (upd H3 y (.tup [.str "error", .str x])) := fun x H3 y f sw er hy =>
    q _ _ (f.trans (Fr.new hy)) (sw.no (Fr.new hy)) (by rw [er]; exact ⟨y, rfl, upd_same, .inr ⟨x, rfl⟩⟩)
  cases r2 with
  | inr ws =>
    dsimp only at hev
    cases hev
    obtain ⟨o, D, ha', ho, hok⟩ := ao
    refine ⟨a', _, rfl, SqT.of ha', rfl, _, _, rfl, _, _, rfl, rfl, ?_⟩
    refine ⟨_, rfl, rfl, _, rfl, ?_⟩
    rw [decide_eq_false (show ¬ V.ref o = V.non from fun z => by cases z)]
    exact iteT ⟨_, rfl, q _ H2 f02 sw2 ⟨o, rfl, ho, hok⟩⟩
  | inl vs =>
  obtain ⟨D, uu, ha', hD, al, nXD⟩ := ao
  refine ⟨a', _, rfl, SqT.of ha', rfl, _, _, rfl, _, _, rfl, rfl, ?_⟩
  refine ⟨_, rfl, rfl, _, rfl, ?_⟩
  rw [decide_eq_true rfl]
  refine iteF ?_
  obtain ⟨_, _, _, eL, _, gvs, _⟩ := evL_tot (R := fun t l s => evT fu gl env t l s d false) (l0 := l) (g :: ts) l s (fun t m l2 s2 hl2 => evT_tot _ gl env t l2 s2 d false (gall t m).1 pl.ok (gall t m).2 pl.g (by omega)) (Nat.le_refl _)
  rw [hx] at eL
  cases eL
  obtain ⟨lvs, gvs⟩ := gvs _ rfl
  cases vs with
  | nil => simp at lvs
  | cons called vs =>
  cases al with
  | @cons u _ us' _ ru rus =>
  have gc : GV called := gvs called List.mem_cons_self
  have gv : ∀ v ∈ vs, GV v := fun v m => gvs v (List.mem_cons_of_mem _ m)
  dsimp only at hev
  have nWD : ¬ isW W D := fun z => nXD (by rw [show D = W from z]; exact pl.sw.xW)
  refine ⟨_, rfl, D, _, 0, _, rfl, rfl, SqL.of hD, at0 _ _, _, rfl, _, rfl, D, _, rfl, SqL.of hD, fun p2 hp2 => ?_⟩
  rw [cut1]
  have f3 : Fr No H2 (upd H2 p2 (.lst us')) := Fr.new hp2
  have ep2 : upd H2 p2 (.lst us') p2 = some (.lst us') := upd_same
  have sw3 := sw2.no f3
  have ru3 := ru.fr f3.no
  have rus3 := RLs.fr f3.no rus
  generalize upd H2 p2 (.lst us') = H3 at f3 ep2 sw3 ru3 rus3 ⊢
  have f03 := f02.trans f3.no
  have lrus := rus.len
  obtain ⟨tn, ty1, ki, kt⟩ := tyL (K := K) ru3 gc
  refine ⟨_, rfl, _, _, _, _, _, rfl, .ty "tuple", ty1, kit_ty kt, _, rfl, ?_⟩
  cases hi : isI called with
  | true =>
    cases called with
    | int i =>
      cases hev
      exact iteT (iteT ⟨sl2, fun y hy => err "kind" H3 y f03 sw3 rfl hy⟩)
    | _ => cases hi
  | false =>
  refine iteF ?_
  cases gc with
  | int i h => cases hi
  | pair g3 g4 =>
    cases ru3 with
    | pair h3 _ _ =>
    cases hev
    refine ⟨_, rfl, _, _, 0, _, rfl, rfl, SqT.of h3, at0 _ _, rfl, _, rfl, iteSt ?_⟩
    exact ⟨sl2, fun y hy => err "kind" H3 y f03 sw3 rfl hy⟩
  | prim qn hq =>
    cases ru3 with
    | prim h3 =>
    refine ⟨_, rfl, _, _, 0, _, rfl, rfl, SqT.of h3, at0 _ _, rfl, _, rfl, iteS (by decide) ?_⟩
    refine ⟨_, rfl, _, _, 0, _, rfl, rfl, SqT.of h3, at0 _ _, rfl, _, rfl, iteSt ?_⟩
    refine ⟨_, rfl, _, _, 1, _, rfl, rfl, SqT.of h3, at1 _ _ _, _, rfl, X, qn, p2, us', vs, rfl, hq, ep2, rus3, gv, fun v4 H4 f4 ro => ?_⟩
    have : r = primO qn vs ∧ l' = l1 ∧ s' = s1 := by
      unfold primO
      cases hc : chkF (.prim qn) vs.length with
      | some ws => rw [hc] at hev; cases hev; exact ⟨rfl, rfl, rfl⟩
      | none =>
        rw [hc] at hev
        dsimp only at hev
        cases hp : primF qn vs with
        | ok y => rw [hp] at hev; cases hev; exact ⟨rfl, rfl, rfl⟩
        | error ws => rw [hp] at hev; cases hev; exact ⟨rfl, rfl, rfl⟩
    obtain ⟨rfl, rfl, rfl⟩ := this
    exact q v4 H4 (f03.trans f4.no) (sw3.no f4) ro
  | @fn ns b en fn1 fn2 fn3 fn4 fn5 fn6 fn7 =>
    cases ru3 with
    | @fn ca cq ce cc _ _ kvs2 _ h3 hq3 rt3 he3 ne3 re3 =>
    refine ⟨_, rfl, _, _, 0, _, rfl, rfl, SqT.of h3, at0 _ _, rfl, _, rfl, iteS (by decide) ?_⟩
    refine ⟨_, rfl, _, _, 0, _, rfl, rfl, SqT.of h3, at0 _ _, rfl, _, rfl, iteS (by decide) ?_⟩
    refine ⟨_, rfl, _, _, 1, _, rfl, rfl, SqT.of h3, at1 _ _ _, cq, _, rfl, .inr (SqT.of hq3), _, rfl, p2, _, rfl, .inl (SqL.of ep2), rfl, _, rfl, ?_⟩
    have lmap : (ns.map V.int).length = ns.length := List.length_map _
    by_cases cnt : ns.length = vs.length
    case neg =>
      have hc : chkF (.fnP ns b en) vs.length = some (["error", "count"] : List Str) := by
        unfold chkF
        rw [if_pos (show (isF (Vl.fnP ns b en) || isR (Vl.fnP ns b en)) = true from rfl), if_neg (show ¬ parN (.fnP ns b en) = (vs.length : Int) from fun z => cnt (by have z : ((ns.length : Nat) : Int) = (vs.length : Int) := z; omega))]
      rw [hc] at hev
      cases hev
      rw [decide_eq_false (fun z => cnt (by have := V.int.inj z; rw [lmap, lrus] at this; omega))]
      exact iteT ⟨sl2, fun y hy => err "count" H3 y f03 sw3 rfl hy⟩
    have hc : chkF (.fnP ns b en) vs.length = none := by
      unfold chkF
      rw [if_pos (show (isF (Vl.fnP ns b en) || isR (Vl.fnP ns b en)) = true from rfl), if_pos (show parN (.fnP ns b en) = (vs.length : Int) from (show ((ns.length : Nat) : Int) = (vs.length : Int) by rw [cnt]))]
    rw [hc] at hev
    dsimp only at hev
    have eo2 : EOk en := ⟨fn4, fn5, fn6⟩
    have le2 := eo2.len
    rw [if_pos (show en.length + ns.length ≤ 1000000 by omega)] at hev
    rw [decide_eq_true (show V.int ((ns.map V.int).length : Nat) = V.int (us'.length : Nat) by rw [lmap, lrus, cnt])]
    refine iteF ?_
    refine ⟨_, rfl, _, rfl, _, rfl, .inr ⟨_, rfl, _, _, rfl, rfl, ?_⟩⟩
    have ed : ((d : Nat) : Int) + (if (!last) = true then (1 : Int) else 0) = ((d + if last = true then 0 else 1 : Nat) : Int) := by cases last <;> simp
    dsimp only
    rw [ed]
    generalize hd2 : (d + if last = true then 0 else 1 : Nat) = d2 at hev ⊢
    refine ⟨_, rfl, W, _, rfl, sw3.deep, _, rfl, _, _, rfl, _, rfl, W, _, rfl, DPut.k (k := Sum.inr "deepest") sw3.w (by show 3 < sizeLine; decide), ?_⟩
    rw [wd_deep (s2 := max s1 d2) (by split <;> omega)]
    have fW : Fr (isW W) H3 (upd H3 W (.dK (wdK l1 (max s1 d2) T))) := Fr.set rfl sw3.w rfl
    have sw4 := sw3.put l1 (max s1 d2)
    have hWn := ne3
    have h34 := fW.tup _ _ h3
    have nWce : ¬ isW W ce := fun z => ne3 (by rw [show ce = W from z]; exact pl.sw.xW)
    have he4 := fW.keep nWce rfl he3
    have nWp2 : ¬ isW W p2 := fun z => by
      have hz : p2 = W := z
      have := sw2.w
      rw [← hz, hp2] at this
      cases this
    have ep4 := fW.keep nWp2 rfl ep2
    have re4 := re3.fr (sw3.wide fW)
    have rus4 := RLs.fr (sw3.wide fW) rus3
    have rt4 := rt3.keep fW.tup
    have hq4 := fW.tup _ _ hq3
    generalize upd H3 W (.dK (wdK l1 (max s1 d2) T)) = H4 at fW sw4 h34 he4 ep4 re4 rus4 rt4 hq4 ⊢
    have f04 := f03.trans fW
    refine ⟨_, rfl, _, _, 2, _, rfl, rfl, SqT.of h34, atI_nat (j := 2) rfl, _, rfl, _, _, 3, _, rfl, rfl, SqT.of h34, atI_nat (j := 3) rfl, _, rfl, _, _, 1, _, rfl, rfl, SqT.of h34, at1 _ _ _, _, rfl, ?_⟩
    refine ⟨X, ce, cq, p2, kvs2, en, ns, us', vs, rfl, he4, re4, hq4, ep4, rus4, cnt, by omega, by omega, fun p5 H5 lvs f5 hp5 hp5' re5 => ?_⟩
    refine ⟨_, rfl, _, rfl, ?_⟩
    have le1 := (evL_le (fun t l s x l' s' e => evT_le _ _ _ _ _ _ _ _ _ _ _ e) _ _ _ _ _ _ hx).1
    refine ⟨X, W, T, p5, gl, evPuts ns vs en, cc, b, fu, l1, max s1 d2, d2, true, r, l', s', rfl, ⟨sw4.no f5, ⟨lvs, hp5', re5⟩, sw4.gone hp5, eo2.puts fn2 gv, pl.g⟩, rt4.keep f5.tup, fn3, fun x hx => evGet_puts cnt (fn7 x hx), by omega, by omega, hev, fun v6 H6 f6 sw6 ro => ?_⟩
    exact q v6 H6 (f04.trans (f5.no.trans f6)) sw6 ro
end
end My
namespace My
open PySem PySem.Spec PyProof.Rows L2 TL
/-! ### _law_run -/
theorem gl_key {m x : Str} (hm : m ∈ globM) (hx : x ∈ globX) : m.length + (".":Str).length ≤ sizeLine ∧ (m ++ "." : Str).length + x.length ≤ sizeLine := by
  simp only [globM, globX, List.mem_cons, List.not_mem_nil, or_false] at hm hx
  rcases hm with e | e | e <;> rcases hx with g | g | g | g <;> subst e <;> subst g <;> exact ⟨by decide, by decide⟩
section
variable {P : Program} {w : World} {K : PySem.W.Frag} {mg : Str → Option Value} {base : Heap}
theorem scLru : FnScope NLru ["core", "around", "world", "depth", "last"] (defScope sLru) := ⟨rfl, rfl, rfl, by decide +kernel, rfl, by decide +kernel, by decide +kernel⟩
theorem ok_lru {f fR fA fW fC : Addr} {fd dR dA dW dC : FuncData} {n k : Nat} {sR sA sC : Sp} (hk : 3 ≤ k) (hM : n = 0 ∨ ∃ m, n = m + 1 ∧ sR = spRun m ∧ sA = spAlx false m ∧ sC = spCal m) (F : Fun K "_law_run" "_law_run" sLru f fd) (B : Blt mg) (GR : CalF P w K mg base CX0 k "_law_run" ["core", "around", "world", "depth", "last"] sR fR dR) (GA : CalF P w K mg base CX0 k "_law_all" ["parts", "around", "world", "depth"] sA fA dA)
    (GC : CalF P w K mg base CX0 k "_law_call" ["core", "around", "world", "depth", "last"] sC fC dC) (GW : Cal P w K mg base CX0 1 "_law_with" ["around", "numbers", "values"] (spLwi false) fW dW) : FnF P w K mg base CX0 (k + 1) f fd ["core", "around", "world", "depth", "last"] (spRun n) := by
  refine okFF F scLru (fun vs H Q E h => ?_) (fun cdv A outer s0 H vs Q E hr h => ?_)
  · obtain ⟨X, W, T, e, gl, env, c, t, f, l, s, d, last, r, l', s', rfl, _⟩ := h
    rfl
  obtain ⟨X, W, T, e, gl, env, c, t, fu, l, s, d, last, r, l', s', rfl, pl, rt, gd, cov, ln, lf, hev, q⟩ := h
  have nd := scLru.nd
  have hu := huF hr
  have hu0 : _ < cLine := unF hr
  have r1 : Room 1 _ := hr.small (j := 1) (by omega)
  refine ⟨_, (pss_cons (ps_if (pt_cmpR op_le (pe_dget hu (pv 2) pe_str (fun _ _ => rfl)) pe_int (nomark _)) (pss_one (ps_ret (pe_tup (pa_cons pe_str pa_nil)))) pss_nil)
    (pss_cons (ps_dput hu (pv 2) pe_str (pe_op op_sub (pe_dget hu (pv 2) pe_str (fun _ _ => rfl)) pe_int) rfl)
    (pss_cons (ps_set (i := 5) nd rfl (Or.inl rfl) (pe_ix (r := rIxT K) ix_tup (pv 0) pe_int (fun _ _ => rfl)))
    (pss_cons (ps_if (pt_cmpR op_eq (pv 5) pe_str (nomark _)) (pss_one (ps_ret (pe_tup (pa_cons pe_str (pa_cons (pe_ix (r := rIxT K) ix_tup (pv 0) pe_int (fun _ _ => rfl)) pa_nil))))) pss_nil)
    (pss_cons (ps_if (pt_cmpR op_eq (pv 5) pe_str (nomark _)) (pss_one (ps_ret (pe_tup (pa_cons pe_str (pa_cons (pe_dget hu (pv 1) (pe_ix (r := rIxT K) ix_tup (pv 0) pe_int (fun _ _ => rfl)) (fun _ _ => rfl)) pa_nil))))) pss_nil)
    (pss_cons (ps_if (pt_cmpR op_eq (pv 5) pe_str (nomark _)) (pss_cons (ps_if (pt_cmp (pc_dnotin hu (pe_op op_add_str (pe_op op_add_str (pe_ix (r := rIxT K) ix_tup (pv 0) pe_int (fun _ _ => rfl)) pe_str) (pe_ix (r := rIxT K) ix_tup (pv 0) pe_int (fun _ _ => rfl))) (pe_dget hu (pv 2) pe_str (fun _ _ => rfl)))) (pss_one (ps_ret (pe_tup (pa_cons pe_str (pa_cons pe_str pa_nil))))) pss_nil)
      (pss_one (ps_ret (pe_tup (pa_cons pe_str (pa_cons (pe_dget hu (pe_dget hu (pv 2) pe_str (fun _ _ => rfl)) (pe_op op_add_str (pe_op op_add_str (pe_ix (r := rIxT K) ix_tup (pv 0) pe_int (fun _ _ => rfl)) pe_str) (pe_ix (r := rIxT K) ix_tup (pv 0) pe_int (fun _ _ => rfl))) (fun _ _ => rfl)) pa_nil)))))) pss_nil)
    (pss_cons (ps_if (pt_cmpR op_eq (pv 5) pe_str (nomark _)) (pss_one (ps_ret (pe_tup (pa_cons pe_str (pa_cons (pv 0) pa_nil))))) pss_nil)
    (pss_cons (ps_if (pt_cmpR op_eq (pv 5) pe_str (nomark _)) (pss_one (ps_ret (pe_tup (pa_cons pe_str (pa_cons (pe_tup (pa_cons pe_str (pa_cons (pe_ix (r := rIxT K) ix_tup (pv 0) pe_int (fun _ _ => rfl)) (pa_cons (pe_ix (r := rIxT K) ix_tup (pv 0) pe_int (fun _ _ => rfl)) (pa_cons (pv 1) pa_nil))))) pa_nil))))) pss_nil)
    (pss_cons (ps_if (pt_cmpR op_eq (pv 5) pe_str (nomark _)) (pss_one (ps_ret (pe_callF GC.ok hr rfl GC.g GC.k GC.b .nil pass0 (pa_cons (pv 0) (pa_cons (pv 1) (pa_cons (pv 2) (pa_cons (pv 3) (pa_cons (pv 4) pa_nil)))))))) pss_nil)
    (pss_cons (ps_if (pt_cmpR op_eq (pv 5) pe_str (nomark _)) (pss_cons (ps_set (i := 6) nd rfl (Or.inl rfl) (pe_callF GR.ok hr rfl GR.g GR.k GR.b .nil pass0 (pa_cons (pe_ix (r := rIxT K) ix_tup (pv 0) pe_int (fun _ _ => rfl)) (pa_cons (pv 1) (pa_cons (pv 2) (pa_cons (pv 3) (pa_cons pe_bl pa_nil)))))))
      (pss_cons (ps_if (pt_cmpR op_ne (pe_ix (r := rIxT K) ix_tup (pv 6) pe_int (fun _ _ => rfl)) pe_str (nomark _)) (pss_one (ps_ret (pv 6))) pss_nil)
      (pss_one (ps_ret (pe_callF GR.ok hr rfl GR.g GR.k GR.b .nil pass0 (pa_cons (pe_ix (r := rIxT K) ix_tup (pv 0) (pe_op op_add pe_int (pe_callTy call_int1 (by rfl) B.int (by decide +kernel) (pa_cons (pe_cmpR (op_eqT0 hu0) (pe_ix (r := rIxT K) ix_tup (pv 6) pe_int (fun _ _ => rfl)) pe_int (nomark _)) pa_nil))) (fun _ _ => rfl)) (pa_cons (pv 1) (pa_cons (pv 2) (pa_cons (pv 3) (pa_cons (pv 4) pa_nil)))))))))) pss_nil)
    (pss_cons (ps_asg (pe_callF GA.ok hr rfl GA.g GA.k GA.b .nil pass0 (pa_cons (pe_lc (own := [("pair", 8)]) (g := gName 8) (tt := tYes) rfl nd (pi_tup (pe_ix (r := rIxT K) ix_tup (pv 0) pe_int (fun _ _ => rfl))) (blkOk_by (N := NLru) (sc := defScope sLru) (by decide +kernel)) (fun _ _ _ _ _ => (pg_name (i := 8) nd rfl (Or.inl rfl) (hf := Or.inr rfl))) (fun _ _ _ _ _ => pts_nil) (fun _ _ _ _ _ => (pe_ix (r := rIxT K) ix_tup (pv 8) pe_int (fun _ _ => rfl)))) (pa_cons (pv 1) (pa_cons (pv 2) (pa_cons (pv 3) pa_nil))))) (pg_tup rfl (pgs_cons (pg_name (i := 6) nd rfl (Or.inl rfl)) (pgs_cons (pg_name (i := 7) nd rfl (Or.inl rfl)) pgs_nil))))
    (pss_cons (ps_if (pt_cmpR op_notN (pv 6) pe_non (nomark _)) (pss_one (ps_ret (pv 6))) pss_nil)
    (pss_one (ps_ret (pe_callF GR.ok hr rfl GR.g GR.k GR.b .nil pass0 (pa_cons (pe_ix (r := rIxT K) ix_tup (pv 0) pe_int (fun _ _ => rfl)) (pa_cons (pe_call GW.ok r1 rfl GW.g GW.k GW.b .nil pass0 (pa_cons (pv 1) (pa_cons (pe_lc (own := [("pair", 8)]) (g := gName 8) (tt := tYes) rfl nd (pi_tup (pe_ix (r := rIxT K) ix_tup (pv 0) pe_int (fun _ _ => rfl))) (blkOk_by (N := NLru) (sc := defScope sLru) (by decide +kernel)) (fun _ _ _ _ _ => (pg_name (i := 8) nd rfl (Or.inl rfl) (hf := Or.inr rfl))) (fun _ _ _ _ _ => pts_nil) (fun _ _ _ _ _ => (pe_ix (r := rIxT K) ix_tup (pv 8) pe_int (fun _ _ => rfl)))) (pa_cons (pv 7) pa_nil)))) (pa_cons (pv 2) (pa_cons (pv 3) (pa_cons (pv 4) pa_nil)))))))))))))))))))), ?_⟩
  have sw := pl.sw
  refine ⟨_, rfl, W, _, rfl, sw.left, _, _, rfl, rfl, _, rfl, ?_⟩
  cases fu with
  | zero => exact absurd lf (by omega)
  | succ fu =>
  by_cases l0 : l = 0
  · refine ite2 (fun _ => ?_) (fun c => absurd (decide_eq_true (show (l : Int) ≤ 0 by omega)) c)
    unfold evT at hev
    rw [if_pos l0] at hev
    cases hev
    rw [l0] at sw
    exact ⟨sl1, fun y hy => q _ _ (Fr.new hy) (sw.no (Fr.new hy)) ⟨y, rfl, upd_same, .inl rfl⟩⟩
  refine ite2 (fun c => absurd (of_decide_eq_true c) (by omega)) (fun _ => ?_)
  obtain ⟨m, rfl, rfl, rfl, rfl⟩ := hM.resolve_left (by omega)
  obtain ⟨l, rfl⟩ : ∃ l1, l = l1 + 1 := ⟨l - 1, by omega⟩
  refine ⟨_, rfl, W, _, rfl, sw.left, _, _, rfl, rfl, _, rfl, W, _, rfl, DPut.k (k := Sum.inr "left") sw.w (by show 3 < sizeLine; decide), ?_⟩
  rw [wd_left (l2 := l) (by omega)]
  have f1 : Fr (isW W) H (upd H W (.dK (wdK l s T))) := Fr.set rfl sw.w rfl
  have sw1 := sw.put l s
  have pl1 := pl.fr f1 sw1
  have rt1 := rt.keep f1.tup
  generalize upd H W (.dK (wdK l s T)) = H1 at f1 sw1 pl1 rt1 ⊢
  clear sw pl rt
  obtain ⟨kvs, he, re⟩ := pl1.he
  have fin : ∀ (v : Vl) (u : V) (H2 : Hp) (y : Addr), Fr (isW W) H1 H2 → Sw X H2 W T l' s' gl → r = .val v → RL X H2 u v → H2 y = none → Q (.ref y) (upd H2 y (.tup [.str "value", u])) := fun v u H2 y f sw er rl hy =>
    q _ _ (f1.trans (f.trans (Fr.new hy))) (sw.no (Fr.new hy)) (by rw [er]; exact ⟨y, u, rfl, upd_same, rl.fr (Fr.new hy)⟩)
  cases rt1 with
  | @int a i ha =>
    have h40 : i.natAbs ≤ 10 ^ 40 := gd
    have h60 : i.natAbs ≤ 10 ^ 60 := Nat.le_trans h40 (by decide +kernel)
    unfold evT at hev
    rw [if_neg (by omega)] at hev
    dsimp only at hev
    rw [if_pos h60] at hev
    cases hev
    refine ⟨_, rfl, a, _, 0, _, rfl, rfl, SqT.of ha, at0 _ _, ?_⟩
    refine ⟨_, rfl, rfl, _, rfl, iteSt ?_⟩
    exact ⟨_, rfl, a, _, 1, _, rfl, rfl, SqT.of ha, at1 _ _ _, sl2, fun y hy => fin _ _ H1 y (Fr.refl _ _) sw1 rfl (.int i) hy⟩
  | @loc a x ha =>
    obtain ⟨v, hv⟩ := cov x rfl
    unfold evT at hev
    rw [if_neg (by omega)] at hev
    dsimp only at hev
    rw [hv] at hev
    cases hev
    obtain ⟨u, hu', ru⟩ := re.get hv
    refine ⟨_, rfl, a, _, 0, _, rfl, rfl, SqT.of ha, at0 _ _, ?_⟩
    refine ⟨_, rfl, rfl, _, rfl, iteS (by decide) ⟨_, rfl, rfl, _, rfl, iteSt ?_⟩⟩
    have dg : DGet H1 e (V.int x) (some u) := by
      have := DGet.k (k := Sum.inl x) he
      rw [hu'] at this
      exact this
    exact ⟨_, rfl, _, rfl, a, _, 1, _, rfl, rfl, SqT.of ha, at1 _ _ _, e, u, rfl, dg, sl2, fun y hy => fin _ _ H1 y (Fr.refl _ _) sw1 rfl ru hy⟩
  | @glob a mm xx ha =>
    obtain ⟨hm, hx⟩ : mm ∈ globM ∧ xx ∈ globX := gd
    obtain ⟨k1, k2⟩ := gl_key hm hx
    obtain ⟨tk, ht, _, hk⟩ := sw1.t.h
    obtain ⟨hk1, hk2⟩ := hk mm hm xx hx
    unfold evT at hev
    rw [if_neg (by omega)] at hev
    dsimp only at hev
    refine ⟨_, rfl, a, _, 0, _, rfl, rfl, SqT.of ha, at0 _ _, ?_⟩
    refine ⟨_, rfl, rfl, _, rfl, iteS (by decide) ⟨_, rfl, rfl, _, rfl, iteS (by decide) ⟨_, rfl, rfl, _, rfl, iteSt ?_⟩⟩⟩
    refine ⟨_, rfl, a, _, 1, _, rfl, rfl, SqT.of ha, at1 _ _ _, _, _, rfl, rfl, k1, _, rfl, a, _, 2, _, rfl, rfl, SqT.of ha, atI_nat (j := 2) rfl, _, _, rfl, rfl, k2, _, rfl, W, _, rfl, sw1.table, T, _, rfl, DGet.k (k := Sum.inr (mm ++ "." ++ xx)) ht, _, rfl, ?_⟩
    cases hg : glGet (mm, xx) gl with
    | none =>
      rw [hg] at hev
      cases hev
      rw [hk2 hg]
      exact iteT ⟨sl2, fun y hy => q _ _ (f1.trans (Fr.new hy)) (sw1.no (Fr.new hy)) ⟨y, rfl, upd_same, .inr ⟨_, rfl⟩⟩⟩
    | some v =>
      rw [hg] at hev
      cases hev
      obtain ⟨u, hu', ru⟩ := hk1 v hg
      rw [hu']
      have dg : DGet H1 T (V.str (mm ++ "." ++ xx)) (some u) := by
        have := DGet.k (k := Sum.inr (mm ++ "." ++ xx)) ht
        rw [hu'] at this
        exact this
      exact iteF ⟨_, rfl, W, _, rfl, sw1.table, _, rfl, a, _, 1, _, rfl, rfl, SqT.of ha, at1 _ _ _, _, _, rfl, rfl, k1, _, rfl, a, _, 2, _, rfl, rfl, SqT.of ha, atI_nat (j := 2) rfl, _, _, rfl, rfl, k2, T, u, rfl, dg, sl2, fun y hy => fin _ _ H1 y (Fr.refl _ _) sw1 rfl ru hy⟩
  | @prim a p ha =>
    unfold evT at hev
    rw [if_neg (by omega)] at hev
    cases hev
    refine ⟨_, rfl, a, _, 0, _, rfl, rfl, SqT.of ha, at0 _ _, ?_⟩
    refine ⟨_, rfl, rfl, _, rfl, iteS (by decide) ⟨_, rfl, rfl, _, rfl, iteS (by decide) ⟨_, rfl, rfl, _, rfl, iteS (by decide) ⟨_, rfl, rfl, _, rfl, iteSt ?_⟩⟩⟩⟩
    exact ⟨_, rfl, sl2, fun y hy => fin _ _ H1 y (Fr.refl _ _) sw1 rfl (.prim ha) hy⟩
  | @fn a q0 v ns b ha hq0 rb =>
    unfold evT at hev
    rw [if_neg (by omega)] at hev
    cases hev
    refine ⟨_, rfl, a, _, 0, _, rfl, rfl, SqT.of ha, at0 _ _, ?_⟩
    refine ⟨_, rfl, rfl, _, rfl, iteS (by decide) ⟨_, rfl, rfl, _, rfl, iteS (by decide) ⟨_, rfl, rfl, _, rfl, iteS (by decide) ⟨_, rfl, rfl, _, rfl, iteS (by decide) ⟨_, rfl, rfl, _, rfl, iteSt ?_⟩⟩⟩⟩⟩
    refine ⟨_, rfl, a, _, 1, _, rfl, rfl, SqT.of ha, at1 _ _ _, _, rfl, a, _, 2, _, rfl, rfl, SqT.of ha, atI_nat (j := 2) rfl, _, rfl, sl4, fun y1 hy1 => ⟨sl2, fun y hy => ?_⟩⟩
    have fy : Fr No H1 (upd H1 y1 (.tup [.str "fn", .ref q0, v, .ref e])) := Fr.new hy1
    exact fin _ _ _ y fy.no (sw1.no fy) rfl (.fn upd_same (fy.tup _ _ hq0) (rb.keep fy.tup) (fy.keep (fun z => z) rfl he) pl1.ne (re.fr fy.no)) hy
  | @call a q0 v us g ts ha hq0 rg rts =>
    refine ⟨_, rfl, a, _, 0, _, rfl, rfl, SqT.of ha, at0 _ _, ?_⟩
    refine ⟨_, rfl, rfl, _, rfl, iteS (by decide) ⟨_, rfl, rfl, _, rfl, iteS (by decide) ⟨_, rfl, rfl, _, rfl, iteS (by decide) ⟨_, rfl, rfl, _, rfl, iteS (by decide) ⟨_, rfl, rfl, _, rfl, iteS (by decide) ⟨_, rfl, rfl, _, rfl, iteSt ?_⟩⟩⟩⟩⟩⟩
    obtain ⟨_, hc⟩ := evT_call (by omega) hev
    exact ⟨_, rfl, _, rfl, _, rfl, _, rfl, _, rfl, X, W, T, e, gl, env, .ref a, g, ts, fu, l, s, d, last, r, l', s', rfl, pl1, .call ha hq0 rg rts, gd, cov, by omega, by omega, hc, fun v H2 f2 sw2 ro => q v H2 (f1.trans f2) sw2 ro⟩
  | @if_ a x y z ta tb tc ha rx ry rz =>
    refine ⟨_, rfl, a, _, 0, _, rfl, rfl, SqT.of ha, at0 _ _, ?_⟩
    refine ⟨_, rfl, rfl, _, rfl, iteS (by decide) ⟨_, rfl, rfl, _, rfl, iteS (by decide) ⟨_, rfl, rfl, _, rfl, iteS (by decide) ⟨_, rfl, rfl, _, rfl, iteS (by decide) ⟨_, rfl, rfl, _, rfl, iteS (by decide) ⟨_, rfl, rfl, _, rfl, iteS (by decide) ⟨_, rfl, rfl, _, rfl, iteSt ?_⟩⟩⟩⟩⟩⟩⟩
    obtain ⟨ga, gb, gc⟩ : gdT ta ∧ gdT tb ∧ gdT tc := gd
    unfold evT at hev
    rw [if_neg (by omega)] at hev
    dsimp only at hev
    rw [Nat.add_sub_cancel] at hev
    cases hx : evT fu gl env ta l s d false with
    | none => rw [hx] at hev; cases hev
    | some p =>
    obtain ⟨r2, l2, s2⟩ := p
    rw [hx] at hev
    have le2 := (evT_le _ _ _ _ _ _ _ _ _ _ _ hx).1
    refine ⟨_, rfl, a, _, 1, _, rfl, rfl, SqT.of ha, at1 _ _ _, _, rfl, _, rfl, _, rfl, ?_⟩
    refine ⟨X, W, T, e, gl, env, x, ta, fu, l, s, d, false, r2, l2, s2, rfl, pl1, rx, ga, fun x hx => cov x (.inl hx), by omega, by omega, hx, fun v H2 f2 sw2 ro => ?_⟩
    have ha2 := f2.tup _ _ ha
    cases r2 with
    | out ws =>
      dsimp only at hev
      cases hev
      obtain ⟨o, rfl, ho, hok⟩ := ro
      have hw : ∃ w0 wr, ws = w0 :: wr ∧ w0 ≠ "value" := by
        rcases hok with e | ⟨x, e⟩
        · exact ⟨_, _, e, by decide⟩
        · exact ⟨_, _, e, by decide⟩
      obtain ⟨w0, wr, rfl, hne⟩ := hw
      refine ⟨_, rfl, o, _, 0, _, rfl, rfl, SqT.of ho, at0 _ _, rfl, _, rfl, ?_⟩
      rw [decide_eq_false (fun z => hne (V.str.inj z))]
      exact iteT ⟨_, rfl, q _ H2 (f1.trans f2) sw2 ⟨o, rfl, ho, hok⟩⟩
    | val v0 =>
      dsimp only at hev
      obtain ⟨o, u, rfl, ho, ru⟩ := ro
      refine ⟨_, rfl, o, _, 0, _, rfl, rfl, SqT.of ho, at0 _ _, rfl, _, rfl, ?_⟩
      rw [decide_eq_true rfl]
      refine iteF ?_
      refine ⟨_, rfl, _, rfl, o, _, 1, _, rfl, rfl, SqT.of ho, at1 _ _ _, ?_⟩
      refine eqT0_zero ru ?_
      refine .inr ⟨_, rfl, _, _, rfl, rfl, a, _, _, if zeroV v0 = true then z else y, rfl, rfl, SqT.of ha2, ?_, _, rfl, _, rfl, _, rfl, _, rfl, ?_⟩
      · cases zeroV v0 <;> rfl
      refine ⟨X, W, T, e, gl, env, if zeroV v0 = true then z else y, if zeroV v0 = true then tc else tb, fu, l2, s2, d, last, r, l', s', rfl, pl1.fr f2 sw2, ?_, ?_, ?_, by omega, by omega, hev, fun v H3 f3 sw3 ro3 => q v H3 (f1.trans (f2.trans f3)) sw3 ro3⟩
      · cases zeroV v0
        · exact ry.keep f2.tup
        · exact rz.keep f2.tup
      · cases zeroV v0
        · exact gb
        · exact gc
      · cases zeroV v0
        · exact fun x hx => cov x (.inr (.inl hx))
        · exact fun x hx => cov x (.inr (.inr hx))
  | @let_ a q0 v vs ns ts b ha hq0 rp rb =>
    refine ⟨_, rfl, a, _, 0, _, rfl, rfl, SqT.of ha, at0 _ _, ?_⟩
    refine ⟨_, rfl, rfl, _, rfl, iteS (by decide) ⟨_, rfl, rfl, _, rfl, iteS (by decide) ⟨_, rfl, rfl, _, rfl, iteS (by decide) ⟨_, rfl, rfl, _, rfl, iteS (by decide) ⟨_, rfl, rfl, _, rfl, iteS (by decide) ⟨_, rfl, rfl, _, rfl, iteS (by decide) ⟨_, rfl, rfl, _, rfl, iteS (by decide) ?_⟩⟩⟩⟩⟩⟩⟩
    obtain ⟨gn, gl2, gnm, gts, gb⟩ : ns.length ≤ 5 ∧ ns.length = ts.length ∧ (∀ n ∈ ns, nmOk n) ∧ gdTs ts ∧ gdT b := gd
    have le0 := pl1.ok.len
    unfold evT at hev
    rw [if_neg (by omega)] at hev
    dsimp only at hev
    rw [if_pos ⟨by omega, gl2, by omega⟩, Nat.add_sub_cancel] at hev
    cases hx : evL (fun t l s => evT fu gl env t l s d false) ts l s with
    | none => rw [hx] at hev; cases hev
    | some p =>
    obtain ⟨r2, l2, s2⟩ := p
    rw [hx] at hev
    have le2 := (evL_le (fun t l s x l' s' e => evT_le _ _ _ _ _ _ _ _ _ _ _ e) _ _ _ _ _ _ hx).1
    have gall : ∀ t ∈ ts, gdT t ∧ covT t env := fun t m => ⟨gdTs_mem gts t m, fun x hx => cov x (.inl (fvs_mem.mpr ⟨t, m, hx⟩))⟩
    obtain ⟨lv1, lv2⟩ := rp.len
    -- the parts in a list
    refine ⟨_, rfl, a, _, 1, _, rfl, rfl, SqT.of ha, at1 _ _ _, q0, rfl, ⟨_, SqT.of hq0⟩, fun D hD => ?_⟩
    refine lc_tup (xs := vs) (fun i H' => ∃ us, H' D = some (.lst us) ∧ RTs H' us (ts.take i) ∧ us.length = i ∧ Fr No H1 H') ⟨[], upd_same, by rw [List.take_zero]; exact .nil, rfl, Fr.new hD⟩ (fun i H' _ ⟨_, _, _, _, z⟩ => SqT.of (z.tup _ _ hq0)) ?_ ?_
    · rintro i y H' hi ⟨us, k1, k2, k3, k4⟩
      obtain ⟨pq, x0, n0, t0, rfl, hp0, hn0, ht0, rt0⟩ := rp.get hi
      have il : i < vs.length := (List.getElem?_eq_some_iff.mp hi).1
      have fm : Fr (fun b => b = D) H' (upd H' D (.lst (us ++ [x0]))) := Fr.set rfl k1 rfl
      refine ⟨rfl, _, rfl, pq, _, 1, _, rfl, rfl, SqT.of (k4.tup _ _ hp0), at1 _ _ _, us, k1, Nat.lt_of_le_of_lt (show us.length ≤ 1000000 by omega) (by decide), us ++ [x0], upd_same, ?_, by simp [k3], k4.mut hD k1 rfl⟩
      rw [take_more ht0]
      exact (k2.keep fm.tup).snoc (rt0.keep (k4.tup.trans fm.tup))
    rintro H2 ⟨us, k1, k2, k3, k4⟩
    rw [show vs.length = ts.length by omega, List.take_length] at k2
    have sw2 := sw1.no k4
    refine ⟨_, rfl, _, rfl, _, rfl, ?_⟩
    refine ⟨X, W, T, e, D, gl, env, us, ts, fu, l, s, d, r2, l2, s2, rfl, pl1.fr k4.no sw2, k1, sw1.gone hD, k2, gall, by omega, by omega, by omega, hx, fun a' H3 f3 sw3 ao => ?_⟩
    have f13 : Fr (isW W) H1 H3 := k4.no.trans f3
    have ha3 := f13.tup _ _ ha
    cases r2 with
    | inr ws =>
      dsimp only at hev
      cases hev
      obtain ⟨o, D2, ha', ho, hok⟩ := ao
      refine ⟨a', _, rfl, SqT.of ha', rfl, _, _, rfl, _, _, rfl, rfl, ?_⟩
      refine ⟨_, rfl, rfl, _, rfl, ?_⟩
      rw [decide_eq_false (show ¬ V.ref o = V.non from fun z => by cases z)]
      exact iteT ⟨_, rfl, q _ H3 (f1.trans f13) sw3 ⟨o, rfl, ho, hok⟩⟩
    | inl ys =>
    dsimp only at hev
    obtain ⟨D2, uu, ha', hD2, al, nXD2⟩ := ao
    refine ⟨a', _, rfl, SqT.of ha', rfl, _, _, rfl, _, _, rfl, rfl, ?_⟩
    refine ⟨_, rfl, rfl, _, rfl, ?_⟩
    rw [decide_eq_true rfl]
    refine iteF ?_
    obtain ⟨_, _, _, eL, _, gvs, _⟩ := evL_tot (R := fun t l s => evT fu gl env t l s d false) (l0 := l) ts l s (fun t m l2 s2 hl2 => evT_tot _ gl env t l2 s2 d false (gall t m).1 pl1.ok (gall t m).2 pl1.g (by omega)) (Nat.le_refl _)
    rw [hx] at eL
    cases eL
    obtain ⟨lvs, gvs⟩ := gvs _ rfl
    have pl3 := pl1.fr f13 sw3
    obtain ⟨kvs3, he3, re3⟩ := pl3.he
    have hq3 := f13.tup _ _ hq0
    -- core[2], then the names in a list
    refine ⟨_, rfl, a, _, 2, _, rfl, rfl, SqT.of ha3, atI_nat (j := 2) rfl, _, rfl, _, rfl, a, _, 1, _, rfl, rfl, SqT.of ha3, at1 _ _ _, q0, rfl, ⟨_, SqT.of hq3⟩, fun D3 hD3 => ?_⟩
    refine lc_tup (xs := vs) (fun i H' => H' D3 = some (.lst ((ns.take i).map V.int)) ∧ Fr No H3 H') ⟨by rw [List.take_zero]; exact upd_same, Fr.new hD3⟩ (fun i H' _ ⟨_, z⟩ => SqT.of (z.tup _ _ hq3)) ?_ ?_
    · rintro i y H' hi ⟨k1, k4⟩
      obtain ⟨pq, x0, n0, t0, rfl, hp0, hn0, ht0, rt0⟩ := rp.get hi
      have il : i < vs.length := (List.getElem?_eq_some_iff.mp hi).1
      refine ⟨rfl, _, rfl, pq, _, 0, _, rfl, rfl, SqT.of (k4.tup _ _ (f13.tup _ _ hp0)), at0 _ _, _, k1, Nat.lt_of_le_of_lt (show _ ≤ 1000000 by rw [List.length_map, List.length_take]; omega) (by decide), ?_, k4.mut hD3 k1 rfl⟩
      rw [upd_same, take_more hn0, List.map_append]
      rfl
    rintro H4 ⟨k1, k4⟩
    rw [show vs.length = ns.length by omega, List.take_length] at k1
    have sw4 := sw3.no k4
    refine ⟨_, rfl, ?_⟩
    refine ⟨X, e, D3, D2, kvs3, env, ns, uu, ys, rfl, k4.keep (fun z => z) rfl he3, re3.fr k4.no, k1, k4.keep (fun z => z) rfl hD2, RLs.fr k4.no al, by omega, by omega, by omega, fun p5 H5 lvs5 f5 hp5 hp5' re5 => ?_⟩
    refine ⟨_, rfl, _, rfl, _, rfl, ?_⟩
    have f35 := k4.trans f5
    refine ⟨X, W, T, p5, gl, evPuts ns ys env, v, b, fu, l2, s2, d, last, r, l', s', rfl, ⟨sw4.no f5, ⟨lvs5, hp5', re5⟩, sw4.gone hp5, pl1.ok.puts gnm gvs, pl1.g⟩, rb.keep (f13.tup.trans f35.tup), gb, fun x hx => evGet_puts (by omega) (by
      by_cases c : x ∈ ns
      · exact .inl c
      · exact .inr (cov x (.inr ⟨hx, c⟩))), by omega, by omega, hev, fun v6 H6 f6 sw6 ro => ?_⟩
    exact q v6 H6 (f1.trans (f13.trans (f35.no.trans f6))) sw6 ro
end
section
variable {P : Program} {w : World} {K : PySem.W.Frag} {mg : Str → Option Value} {base : Heap}
theorem noF {CX : CXT} {k : Nat} {f : Addr} {fd : FuncData} {ps : List Str} : FnF P w K mg base CX k f fd ps (fun _ _ _ _ => False) := ⟨fun _ _ _ _ h => h.elim, fun _ _ _ _ _ _ _ _ _ _ _ _ _ h => h.elim⟩
/-- the law's evaluation, by the steps -/
theorem run_all {fR fA fC fW fP : Addr} {dR dA dC dW dP : FuncData} (B : Blt mg) (B2 : Bl2 mg) (FR : Fun K "_law_run" "_law_run" sLru fR dR) (FA : Fun K "_law_all" "_law_all" sLal fA dA) (FC : Fun K "_law_call" "_law_call" sLca fC dC) (FW : Fun K "_law_with" "_law_with" sLwi fW dW) (FP : Fun K "_law_prim" "_law_prim" sLpr fP dP)
    (gR : mg "_law_run" = some (.ref fR)) (gA : mg "_law_all" = some (.ref fA)) (gC : mg "_law_call" = some (.ref fC)) (gW : mg "_law_with" = some (.ref fW)) (gP : mg "_law_prim" = some (.ref fP)) (bR : Binds K dR ["core", "around", "world", "depth", "last"] []) (bA : Binds K dA ["parts", "around", "world", "depth"] []) (bC : Binds K dC ["core", "around", "world", "depth", "last"] [])
    (bW : Binds K dW ["around", "numbers", "values"] []) (bP : Binds K dP ["name", "values"] []) : ∀ n : Nat, FnF P w K mg base CX0 (3 * n + 4) fR dR ["core", "around", "world", "depth", "last"] (spRun n)
  | 0 => FnF.mono (ok_lru (k := 3) (n := 0) (sR := fun _ _ _ _ => False) (sA := fun _ _ _ _ => False) (sC := fun _ _ _ _ => False) (by omega) (.inl rfl) FR B ⟨noF, FR.kp, gR, bR⟩ ⟨noF, FA.kp, gA, bA⟩ ⟨noF, FC.kp, gC, bC⟩ ⟨ok_lwL FW B B2, FW.kp, gW, bW⟩) (by omega)
  | n + 1 => by
    have r := run_all B B2 FR FA FC FW FP gR gA gC gW gP bR bA bC bW bP n
    have aT := ok_alT (n := n) (k := 3 * n + 4) (by omega) (fun _ _ _ _ h => h) FA ⟨r, FR.kp, gR, bR⟩
    have aL := ok_alL (n := n) (k := 3 * n + 4) (by omega) (fun _ _ _ _ h => h) FA ⟨r, FR.kp, gR, bR⟩
    have c := ok_lca (n := n) (k := 3 * n + 5) (by omega) FC B B2 ⟨r.mono (by omega), FR.kp, gR, bR⟩ ⟨aT.mono (by omega), FA.kp, gA, bA⟩ ⟨ok_lwT FW B B2, FW.kp, gW, bW⟩ ⟨ok_lpr FP B, FP.kp, gP, bP⟩
    exact FnF.mono (ok_lru (n := n + 1) (k := 3 * n + 6) (by omega) (.inr ⟨n, rfl, rfl, rfl, rfl⟩) FR B ⟨r.mono (by omega), FR.kp, gR, bR⟩ ⟨aL.mono (by omega), FA.kp, gA, bA⟩ ⟨c, FC.kp, gC, bC⟩ ⟨ok_lwL FW B B2, FW.kp, gW, bW⟩) (by omega)
end
end My
namespace My
open PySem PySem.Spec PyProof.Rows L2 TL
/-! ### _law_shown, _law_due -/
abbrev sLsw : Stmt := top 56
abbrev NLsw : List Str := ["value", "depth", "left", "first"]
def spLsw : Nat → Sp
  | 0 => fun _ _ _ _ => False
  | d + 1 => fun vs H Q _ => ∃ (X : Addr → Prop) (F : Addr) (v : V) (x : Vl) (ar c : Nat), vs = [v, .int ar, .ref F] ∧ RL X H v x ∧ H F = some (.lst [.int (300 - (c : Nat))]) ∧ 60 ≤ ar + d ∧
    ∀ u H', Fr (fun b => b = F) H H' → H' F = some (.lst [.int (300 - ((showF x ar c).2 : Nat))]) → RSh H' u (showF x ar c).1 → Q u H'
def ROs (H : Hp) (o : Addr) : Rs → Prop
  | .val x => ∃ u, H o = some (.tup [.str "value", u]) ∧ RSh H u (showF x 0 0).1
  | .out ws => H o = some (.tup (ws.map V.str)) ∧ wsOk ws
abbrev sDu : Stmt := top 57
abbrev NDu : List Str := ["definitions", "core", "most", "world", "module", "name", "body", "told", "table"]
def spDu : Sp := fun vs H Q _ => ∃ (D : Addr) (us : List V) (c : V) (ds : List ((Str × Str) × Tr)) (t : Tr) (m : Nat) (r : Rs) (l' s' : Nat), vs = [.ref D, c, .int (m : Nat)] ∧ H D = some (.lst us) ∧ Als (RDg H) us ds ∧ RT H c t ∧ PgOk ds t ∧ m ≤ 150 ∧ evP 151 ds t [] m 1 = some (r, l', s') ∧
  ∀ a o H', Fr No H H' → H' a = some (.tup [.ref o, .int ((m : Int) - (l' : Nat)), .int (s' : Nat)]) → ROs H' o r → Q (.ref a) H'
theorem glk_inj {m x m' x' : Str} (h1 : m ∈ globM) (h2 : x ∈ globX) (h3 : m' ∈ globM) (h4 : x' ∈ globX) (e : (m ++ "." ++ x : Str) = m' ++ "." ++ x') : m = m' ∧ x = x' := by
  have key : ∀ m ∈ globM, ∀ x ∈ globX, ∀ m' ∈ globM, ∀ x' ∈ globX, (m ++ "." ++ x : Str) = m' ++ "." ++ x' → m = m' ∧ x = x' := by decide +kernel
  exact key m h1 x h2 m' h3 x' h4 e
section
variable {P : Program} {w : World} {K : PySem.W.Frag} {mg : Str → Option Value} {base : Heap}
theorem scLsw : FnScope NLsw ["value", "depth", "left"] (defScope sLsw) := ⟨rfl, rfl, rfl, by decide +kernel, rfl, by decide +kernel, by decide +kernel⟩
theorem ok_lsw {f : Addr} {fd : FuncData} (F : Fun K "_law_shown" "_law_shown" sLsw f fd) (B : Blt mg) (gS : mg "_law_shown" = some (.ref f)) (kS : PySem.W.keepIn K (.ref f) = true) (bS : Binds K fd ["value", "depth", "left"] []) : ∀ n : Nat, FnOk P w K mg base CX0 n f fd ["value", "depth", "left"] (spLsw n)
  | 0 => fn_none
  | n + 1 => by
    have IH : Cal P w K mg base CX0 n "_law_shown" ["value", "depth", "left"] (spLsw n) f fd := ⟨ok_lsw F B gS kS bS n, kS, gS, bS⟩
    refine F.ok scLsw (fun vs H Q E h => ?_) (fun cdv A outer s H vs Q E hr h => ?_)
    · obtain ⟨X, Fa, v, x, ar, c, rfl, _⟩ := h
      rfl
    obtain ⟨X, Fa, v, x, ar, c, rfl, rv, hF, le, q⟩ := h
    have nd := scLsw.nd
    refine ⟨_, (pss_cons (ps_if (pt_val (pe_callB call_isi (by rfl) B.isinstance (by decide +kernel) (pa_cons (pv 0) (pa_cons (pe_bltn (v := .ty "int") (by rfl) B.int (by decide +kernel) rfl) pa_nil)))) (pss_one (ps_ret (pv 0))) pss_nil)
    (pss_cons (ps_if (pt_cmpR op_ne (pe_ix (r := rIxT K) ix_tup (pv 0) pe_int (fun _ _ => rfl)) pe_str (nomark _)) (pss_one (ps_ret pe_str)) pss_nil)
    (pss_cons (ps_if (PW.pt (pw_or (pt_cmpR op_gt (pv 1) pe_int (nomark _)) (pw_or1 (pt_cmpR op_eq (pe_ix (r := rIxL K) ix_list (pv 2) pe_int (fun _ _ => rfl)) pe_int (nomark _))))) (pss_one (ps_ret pe_str)) pss_nil)
    (pss_cons (ps_asg (pe_op op_sub (pe_ix (r := rIxL K) ix_list (pv 2) pe_int (fun _ _ => rfl)) pe_int) (pg_sub (pv 2) pe_int set_list))
    (pss_cons (ps_set (i := 3) nd rfl (Or.inl rfl) (pe_call IH.ok hr rfl IH.g IH.k IH.b .nil pass0 (pa_cons (pe_ix (r := rIxT K) ix_tup (pv 0) pe_int (fun _ _ => rfl)) (pa_cons (pe_op op_add (pv 1) pe_int) (pa_cons (pv 2) pa_nil)))))
    (pss_one (ps_ret (pe_tup (pa_cons pe_str (pa_cons (pv 3) (pa_cons (pe_call IH.ok hr rfl IH.g IH.k IH.b .nil pass0 (pa_cons (pe_ix (r := rIxT K) ix_tup (pv 0) pe_int (fun _ _ => rfl)) (pa_cons (pe_op op_add (pv 1) pe_int) (pa_cons (pv 2) pa_nil)))) pa_nil))))))))))), ?_⟩
    have notPair : ∀ (a : Addr) (w0 : Str) (xs : List V), H a = some (.tup (.str w0 :: xs)) → v = .ref a → w0 ≠ "pair" → showF x ar c = (.fn, c) → True := fun _ _ _ _ _ _ _ => trivial
    cases rv with
    | int i =>
      refine ⟨_, rfl, _, _, _, _, true, rfl, .ty "int", .base (.int i), kit_ty (show kitB "int" "int" = some true by decide +kernel), _, rfl, iteT ?_⟩
      exact ⟨_, rfl, q _ H (Fr.refl _ _) hF (.int i)⟩
    | @prim a p ha =>
      refine ⟨_, rfl, _, _, _, _, false, rfl, .ty "int", .base (.tup ha), kit_ty (show kitB "tuple" "int" = some false by decide +kernel), _, rfl, iteF ?_⟩
      refine ⟨_, rfl, a, _, 0, _, rfl, rfl, SqT.of ha, at0 _ _, rfl, _, rfl, ?_⟩
      rw [decide_eq_false (show ¬ V.str "prim" = V.str "pair" from fun z => absurd (V.str.inj z) (by decide))]
      exact iteT (q _ H (Fr.refl _ _) hF .fn)
    | @fn a q0 e cc ns b kvs env ha hq rt he ne re =>
      refine ⟨_, rfl, _, _, _, _, false, rfl, .ty "int", .base (.tup ha), kit_ty (show kitB "tuple" "int" = some false by decide +kernel), _, rfl, iteF ?_⟩
      refine ⟨_, rfl, a, _, 0, _, rfl, rfl, SqT.of ha, at0 _ _, rfl, _, rfl, ?_⟩
      rw [decide_eq_false (show ¬ V.str "fn" = V.str "pair" from fun z => absurd (V.str.inj z) (by decide))]
      exact iteT (q _ H (Fr.refl _ _) hF .fn)
    | @pair t y1 y2 y z ht r1 r2 =>
      refine ⟨_, rfl, _, _, _, _, false, rfl, .ty "int", .base (.tup ht), kit_ty (show kitB "tuple" "int" = some false by decide +kernel), _, rfl, iteF ?_⟩
      refine ⟨_, rfl, t, _, 0, _, rfl, rfl, SqT.of ht, at0 _ _, rfl, _, rfl, ?_⟩
      rw [decide_eq_true rfl]
      refine iteF ?_
      unfold showF at q
      refine ⟨_, rfl, _, _, rfl, rfl, _, rfl, ?_⟩
      refine ite2 (fun c1 => ?_) (fun c1 => ?_)
      · have c2 : 59 < ar := by have := of_decide_eq_true c1; omega
        rw [if_pos (.inl c2)] at q
        exact iteT (q _ H (Fr.refl _ _) hF .more)
      refine ⟨_, rfl, Fa, _, 0, _, rfl, rfl, SqL.of hF, at0 _ _, rfl, _, rfl, ?_⟩
      refine ite2 (fun c2 => ?_) (fun c2 => ?_)
      · have c3 : c = 300 := by have := v_int c2; omega
        rw [if_pos (.inr c3)] at q
        exact q _ H (Fr.refl _ _) hF .more
      have n1 : ¬ (59 < ar ∨ c = 300) := fun o => by
        rcases o with o | o
        · exact c1 (decide_eq_true (by omega))
        · exact c2 (decide_eq_true (by rw [o]; rfl))
      rw [if_neg n1] at q
      refine ⟨_, rfl, Fa, _, 0, _, rfl, rfl, SqL.of hF, at0 _ _, _, _, rfl, rfl, ?_⟩
      refine ⟨_, rfl, Fa, _, _, 0, rfl, rfl, hF, rfl, ?_⟩
      have ef : (300 - (c : Int) - 1) = 300 - ((c + 1 : Nat) : Int) := by omega
      have f1 : Fr (fun b => b = Fa) H (upd H Fa (.lst [.int (300 - ((c + 1 : Nat) : Int))])) := Fr.set rfl hF rfl
      have hF1 : upd H Fa (.lst [.int (300 - ((c + 1 : Nat) : Int))]) Fa = some (.lst [.int (300 - ((c + 1 : Nat) : Int))]) := upd_same
      have kp : ∀ {H1 H2 : Hp} {a0 : List V} {v : V} {x : Vl}, H1 Fa = some (.lst a0) → Fr (fun b => b = Fa) H1 H2 → RL X H1 v x → RL X H2 v x := fun h f r => r.kp f.tup fun a kvs _ e => f.keep (fun z => by have z : a = Fa := z; rw [z, h] at e; cases e) rfl e
      have r11 := kp hF f1 r1
      have r21 := kp hF f1 r2
      have ht1 := f1.tup _ _ ht
      show tSeq _ _ _ _ (upd H Fa (.lst [.int (300 - (c : Int) - 1)]))
      rw [ef]
      generalize upd H Fa (.lst [.int (300 - ((c + 1 : Nat) : Int))]) = H1 at f1 hF1 r11 r21 ht1 ⊢
      obtain ⟨n', rfl⟩ : ∃ n', n = n' + 1 := by
        have : ¬ 59 < ar := fun z => n1 (.inl z)
        exact ⟨n - 1, by omega⟩
      refine ⟨_, rfl, t, _, 1, _, rfl, rfl, SqT.of ht1, at1 _ _ _, _, rfl, _, _, rfl, rfl, _, rfl, ?_⟩
      refine ⟨X, Fa, y1, y, ar + 1, c + 1, rfl, r11, hF1, by omega, fun u1 H2 f2 hF2 rs1 => ?_⟩
      refine ⟨_, rfl, _, rfl, t, _, 2, _, rfl, rfl, SqT.of (f2.tup _ _ ht1), atI_nat (j := 2) rfl, _, rfl, _, _, rfl, rfl, _, rfl, ?_⟩
      refine ⟨X, Fa, y2, z, ar + 1, _, rfl, kp hF1 f2 r21, hF2, by omega, fun u2 H3 f3 hF3 rs2 => ?_⟩
      refine ⟨by show 3 ≤ sizeLine; decide, fun t4 ht4 => ?_⟩
      have f4 : Fr (fun b => b = Fa) H3 (upd H3 t4 (.tup [.str "pair", u1, u2])) := Fr.new ht4
      refine q _ _ (f1.trans (f2.trans (f3.trans f4))) ?_ (.pair upd_same ((rs1.keep f3.tup).keep f4.tup) (rs2.keep f4.tup))
      rw [upd_ne (ne_of_none hF3 ht4)]
      exact hF3
theorem scDu : FnScope NDu ["definitions", "core", "most"] (defScope sDu) := ⟨rfl, rfl, rfl, by decide +kernel, rfl, by decide +kernel, by decide +kernel⟩
theorem ok_du {f fR fS : Addr} {fd dR dS : FuncData} (F : Fun K "_law_due" "_law_due" sDu f fd) (GR : CalF P w K mg base CX0 454 "_law_run" ["core", "around", "world", "depth", "last"] (spRun 150) fR dR) (GS : Cal P w K mg base CX0 61 "_law_shown" ["value", "depth", "left"] (spLsw 61) fS dS) : FnOk P w K mg base CX0 186 f fd ["definitions", "core", "most"] spDu := by
  refine F.ok scDu (fun vs H Q E h => ?_) (fun cdv A outer s0 H vs Q E hr h => ?_)
  · obtain ⟨D, us, c, ds, t, m, r, l', s', rfl, _⟩ := h
    rfl
  obtain ⟨D, us, c, ds, t, m, r, l', s', rfl, hD, al, rt, pg, hm, hev, q⟩ := h
  have nd := scDu.nd
  have hu := hu_of hr
  have rF : RoomF 454 _ := RoomF.of hr (by omega) (by omega)
  have r61 : Room 61 _ := hr.mono (show 61 ≤ 185 by decide)
  refine ⟨_, (pss_cons (ps_set (i := 3) nd rfl (Or.inl rfl) (pe_disp (pps_cons pe_str (pv 2) (pps_cons pe_str pe_dnewK (pps_cons pe_str pe_int pps_nil))) (by rfl) (by rfl) (fun z => by cases z) (by decide)))
    (pss_cons (ps_for PassesOwn.never rfl (pi_list (pv 0)) (pg_tup rfl (pgs_cons (pg_name (i := 4) nd rfl (Or.inl rfl)) (pgs_cons (pg_name (i := 5) nd rfl (Or.inl rfl)) (pgs_cons (pg_name (i := 6) nd rfl (Or.inl rfl)) pgs_nil))))
      (pss_cons (ps_set (i := 7) nd rfl (Or.inl rfl) (pe_callF GR.ok rF rfl GR.g GR.k GR.b .nil pass0 (pa_cons (pv 6) (pa_cons pe_dnewK (pa_cons (pv 3) (pa_cons pe_int (pa_cons pe_bl pa_nil)))))))
      (pss_cons (ps_if (pt_cmpR op_ne (pe_ix (r := rIxT K) ix_tup (pv 7) pe_int (fun _ _ => rfl)) pe_str (nomark _)) (pss_one (ps_ret (pe_tup (pa_cons (pv 7) (pa_cons (pe_op op_sub (pv 2) (pe_dget hu (pv 3) pe_str (fun _ _ => rfl))) (pa_cons (pe_dget hu (pv 3) pe_str (fun _ _ => rfl)) pa_nil)))))) pss_nil)
      (pss_cons (ps_set (i := 8) nd rfl (Or.inl rfl) (pe_dget hu (pv 3) pe_str (fun _ _ => rfl)))
      (pss_one (ps_dput hu (pv 8) (pe_op op_add_str (pe_op op_add_str (pv 4) pe_str) (pv 5)) (pe_ix (r := rIxT K) ix_tup (pv 7) pe_int (fun _ _ => rfl)) rfl))))))
    (pss_cons (ps_set (i := 7) nd rfl (Or.inl rfl) (pe_callF GR.ok rF rfl GR.g GR.k GR.b .nil pass0 (pa_cons (pv 1) (pa_cons pe_dnewK (pa_cons (pv 3) (pa_cons pe_int (pa_cons pe_bl pa_nil)))))))
    (C8.pss_cut (ps_if (pt_cmpR op_eq (pe_ix (r := rIxT K) ix_tup (pv 7) pe_int (fun _ _ => rfl)) pe_str (nomark _)) (pss_one (ps_set (i := 7) nd rfl (Or.inl rfl) (pe_tup (pa_cons pe_str (pa_cons (pe_call GS.ok r61 rfl GS.g GS.k GS.b .nil pass0 (pa_cons (pe_ix (r := rIxT K) ix_tup (pv 7) pe_int (fun _ _ => rfl)) (pa_cons pe_int (pa_cons (pe_lst (pa_cons pe_int pa_nil)) pa_nil)))) pa_nil))))) pss_nil)
    (pss_one (ps_ret (pe_tup (pa_cons (pv 7) (pa_cons (pe_op op_sub (pv 2) (pe_dget hu (pv 3) pe_str (fun _ _ => rfl))) (pa_cons (pe_dget hu (pv 3) pe_str (fun _ _ => rfl)) pa_nil)))))))))), ?_⟩
  refine fun W hW => ?_
  have f1 : Fr No H (upd H W (.dK [])) := Fr.new hW
  refine ⟨_, rfl, fun T hT => ?_⟩
  have f2 : Fr No _ (upd (upd H W (.dK [])) T (.dK [])) := Fr.new hT
  have hT0 : H T = none := f1.dom hT
  have hW2 := f2.keep (fun z => z) rfl (show upd H W (.dK []) W = some (.dK []) from upd_same)
  have nTW : T ≠ W := fun z => by rw [z, upd_same] at hT; cases hT
  refine ⟨hW2, wdK m 1 T, rfl, by show 3 ≤ 15; omega, ?_⟩
  rw [show mergeK [] (wdK m 1 T) = wdK m 1 T by kernel_rfl]
  have f2W : Fr No H (upd (upd (upd H W (.dK [])) T (.dK [])) W (.dK (wdK m 1 T))) := (f1.trans f2).mut hW hW2 rfl
  have sw0 : Sw (fun b => b = W ∨ b = T) (upd (upd (upd H W (.dK [])) T (.dK [])) W (.dK (wdK m 1 T))) W T m 1 [] := by
    have hT3 : upd (upd (upd H W (.dK [])) T (.dK [])) W (.dK (wdK m 1 T)) T = some (.dK []) := by rw [upd_ne nTW]; exact upd_same
    refine ⟨upd_same, ⟨[], hT3, by show 0 ≤ 10; omega, fun m _ x _ => ⟨fun v e => (by cases e), fun _ => rfl⟩⟩, nTW, .inl rfl, .inr rfl, fun b z => ?_⟩
    rcases z with z | z <;> rw [z]
    · rw [upd_same]; simp
    · rw [hT3]; simp
  have hT3 : upd (upd (upd H W (.dK [])) T (.dK [])) W (.dK (wdK m 1 T)) T = some (.dK []) := by rw [upd_ne nTW]; exact upd_same
  generalize upd (upd (upd H W (.dK [])) T (.dK [])) W (.dK (wdK m 1 T)) = H0 at f2W sw0 hT3 ⊢
  -- an evaluation at the top
  have noW : ∀ b, isW W b → H b = none := fun b e => by rw [show b = W from e]; exact hW
  have closed : ∀ {d : Tr}, GT [] 98753 13 d → covT d [] := fun g x hx => absurd (g.f x hx) (by simp)
  have ev_at : ∀ (H1 : Hp) (Q1 : VK) (gl : Gl) (u : V) (d : Tr) (l1 s1 : Nat) (r1 : Rs) (l2 s2 : Nat), Sw (fun b => b = W ∨ b = T) H1 W T l1 s1 gl → RT H1 u d → GT [] 98753 13 d → (∀ k v, glGet k gl = some v → GV v) → l1 ≤ 150 → evT 151 gl [] d l1 s1 1 true = some (r1, l2, s2) → (∀ v H', Fr (isW W) H1 H' → Sw (fun b => b = W ∨ b = T) H' W T l2 s2 gl → ROu (fun b => b = W ∨ b = T) H' v r1 → Q1 v H') →
      ∀ e, H1 e = none → spRun 150 [u, .ref e, .ref W, .int 1, .bl true] (upd H1 e (.dK [])) Q1 E0 := by
    intro H1 Q1 gl u d l1 s1 r1 l2 s2 sw ru gd gg le ev q1 e he
    have fe : Fr No H1 (upd H1 e (.dK [])) := Fr.new he
    exact ⟨_, W, T, e, gl, [], u, d, 151, l1, s1, 1, true, r1, l2, s2, rfl, ⟨sw.no fe, ⟨[], upd_same, .nil⟩, sw.gone he, EOk.nil, gg⟩, ru.keep fe.tup, gd.g, closed gd, le, by omega, ev, fun v H' f sw' ro => q1 v H' (fe.no.trans f) sw' ro⟩
  have ldl : us.length = ds.length := al.len
  have fin : ∀ (H1 : Hp) (o : Addr) (l1 s1 : Nat) (gl : Gl), Fr No H H1 → Sw (fun b => b = W ∨ b = T) H1 W T l1 s1 gl → l1 = l' → s1 = s' → ROs H1 o r → ∀ y, H1 y = none → Q (.ref y) (upd H1 y (.tup [.ref o, .int ((m : Int) - (l1 : Nat)), .int (s1 : Nat)])) := by
    intro H1 o l1 s1 gl f sw e1 e2 ro y hy
    have fy : Fr No H1 (upd H1 y (.tup [.ref o, .int ((m : Int) - (l1 : Nat)), .int (s1 : Nat)])) := Fr.new hy
    rw [e1, e2] at fy ⊢
    refine q y o _ (f.trans fy) upd_same ?_
    cases r with
    | val x => obtain ⟨u, h1, h2⟩ := ro; exact ⟨u, fy.tup _ _ h1, h2.keep fy.tup⟩
    | out ws => exact ⟨fy.tup _ _ ro.1, ro.2⟩
  refine ⟨_, rfl, D, rfl, ⟨_, SqL.of (f2W.keep (fun z => z) rfl hD)⟩, for_list (xs := us) (fun i σ H' => ∃ (v4 v5 v6 v7 v8 : Option V) (gl : Gl) (l1 s1 : Nat) (tk : List (Key × V)), σ = [some (.ref D), some c, some (.int (m : Nat)), some (.ref W), v4, v5, v6, v7, v8] ∧ Sw (fun b => b = W ∨ b = T) H' W T l1 s1 gl ∧ H' T = some (.dK tk) ∧ tk.length ≤ i ∧ (∀ k v, glGet k gl = some v → GV v) ∧ Fr No H H' ∧ l1 ≤ m ∧ evP 151 (ds.drop i) t gl l1 s1 = some (r, l', s'))
    ⟨none, none, none, none, none, [], m, 1, [], rfl, sw0, hT3, Nat.le_refl _, (fun k v e => by cases e), f2W, Nat.le_refl _, hev⟩ (fun i σ H' _ ⟨_, _, _, _, _, _, _, _, _, _, _, _, _, _, z, _⟩ => SqL.of (z.keep (fun z => z) rfl hD)) ?_ ?_⟩
  · rintro i u σ H1 hi ⟨v4, v5, v6, v7, v8, gl, l1, s1, tk, rfl, sw, hTk, ltk, gg, f, le1, ev⟩
    obtain ⟨⟨⟨mm, xx⟩, d⟩, hd, ⟨ar, cb, rfl, hr0, rb⟩⟩ := al.get hi
    have il : i < ds.length := (List.getElem?_eq_some_iff.mp hd).1
    have i4 : i < 4 := by have := pg.l; omega
    obtain ⟨gd, hmm, hxx⟩ := pg.d _ (List.mem_of_getElem? hd)
    dsimp only at gd hmm hxx
    have hdrop : ds.drop i = ((mm, xx), d) :: ds.drop (i + 1) := by
      rw [List.drop_eq_getElem_cons il, (List.getElem?_eq_some_iff.mp hd).2]
    rw [hdrop] at ev
    unfold evP at ev
    cases hx : evT 151 gl [] d l1 s1 1 true with
    | none => rw [hx] at ev; cases ev
    | some p =>
    obtain ⟨r1, l2, s2⟩ := p
    rw [hx] at ev
    obtain ⟨_, _, _, e0, _, gvr, _⟩ := evT_tot 151 gl [] d l1 s1 1 true gd.g EOk.nil (closed gd) gg (by omega)
    rw [hx] at e0
    cases e0
    have le2 := (evT_le _ _ _ _ _ _ _ _ _ _ _ hx).1
    refine ⟨ar, _, rfl, SqT.of (f.tup _ _ hr0), rfl, _, _, rfl, _, _, rfl, _, _, rfl, rfl, ?_⟩
    refine ⟨_, rfl, fun e he => ⟨_, rfl, ?_⟩⟩
    refine ev_at H1 _ gl cb d l1 s1 r1 l2 s2 sw (rb.keep f.tup) gd gg (by omega) hx (fun v H2 f2 sw2 ro => ?_) e he
    have f02 := f.drop f2 noW
    cases r1 with
    | out ws =>
      dsimp only at ev
      cases ev
      obtain ⟨o, rfl, ho, hok⟩ := ro
      have hw : ∃ w0 wr, ws = w0 :: wr ∧ w0 ≠ "value" := by
        rcases hok with e | ⟨x, e⟩
        · exact ⟨_, _, e, by decide⟩
        · exact ⟨_, _, e, by decide⟩
      obtain ⟨w0, wr, rfl, hne⟩ := hw
      refine ⟨_, rfl, o, _, 0, _, rfl, rfl, SqT.of ho, at0 _ _, rfl, _, rfl, ?_⟩
      rw [decide_eq_false (fun z => hne (V.str.inj z))]
      refine iteT ⟨_, rfl, _, rfl, _, rfl, W, _, rfl, sw2.left, _, _, rfl, rfl, _, rfl, W, _, rfl, sw2.deep, sl3, fun y hy => ?_⟩
      exact fin H2 o _ _ gl f02 sw2 rfl rfl ⟨ho, hok⟩ y hy
    | val x =>
      dsimp only at ev
      obtain ⟨o, ux, rfl, ho, rx⟩ := ro
      refine ⟨_, rfl, o, _, 0, _, rfl, rfl, SqT.of ho, at0 _ _, rfl, _, rfl, ?_⟩
      rw [decide_eq_true rfl]
      refine iteF ?_
      obtain ⟨k1, k2⟩ := gl_key hmm hxx
      have hT2 := f2.keep (show ¬ isW W T from nTW) rfl hTk
      refine ⟨_, rfl, W, _, rfl, sw2.table, _, rfl, o, _, 1, _, rfl, rfl, SqT.of ho, at1 _ _ _, _, rfl, _, rfl, _, _, rfl, rfl, k1, _, rfl, _, _, rfl, rfl, k2, T, _, rfl, DPut.k (k := Sum.inr (mm ++ "." ++ xx)) hT2 (Nat.lt_of_le_of_lt (show tk.length ≤ 1000000 by omega) (by decide)), ?_⟩
      have fT : Fr (fun b => b = W ∨ b = T) H2 (upd H2 T (.dK (putK tk (.inr (mm ++ "." ++ xx)) ux))) := Fr.set (.inr rfl) hT2 rfl
      have hl := length_putK tk (.inr (mm ++ "." ++ xx)) ux
      obtain ⟨tk', hT', _, hkk⟩ := sw2.t.h
      rw [hT2] at hT'
      cases hT'
      refine ⟨_, _, _, _, _, glPut (mm, xx) x gl, l2, s2, putK tk (.inr (mm ++ "." ++ xx)) ux, rfl, ?_, upd_same, by omega, fun k v hk => ?_, f02.mut hT0 hT2 rfl, by omega, ev⟩
      · refine ⟨by rw [upd_ne (Ne.symm nTW)]; exact sw2.w, ⟨_, upd_same, by omega, fun m' hm' x' hx' => ?_⟩, nTW, .inl rfl, .inr rfl, fun b xb => fun z => sw2.xd b xb (upd_dom b z)⟩
        rw [valV_put, glGet_put]
        obtain ⟨hk1, hk2⟩ := hkk m' hm' x' hx'
        by_cases e : ((mm, xx) : Str × Str) = (m', x')
        · have e1 : mm = m' := congrArg Prod.fst e
          have e2 : xx = x' := congrArg Prod.snd e
          rw [if_pos e, if_pos (by rw [e1, e2])]
          refine ⟨fun v hv => ?_, fun hv => by cases hv⟩
          cases hv
          exact ⟨ux, rfl, rx.fr fT⟩
        · rw [if_neg e, if_neg (fun z => e (by
            obtain ⟨a1, a2⟩ := glk_inj hm' hx' hmm hxx (Sum.inr.inj z)
            rw [a1, a2]))]
          exact ⟨fun v hv => let ⟨u, h1, h2⟩ := hk1 v hv; ⟨u, h1, h2.fr fT⟩, hk2⟩
      · rw [glGet_put] at hk
        by_cases e : (mm, xx) = k
        · rw [if_pos e] at hk; cases hk; exact gvr _ rfl
        · rw [if_neg e] at hk; exact gg k v hk
  rintro σ H1 ⟨v4, v5, v6, v7, v8, gl, l1, s1, tk, rfl, sw, hTk, ltk, gg, f, le1, ev⟩
  rw [ldl, List.drop_length] at ev
  have ev : evT 151 gl [] t l1 s1 1 true = some (r, l', s') := ev
  have le2 := (evT_le _ _ _ _ _ _ _ _ _ _ _ ev).1
  refine ⟨_, rfl, fun e he => ⟨_, rfl, ?_⟩⟩
  refine ev_at H1 _ gl c t l1 s1 r l' s' sw (rt.keep f.tup) pg.t gg (by omega) ev (fun v H2 f2 sw2 ro => ?_) e he
  have f02 := f.drop f2 noW
  refine ⟨fun σ H' => ∃ o, σ = [some (.ref D), some c, some (.int (m : Nat)), some (.ref W), v4, v5, v6, some (.ref o), v8] ∧ Sw (fun b => b = W ∨ b = T) H' W T l' s' gl ∧ Fr No H H' ∧ ROs H' o r, ?_, ?_⟩
  · cases r with
    | out ws =>
      obtain ⟨o, rfl, ho, hok⟩ := ro
      have hw : ∃ w0 wr, ws = w0 :: wr ∧ w0 ≠ "value" := by
        rcases hok with e | ⟨x, e⟩
        · exact ⟨_, _, e, by decide⟩
        · exact ⟨_, _, e, by decide⟩
      obtain ⟨w0, wr, rfl, hne⟩ := hw
      refine ⟨_, rfl, o, _, 0, _, rfl, rfl, SqT.of ho, at0 _ _, rfl, _, rfl, ?_⟩
      rw [decide_eq_false (fun z => hne (V.str.inj z))]
      exact iteF ⟨o, rfl, sw2, f02, ho, hok⟩
    | val x =>
      obtain ⟨o, ux, rfl, ho, rx⟩ := ro
      refine ⟨_, rfl, o, _, 0, _, rfl, rfl, SqT.of ho, at0 _ _, rfl, _, rfl, ?_⟩
      rw [decide_eq_true rfl]
      refine iteT ⟨_, rfl, o, _, 1, _, rfl, rfl, SqT.of ho, at1 _ _ _, sl1, fun F hF => ?_⟩
      have fF : Fr No H2 (upd H2 F (.lst [.int 300])) := Fr.new hF
      have hF0 : H F = none := f02.dom hF
      refine ⟨_, F, ux, x, 0, 0, rfl, rx.fr fF.no, upd_same, Nat.le_refl _, fun u H3 f3 hF3 rs => ⟨sl2, fun y hy => ?_⟩⟩
      have fy : Fr No H3 (upd H3 y (.tup [.str "value", u])) := Fr.new hy
      have nWF : W ≠ F := fun z => by rw [← z, sw2.w] at hF; cases hF
      have nTF : T ≠ F := fun z => by
        obtain ⟨tk', hT', _⟩ := sw2.t.h
        rw [← z, hT'] at hF; cases hF
      have sw3 : Sw (fun b => b = W ∨ b = T) H3 W T l' s' gl := by
        have swF := sw2.no fF
        obtain ⟨tk', hT', hl', hk'⟩ := swF.t.h
        have kp : ∀ {v : V} {x : Vl}, RL (fun b => b = W ∨ b = T) (upd H2 F (.lst [.int 300])) v x → RL (fun b => b = W ∨ b = T) H3 v x := fun r => r.kp f3.tup fun a kvs _ e => f3.keep (fun z => by have z : a = F := z; rw [z, upd_same] at e; cases e) rfl e
        exact ⟨f3.keep nWF rfl swF.w, ⟨tk', f3.keep nTF rfl hT', hl', fun m' hm' x' hx' => ⟨fun v hv => let ⟨u, h1, h2⟩ := (hk' m' hm' x' hx').1 v hv; ⟨u, h1, kp h2⟩, (hk' m' hm' x' hx').2⟩⟩, nTW, .inl rfl, .inr rfl, fun b xb z => swF.xd b xb (f3.dom z)⟩
      have f03 : Fr No H H3 := (f02.trans fF).drop f3 fun b e => by rw [e]; exact hF0
      exact ⟨y, rfl, sw3.no fy, f03.trans fy, u, upd_same, rs.keep fy.tup⟩
  rintro σ H3 ⟨o, rfl, sw3, f03, ros⟩
  exact ⟨_, rfl, _, rfl, _, rfl, W, _, rfl, sw3.left, _, _, rfl, rfl, _, rfl, W, _, rfl, sw3.deep, sl3, fun y hy => fin H3 o _ _ gl f03 sw3 rfl rfl ros y hy⟩
end
end My
namespace My
open PySem PySem.Spec PyProof.Rows L2 TL
/-! ### the whole program by the evaluator: total, and its end -/
theorem evP_tot {f : Nat} : ∀ (ds : List ((Str × Str) × Tr)) (t : Tr) (gl : Gl) (l s : Nat), (∀ d ∈ ds, GT [] 98753 13 d.2) → GT [] 98753 13 t → (∀ k v, glGet k gl = some v → GV v) → l < f → ∃ r l' s', evP f ds t gl l s = some (r, l', s') ∧ l' ≤ l ∧ ∀ ws, r = .out ws → wsOk ws
  | [], t, gl, l, s, _, ht, gg, hl => by
    obtain ⟨r, l', s', e, b, _, w⟩ := evT_tot f gl [] t l s 1 true ht.g EOk.nil (fun x hx => absurd (ht.f x hx) (by simp)) gg hl
    exact ⟨r, l', s', e, b, w⟩
  | (key, d) :: ds, t, gl, l, s, hd, ht, gg, hl => by
    have hd0 : GT [] 98753 13 d := hd _ List.mem_cons_self
    obtain ⟨r, l1, s1, e, b, g, w⟩ := evT_tot f gl [] d l s 1 true hd0.g EOk.nil (fun x hx => absurd (hd0.f x hx) (by simp)) gg hl
    unfold evP
    rw [e]
    cases r with
    | out ws => exact ⟨_, _, _, rfl, b, w⟩
    | val v =>
      obtain ⟨r, l2, s2, e2, b2, w2⟩ := evP_tot (f := f) ds t (glPut key v gl) l1 s1 (fun d m => hd d (List.mem_cons_of_mem _ m)) ht (fun k x hk => by
        rw [glGet_put] at hk
        by_cases c : key = k
        · rw [if_pos c] at hk; cases hk; exact g _ rfl
        · rw [if_neg c] at hk; exact gg k x hk) (by omega)
      exact ⟨r, l2, s2, e2, Nat.le_trans b2 b, w2⟩
theorem prim_ns {q : Str} {vs : List Vl} {ws : List Str} (h : primF q vs = .error ws) : ws ≠ stW := by
  intro e
  subst e
  unfold primF at h
  split at h
  · split at h <;> cases h
  split at h
  · split at h
    · unfold halF at h
      split at h <;> cases h
    · cases h
  split at h
  · split at h
    · rename_i l r _
      cases e : reckF q l r with
      | ok z => rw [e] at h; cases h
      | error w => rw [e] at h; cases h; exact absurd (reck_err e) (by decide)
    · cases h
  · cases h
theorem chk_ns {f : Vl} {n : Nat} {ws : List Str} (h : chkF f n = some ws) : ws ≠ stW := by
  obtain ⟨w, e⟩ := chk_err h
  intro z
  rw [e] at z
  have : ([("error" : Str), w] : List Str).length = ([("steps" : Str)] : List Str).length := congrArg List.length z
  simp at this
theorem evL_st {R : Tr → Nat → Nat → Option (Rs × Nat × Nat)} (h : ∀ t l s l' s', R t l s = some (.out stW, l', s') → l' = 0) : ∀ (ts : List Tr) (l s l' s' : Nat), evL R ts l s = some (.inr stW, l', s') → l' = 0
  | [], _, _, _, _, e => by cases e
  | t :: ts, l, s, l', s', e => by
    unfold evL at e
    cases h1 : R t l s with
    | none => rw [h1] at e; cases e
    | some q =>
    obtain ⟨r1, l1, s1⟩ := q
    rw [h1] at e
    cases r1 with
    | out ws => cases e; exact h _ _ _ _ _ h1
    | val v =>
      dsimp only at e
      cases h2 : evL R ts l1 s1 with
      | none => rw [h2] at e; cases e
      | some q =>
      obtain ⟨r2, l2, s2⟩ := q
      rw [h2] at e
      cases r2 with
      | inl vs => cases e
      | inr ws => cases e; exact evL_st h ts _ _ _ _ h2
theorem evT_st : ∀ (f : Nat) (gl : Gl) (env : Ev) (d : Nat) (last : Bool) (t : Tr) (l s l' s' : Nat), evT f gl env t l s d last = some (.out stW, l', s') → l' = 0
  | 0, _, _, _, _, _, _, _, _, _, h => by unfold evT at h; cases h
  | f + 1, gl, env, d, last, t, l, s, l', s', h => by
    have IH := evT_st f
    unfold evT at h
    by_cases l0 : l = 0
    · rw [if_pos l0] at h; cases h; rfl
    rw [if_neg l0] at h
    cases t with
    | int i =>
      dsimp only at h
      split at h <;> cases h
    | loc x =>
      dsimp only at h
      cases hv : evGet x env with
      | none => rw [hv] at h; cases h
      | some v => rw [hv] at h; cases h
    | glob a b =>
      dsimp only at h
      cases hv : glGet (a, b) gl with
      | none => rw [hv] at h; cases h
      | some v => rw [hv] at h; cases h
    | prim q => cases h
    | fn ns b => cases h
    | let_ ns ts b =>
      dsimp only at h
      split at h
      · cases h1 : evL (fun t l s => evT f gl env t l s d false) ts (l - 1) s with
        | none => rw [h1] at h; cases h
        | some q =>
        obtain ⟨r1, l1, s1⟩ := q
        rw [h1] at h
        cases r1 with
        | inr ws => cases h; exact evL_st (fun t l s l' s' e => IH gl env d false t l s l' s' e) _ _ _ _ _ h1
        | inl vs => exact IH _ _ _ _ _ _ _ _ _ h
      · cases h
    | if_ a b c =>
      dsimp only at h
      cases h1 : evT f gl env a (l - 1) s d false with
      | none => rw [h1] at h; cases h
      | some q =>
      obtain ⟨r1, l1, s1⟩ := q
      rw [h1] at h
      cases r1 with
      | out ws => cases h; exact IH _ _ _ _ _ _ _ _ _ h1
      | val v => exact IH _ _ _ _ _ _ _ _ _ h
    | call g ts =>
      dsimp only at h
      split at h
      · cases h1 : evL (fun t l s => evT f gl env t l s d false) (g :: ts) (l - 1) s with
        | none => rw [h1] at h; cases h
        | some q =>
        obtain ⟨r1, l1, s1⟩ := q
        rw [h1] at h
        cases r1 with
        | inr ws => cases h; exact evL_st (fun t l s l' s' e => IH gl env d false t l s l' s' e) _ _ _ _ _ h1
        | inl vs =>
          cases vs with
          | nil => cases h
          | cons called vs =>
          dsimp only at h
          cases hc : chkF called vs.length with
          | some ws => rw [hc] at h; cases h; exact absurd rfl (chk_ns hc)
          | none =>
            rw [hc] at h
            dsimp only at h
            cases called with
            | int i => cases h
            | pair u v => cases h
            | fnM c k => cases h
            | prim q =>
              dsimp only at h
              cases hp : primF q vs with
              | ok y => rw [hp] at h; cases h
              | error ws => rw [hp] at h; cases h; exact absurd rfl (prim_ns hp)
            | fnP ns b en =>
              dsimp only at h
              split at h
              · exact IH _ _ _ _ _ _ _ _ _ h
              · cases h
      · cases h
theorem evP_st {f : Nat} : ∀ (ds : List ((Str × Str) × Tr)) (t : Tr) (gl : Gl) (l s l' s' : Nat), evP f ds t gl l s = some (.out stW, l', s') → l' = 0
  | [], t, gl, l, s, l', s', h => evT_st f gl [] 1 true t l s l' s' h
  | (key, d) :: ds, t, gl, l, s, l', s', h => by
    unfold evP at h
    cases h1 : evT f gl [] d l s 1 true with
    | none => rw [h1] at h; cases h
    | some q =>
    obtain ⟨r1, l1, s1⟩ := q
    rw [h1] at h
    cases r1 with
    | out ws => cases h; exact evT_st f gl [] 1 true d l s _ _ h1
    | val v => exact evP_st ds t _ _ _ _ _ h
theorem evP_zero {f : Nat} : ∀ (ds : List ((Str × Str) × Tr)) (t : Tr) (gl : Gl) (s : Nat), evP (f + 1) ds t gl 0 s = some (.out stW, 0, s)
  | [], t, gl, s => by unfold evP evT; rw [if_pos rfl]; rfl
  | (key, d) :: ds, t, gl, s => by unfold evP evT; rw [if_pos rfl]; rfl
/-! ### trees as data that Python compares -/
mutual
def pyT : Tr → PyData
  | .int i => .tuple [.str "int", .int i]
  | .loc n => .tuple [.str "local", .int n]
  | .glob m x => .tuple [.str "global", .str m, .str x]
  | .prim p => .tuple [.str "prim", .str p]
  | .fn ns b => .tuple [.str "fn", .tuple (ns.map PyData.int), pyT b]
  | .let_ ns ts b => .tuple [.str "let", .tuple (pyRs ns ts), pyT b]
  | .if_ a b c => .tuple [.str "if", pyT a, pyT b, pyT c]
  | .call f ts => .tuple [.str "call", pyT f, .tuple (pyTs ts)]
def pyTs : List Tr → List PyData
  | [] => []
  | t :: ts => pyT t :: pyTs ts
def pyRs : List Int → List Tr → List PyData
  | n :: ns, t :: ts => .tuple [.int n, pyT t] :: pyRs ns ts
  | _, _ => []
end
theorem dpIs {K : PySem.W.Frag} {H : Hp} : ∀ ns : List Int, DpAll K H (ns.map V.int) (ns.map PyData.int)
  | [] => .nil
  | n :: ns => .cons (.int n) (dpIs ns)
section
variable {K : PySem.W.Frag} {H : Hp}
mutual
theorem RT.dpT : ∀ {v : V} {t : Tr}, RT H v t → Dp K H v (pyT t)
  | _, _, .int h => .tup (SqT.of h) (.cons (.str _) (.cons (.int _) .nil))
  | _, _, .loc h => .tup (SqT.of h) (.cons (.str _) (.cons (.int _) .nil))
  | _, _, .glob h => .tup (SqT.of h) (.cons (.str _) (.cons (.str _) (.cons (.str _) .nil)))
  | _, _, .prim h => .tup (SqT.of h) (.cons (.str _) (.cons (.str _) .nil))
  | _, _, .fn h hq r => .tup (SqT.of h) (.cons (.str _) (.cons (.tup (SqT.of hq) (dpIs _)) (.cons (RT.dpT r) .nil)))
  | _, _, .let_ h hq rp r => .tup (SqT.of h) (.cons (.str _) (.cons (.tup (SqT.of hq) (RTp.dpT rp)) (.cons (RT.dpT r) .nil)))
  | _, _, .if_ h a b c => .tup (SqT.of h) (.cons (.str _) (.cons (RT.dpT a) (.cons (RT.dpT b) (.cons (RT.dpT c) .nil))))
  | _, _, .call h hq r rs => .tup (SqT.of h) (.cons (.str _) (.cons (RT.dpT r) (.cons (.tup (SqT.of hq) (RTs.dpT rs)) .nil)))
theorem RTs.dpT : ∀ {vs : List V} {ts : List Tr}, RTs H vs ts → DpAll K H vs (pyTs ts)
  | _, _, .nil => .nil
  | _, _, .cons r rs => .cons (RT.dpT r) (RTs.dpT rs)
theorem RTp.dpT : ∀ {vs : List V} {ns : List Int} {ts : List Tr}, RTp H vs ns ts → DpAll K H vs (pyRs ns ts)
  | _, _, _, .nil => .nil
  | _, _, _, .cons h r rs => .cons (.tup (SqT.of h) (.cons (.int _) (.cons (RT.dpT r) .nil))) (RTp.dpT rs)
end
end
theorem strs_ok : PyData.strOk "int" = true ∧ PyData.strOk "local" = true ∧ PyData.strOk "global" = true ∧ PyData.strOk "prim" = true ∧ PyData.strOk "fn" = true ∧ PyData.strOk "let" = true ∧ PyData.strOk "if" = true ∧ PyData.strOk "call" = true := by decide +kernel
theorem gm_ok {m : Str} (h : m ∈ globM) : PyData.strOk m = true := (show ∀ m ∈ globM, PyData.strOk m = true by decide +kernel) m h
theorem gx_ok {m : Str} (h : m ∈ globX) : PyData.strOk m = true := (show ∀ m ∈ globX, PyData.strOk m = true by decide +kernel) m h
theorem p8_ok {m : Str} (h : m ∈ prims8) : PyData.strOk m = true := (show ∀ m ∈ prims8, PyData.strOk m = true by decide +kernel) m h
mutual
theorem lay_T : ∀ {t : Tr}, gdT t → PyData.canLay0 (pyT t) = true
  | .int i, _ => by simp only [pyT, PyData.canLay0, PyData.canLayAll0, strs_ok, Bool.and_true]
  | .loc i, _ => by simp only [pyT, PyData.canLay0, PyData.canLayAll0, strs_ok, Bool.and_true]
  | .glob m x, h => by
    obtain ⟨h1, h2⟩ : m ∈ globM ∧ x ∈ globX := h
    simp only [pyT, PyData.canLay0, PyData.canLayAll0, strs_ok, Bool.and_true, gm_ok h1, gx_ok h2]
  | .prim p, h => by
    have h : p ∈ prims8 := h
    simp only [pyT, PyData.canLay0, PyData.canLayAll0, strs_ok, Bool.and_true, p8_ok h]
  | .fn ns b, h => by
    obtain ⟨_, _, h3⟩ : ns.length ≤ 5 ∧ (∀ n ∈ ns, nmOk n) ∧ gdT b := h
    simp only [pyT, PyData.canLay0, PyData.canLayAll0, strs_ok, Bool.and_true, lay_is, lay_T h3]
  | .let_ ns ts b, h => by
    obtain ⟨_, _, _, h3, h4⟩ : ns.length ≤ 5 ∧ ns.length = ts.length ∧ (∀ n ∈ ns, nmOk n) ∧ gdTs ts ∧ gdT b := h
    simp only [pyT, PyData.canLay0, PyData.canLayAll0, strs_ok, Bool.and_true, lay_Rs (ns := ns) h3, lay_T h4]
  | .if_ a b c, h => by
    obtain ⟨h1, h2, h3⟩ : gdT a ∧ gdT b ∧ gdT c := h
    simp only [pyT, PyData.canLay0, PyData.canLayAll0, strs_ok, Bool.and_true, lay_T h1, lay_T h2, lay_T h3]
  | .call f ts, h => by
    obtain ⟨_, h2, h3⟩ : ts.length ≤ 5 ∧ gdT f ∧ gdTs ts := h
    simp only [pyT, PyData.canLay0, PyData.canLayAll0, strs_ok, Bool.and_true, lay_T h2, lay_Ts h3]
theorem lay_Ts : ∀ {ts : List Tr}, gdTs ts → PyData.canLayAll0 (pyTs ts) = true
  | [], _ => by simp only [pyTs, PyData.canLayAll0]
  | t :: ts, h => by
    obtain ⟨h1, h2⟩ : gdT t ∧ gdTs ts := h
    simp only [pyTs, PyData.canLayAll0, lay_T h1, lay_Ts h2, Bool.and_true]
theorem lay_Rs : ∀ {ns : List Int} {ts : List Tr}, gdTs ts → PyData.canLayAll0 (pyRs ns ts) = true
  | [], [], _ => by simp only [pyRs, PyData.canLayAll0]
  | [], _ :: _, _ => by simp only [pyRs, PyData.canLayAll0]
  | _ :: _, [], _ => by simp only [pyRs, PyData.canLayAll0]
  | n :: ns, t :: ts, h => by
    obtain ⟨h1, h2⟩ : gdT t ∧ gdTs ts := h
    simp only [pyRs, PyData.canLayAll0, PyData.canLay0, lay_T h1, lay_Rs (ns := ns) h2, Bool.and_true]
end
mutual
theorem dep_T : ∀ t : Tr, PyData.depth (pyT t) ≤ 3 * depT t
  | .int i => by simp only [pyT, PyData.depth, PyData.depthAll, depT]; omega
  | .loc i => by simp only [pyT, PyData.depth, PyData.depthAll, depT]; omega
  | .glob m x => by simp only [pyT, PyData.depth, PyData.depthAll, depT]; omega
  | .prim p => by simp only [pyT, PyData.depth, PyData.depthAll, depT]; omega
  | .fn ns b => by
    have h1 := dep_T b
    have h2 := dep_is (xs := ns)
    have h3 : 1 ≤ depT b := by cases b <;> (unfold depT; omega)
    simp only [pyT, PyData.depth, PyData.depthAll, depT]
    omega
  | .let_ ns ts b => by
    have h1 := dep_T b
    have h2 := dep_Rs ns ts
    have h3 : 1 ≤ depT b := by cases b <;> (unfold depT; omega)
    simp only [pyT, PyData.depth, PyData.depthAll, depT]
    omega
  | .if_ a b c => by
    have h1 := dep_T a
    have h2 := dep_T b
    have h3 := dep_T c
    simp only [pyT, PyData.depth, PyData.depthAll, depT]
    omega
  | .call f ts => by
    have h1 := dep_T f
    have h2 := dep_Ts ts
    have h3 : 1 ≤ depT f := by cases f <;> (unfold depT; omega)
    simp only [pyT, PyData.depth, PyData.depthAll, depT]
    omega
theorem dep_Ts : ∀ ts : List Tr, PyData.depthAll (pyTs ts) ≤ 3 * depTs ts
  | [] => by simp only [pyTs, PyData.depthAll, depTs]; omega
  | t :: ts => by
    have h1 := dep_T t
    have h2 := dep_Ts ts
    simp only [pyTs, PyData.depthAll, depTs]
    omega
theorem dep_Rs : ∀ (ns : List Int) (ts : List Tr), PyData.depthAll (pyRs ns ts) ≤ 3 * depTs ts + 1
  | [], [] => by simp only [pyRs, PyData.depthAll, depTs]; omega
  | [], _ :: _ => by simp only [pyRs, PyData.depthAll]; omega
  | _ :: _, [] => by simp only [pyRs, PyData.depthAll]; omega
  | n :: ns, t :: ts => by
    have h1 := dep_T t
    have h2 := dep_Rs ns ts
    have h3 : 1 ≤ depT t := by cases t <;> (unfold depT; omega)
    simp only [pyRs, PyData.depthAll, PyData.depth, depTs]
    omega
end
def pyDs (ds : List ((Str × Str) × Tr)) : List PyData := ds.map fun d => .tuple [.str d.1.1, .str d.1.2, pyT d.2]
theorem dps_of {K : PySem.W.Frag} {H : Hp} {us : List V} {ds : List ((Str × Str) × Tr)} (h : Als (RDg H) us ds) : DpAll K H us (pyDs ds) := by
  induction h with
  | nil => exact .nil
  | cons r _ ih =>
    obtain ⟨a, c, rfl, h1, h2⟩ := r
    exact .cons (.tup (SqT.of h1) (.cons (.str _) (.cons (.str _) (.cons h2.dpT .nil)))) ih
theorem shaped_ds {ds : List ((Str × Str) × Tr)} (h : ∀ d ∈ ds, GT [] 98753 13 d.2 ∧ d.1.1 ∈ globM ∧ d.1.2 ∈ globX) : SeqAt.shaped (.list (pyDs ds)) = true := by
  have key : PyData.canLayAll0 (pyDs ds) = true ∧ PyData.depthAll (pyDs ds) ≤ 42 := by
    induction ds with
    | nil => exact ⟨by simp only [pyDs, List.map_nil, PyData.canLayAll0], by simp only [pyDs, List.map_nil, PyData.depthAll]; omega⟩
    | cons d ds ih =>
      obtain ⟨i1, i2⟩ := ih fun d m => h d (List.mem_cons_of_mem _ m)
      obtain ⟨g, h1, h2⟩ := h d List.mem_cons_self
      have hd := dep_T d.2
      have := g.d
      refine ⟨?_, ?_⟩
      · show PyData.canLayAll0 (PyData.tuple [.str d.1.1, .str d.1.2, pyT d.2] :: pyDs ds) = true
        simp only [PyData.canLayAll0, PyData.canLay0, gm_ok h1, gx_ok h2, lay_T g.g, i1, Bool.and_true]
      · show PyData.depthAll (PyData.tuple [.str d.1.1, .str d.1.2, pyT d.2] :: pyDs ds) ≤ 42
        simp only [PyData.depthAll, PyData.depth]
        omega
  unfold SeqAt.shaped
  rw [show PyData.canLay0 (.list (pyDs ds)) = true by unfold PyData.canLay0; exact key.1]
  have := key.2
  rw [decide_eq_true (by unfold PyData.depth; omega)]
  rfl
/-! ### told == ("steps",) -/
def rEqW : R2 := fun x y H Q => ∃ (a b : Addr) (w0 z : Str) (xs : List V), x = .ref a ∧ y = .ref b ∧ H a = some (.tup (.str w0 :: xs)) ∧ H b = some (.tup [.str z]) ∧ (w0 = z → xs = []) ∧ Q (.bl (decide (w0 = z))) H
theorem op_eqW {X : Cx} (hu : X.A.units < cLine) : OpR X (compareOp .Eq) rEqW := by
  intro pins s σ H x y v u Q I rx ry h
  obtain ⟨a, b, w0, z, xs, rfl, rfl, ha, hb, hz, q⟩ := h
  cases (show v = Value.ref a from rx)
  cases (show u = Value.ref b from ry)
  obtain ⟨its, r1, pl1, _⟩ := I.tuple (SqT.of (K := X.K) ha)
  obtain ⟨its2, r2, pl2, _⟩ := I.tuple (SqT.of (K := X.K) hb)
  cases r1 with
  | @cons _ u1 _ us1 e1 rs1 =>
  cases r2 with
  | @cons _ u2 _ us2 e2 rs2 =>
  cases rs2
  obtain ⟨t1, rfl⟩ := (show ∃ t, u1 = Value.str w0 t from e1)
  obtain ⟨t2, rfl⟩ := (show ∃ t, u2 = Value.str z t from e2)
  have lus : us1.length = xs.length := rs1.length.symm
  refine SeqAt.RcAt.tuples (e := fun _ => w0 == z) pl1 pl2 hu (fun j h1 h2 => ?_) X.prog X.w X.xe _ ⟨.bl (decide (w0 = z)), H, I, ?_, q⟩
  · have : j = 0 := by simp at h2; omega
    subst this
    exact SeqAt.EqAt.str_str w0 t1 z t2
  · show Value.bool _ = Value.bool _
    congr 1
    by_cases c : w0 = z
    · have hx := hz c
      subst hx
      have : us1 = [] := List.length_eq_zero_iff.mp lus
      subst this
      rw [decide_eq_true c]
      simp [c]
    · rw [decide_eq_false c]
      simp [c, List.range_succ]
end My
namespace My
open PySem PySem.Spec PyProof.Rows L2 TL
/-! ### what the runs tell, as the law compares it -/
def oDq : Rs → Dq
  | .val x => .tup [.str "value", (showF x 0 0).1.dq]
  | .out ws => .tup (ws.map Dq.str)
theorem wid_dq : ∀ s : Sh, widQ s.dq
  | .int _ => trivial
  | .fn => trivial
  | .more => trivial
  | .pair a b => ⟨by show 3 ≤ 900; omega, trivial, wid_dq a, wid_dq b, trivial⟩
theorem dep_show : ∀ (x : Vl) (ar c : Nat), ar ≤ 60 → depQ (showF x ar c).1.dq + ar ≤ 61
  | .int _, ar, c, h => by show 1 + ar ≤ 61; omega
  | .prim _, ar, c, h => by show 1 + ar ≤ 61; omega
  | .fnP _ _ _, ar, c, h => by show 1 + ar ≤ 61; omega
  | .fnM _ _, ar, c, h => by show 1 + ar ≤ 61; omega
  | .pair a b, ar, c, h => by
    unfold showF
    by_cases k : 59 < ar ∨ c = 300
    · rw [if_pos k]; show 1 + ar ≤ 61; omega
    · rw [if_neg k]
      have h1 := dep_show a (ar + 1) (c + 1) (by omega)
      have h2 := dep_show b (ar + 1) (showF a (ar + 1) (c + 1)).2 (by omega)
      show 1 + max 1 (max (depQ (showF a (ar + 1) (c + 1)).1.dq) (max (depQ (showF b (ar + 1) (showF a (ar + 1) (c + 1)).2).1.dq) 0)) + ar ≤ 61
      omega
termination_by x => sizeOf x
theorem ROs.dq {H : Hp} {o : Addr} {r : Rs} (h : ROs H o r) : RDq H (.ref o) (oDq r) ∧ depQ (oDq r) ≤ 62 ∧ widQ (oDq r) := by
  cases r with
  | val x =>
    obtain ⟨u, h1, h2⟩ := h
    have h3 := dep_show x 0 0 (by omega)
    refine ⟨.tup h1 (.cons (.str _) (.cons h2.dq .nil)), ?_, ?_⟩
    · show 1 + max 1 (max (depQ (showF x 0 0).1.dq) 0) ≤ 62
      omega
    · exact ⟨by show 2 ≤ 900; omega, trivial, wid_dq _, trivial⟩
  | out ws =>
    obtain ⟨h1, h2⟩ := h
    rcases h2 with e | ⟨x, e⟩
    · subst e
      exact ⟨.tup h1 (.cons (.str _) .nil), by show 1 + max 1 0 ≤ 62; omega, by show 1 ≤ 900; omega, trivial, trivial⟩
    · subst e
      exact ⟨.tup h1 (.cons (.str _) (.cons (.str _) .nil)), by show 1 + max 1 (max 1 0) ≤ 62; omega, by show 2 ≤ 900; omega, trivial, trivial, trivial⟩
theorem ROs.keep {H H' : Hp} (k : KpT H H') {o : Addr} {r : Rs} (h : ROs H o r) : ROs H' o r := by
  cases r with
  | val x => obtain ⟨u, h1, h2⟩ := h; exact ⟨u, k _ _ h1, h2.keep k⟩
  | out ws => exact ⟨k _ _ h.1, h.2⟩
theorem sam_ev {H : Hp} {Q : VK} {E : XK} {a b o o' : Addr} {n n' : Int} {r : Rs} (ha : H a = some (.tup [.ref o, .int n])) (ho : ROs H o r) (hb : H b = some (.tup [.ref o', .int n'])) (ho' : ROs H o' r) (hn : n = n') (q : ∀ H', Fr No H H' → Q (.bl true) H') : spSam 64 [.ref a, .ref b] H Q E := by
  subst hn
  obtain ⟨d1, d2, d3⟩ := ho.dq
  obtain ⟨e1, _, _⟩ := ho'.dq
  refine ⟨.ref a, .ref b, .tup [oDq r, .int n], rfl, .tup ha (.cons d1 (.cons (.int _) .nil)), .tup hb (.cons e1 (.cons (.int _) .nil)), ?_, ?_, q⟩
  · show 1 + max (depQ (oDq r)) (max 1 0) ≤ 63 + 1
    omega
  · exact ⟨by show 2 ≤ 900; omega, d3, trivial, trivial⟩
theorem als_rdp {H : Hp} : ∀ {us : List V} {ds : List ((Str × Str) × Tr)}, Als (RDg H) us ds → (∀ d ∈ ds, widT d.2) → Als (RDp H) us ds
  | _, _, .nil, _ => .nil
  | _, _, .cons r rs, hd => by
    obtain ⟨a, c, e, h1, h2⟩ := r
    exact .cons ⟨a, c, e, h1, h2, hd _ List.mem_cons_self⟩ (als_rdp rs fun d m => hd d (List.mem_cons_of_mem _ m))
theorem rp_ev {P1 D : Addr} {us : List V} {c : V} {ds : List ((Str × Str) × Tr)} {t : Tr} {m l' s' : Nat} {r : Rs} {H : Hp} {Q : VK} {E : XK} {i : Int} (hD : H D = some (.lst us)) (al : Als (RDg H) us ds) (rt : RT H c t) (pg : PgOk ds t) (tg : GxR.TabG H P1) (hev : evP 151 ds t [] m 1 = some (r, l', s')) (hi : i = (m : Nat)) (ok : ∀ ws, r = .out ws → wsOk ws)
    (q : ∀ a o H', Fr No H H' → H' a = some (.tup [.ref o, .int ((m - l' : Nat) : Int)]) → ROs H' o r → Q (.ref a) H') : spRp P1 [.ref D, c, .int i] H Q E := by
  subst hi
  obtain ⟨k0, hk⟩ := plainF_ev (f := 151) (m := m) (by decide) ds t [] m 1 r l' s' hev (Nat.le_refl _)
  have hk := hk k0 (Nat.le_refl _)
  rw [Nat.sub_self] at hk
  have al2 : Als (RDp H) us ds := als_rdp al fun d hd => gd_wid (pg.d d hd).1.g
  refine ⟨D, us, ds, c, m, t, k0, rfl, hD, al2, by have := pg.l; omega, rt, gd_wid pg.t.g, tg, ?_⟩
  rw [hk]
  cases r with
  | val v => exact fun a o u H' f ha hd rs => q a o H' f ha ⟨u, hd, rs⟩
  | out ws => exact fun a o H' f ha hd => q a o H' f ha ⟨hd, ok _ rfl⟩
end My
namespace My
open PySem PySem.Spec PyProof.Rows L2 TL
/-! ### the law -/
abbrev sLaw : Stmt := top 58
abbrev NLw : List Str := ["script", "state", "definitions", "core", "told", "steps", "deepest", "passed"]
def spLaw (K : PySem.W.Frag) (P1 : Addr) : Sp := fun vs H Q _ => ∃ (a : Addr) (ns : List Int), vs = [.ref a] ∧ SqL K H a (ns.map V.int) ∧ ns.length ≤ 63 ∧ GxR.TabG H P1 ∧ ∀ H', Q (.bl true) H'
section
variable {P : Program} {w : World} {K : PySem.W.Frag} {mg : Str → Option Value} {base : Heap}
theorem scLaw : FnScope NLw ["script"] (defScope sLaw) := ⟨rfl, rfl, rfl, by decide +kernel, rfl, by decide +kernel, by decide +kernel⟩
theorem ok_law {f fS fG fD fM fP P1 : Addr} {fd dS dG dD dM dP : FuncData} (F : Fun K "law" "law" sLaw f fd) (B : Blt mg) (GS : Cal P w K mg base CX0 1 "_law_state" ["script"] (spState K) fS dS) (GG : Cal P w K mg base CX0 24 "_law_program" ["state"] spPgm fG dG)
    (GD : Cal P w K mg base CX0 186 "_law_due" ["definitions", "core", "most"] spDu fD dD) (GM : Cal P w K mg base CX0 64 "_law_same" ["one", "two"] (spSam 64) fM dM) (GP : Cal P w K mg base CX0 72 "run_plain" ["definitions", "core", "most"] (spRp P1) fP dP) : FnOk P w K mg base CX0 187 f fd ["script"] (spLaw K P1) := by
  refine F.ok scLaw (fun vs H Q E h => ?_) (fun cdv A outer s0 H vs Q E hr h => ?_)
  · obtain ⟨a, ns, rfl, _⟩ := h
    rfl
  obtain ⟨a, ns, rfl, hS, hn, tg, q⟩ := h
  have nd := scLaw.nd
  have hu := hu_of hr
  have hu0 := rm0 hr
  have r1 : Room 1 _ := hr.mono (show 1 ≤ 186 by decide)
  have r24 : Room 24 _ := hr.mono (show 24 ≤ 186 by decide)
  have r64 : Room 64 _ := hr.mono (show 64 ≤ 186 by decide)
  have r72 : Room 72 _ := hr.mono (show 72 ≤ 186 by decide)
  refine ⟨_, (pss_cons (ps_set (i := 1) nd rfl (Or.inl rfl) (pe_call GS.ok r1 rfl GS.g GS.k GS.b .nil pass0 (pa_cons (pv 0) pa_nil)))
    (pss_cons (ps_asg (pe_call GG.ok r24 rfl GG.g GG.k GG.b .nil pass0 (pa_cons (pv 1) pa_nil)) (pg_tup rfl (pgs_cons (pg_name (i := 2) nd rfl (Or.inl rfl)) (pgs_cons (pg_name (i := 3) nd rfl (Or.inl rfl)) pgs_nil))))
    (pss_cons (ps_asg (pe_call GD.ok hr rfl GD.g GD.k GD.b .nil pass0 (pa_cons (pv 2) (pa_cons (pv 3) (pa_cons pe_int pa_nil)))) (pg_tup rfl (pgs_cons (pg_name (i := 4) nd rfl (Or.inl rfl)) (pgs_cons (pg_name (i := 5) nd rfl (Or.inl rfl)) (pgs_cons (pg_name (i := 6) nd rfl (Or.inl rfl)) pgs_nil)))))
    (pss_cons (ps_set (i := 7) nd rfl (Or.inl rfl) (pe_callTy call_list_of (by rfl) B.list (by decide +kernel) (pa_cons (pv 2) pa_nil)))
    (pss_cons (ps_if (PW.pt (pw_or (pt_not (pt_val (pe_call GM.ok r64 rfl GM.g GM.k GM.b .nil pass0 (pa_cons (pe_call GP.ok r72 rfl GP.g GP.k GP.b .nil pass0 (pa_cons (pv 7) (pa_cons (pv 3) (pa_cons pe_int pa_nil)))) (pa_cons (pe_tup (pa_cons (pv 4) (pa_cons (pv 5) pa_nil))) pa_nil))))) (pw_or1 (pt_cmpR (op_neD hr.units) (pv 7) (pv 2) (nomark _))))) (pss_one (ps_ret pe_bl)) pss_nil)
    (pss_cons (ps_if (pt_cmpR (op_eqW hu0) (pv 4) (pe_tup (pa_cons pe_str pa_nil)) (nomark _)) (pss_one (ps_ret (pe_and (pe_cmpR op_eq (pv 5) pe_int (nomark _)) (pe_one (pe_call GM.ok r64 rfl GM.g GM.k GM.b .nil pass0 (pa_cons (pe_call GP.ok r72 rfl GP.g GP.k GP.b .nil pass0 (pa_cons (pv 2) (pa_cons (pv 3) (pa_cons pe_int pa_nil)))) (pa_cons (pe_tup (pa_cons (pe_tup (pa_cons pe_str pa_nil)) (pa_cons pe_int pa_nil))) pa_nil))))))) pss_nil)
    (pss_cons (ps_if (pt_not (pt_val (pe_call GM.ok r64 rfl GM.g GM.k GM.b .nil pass0 (pa_cons (pe_call GP.ok r72 rfl GP.g GP.k GP.b .nil pass0 (pa_cons (pv 2) (pa_cons (pv 3) (pa_cons (pv 5) pa_nil)))) (pa_cons (pe_tup (pa_cons (pv 4) (pa_cons (pv 5) pa_nil))) pa_nil))))) (pss_one (ps_ret pe_bl)) pss_nil)
    (pss_one (ps_ret (pe_call GM.ok r64 rfl GM.g GM.k GM.b .nil pass0 (pa_cons (pe_call GP.ok r72 rfl GP.g GP.k GP.b .nil pass0 (pa_cons (pv 2) (pa_cons (pv 3) (pa_cons (pe_op op_sub (pv 5) pe_int) pa_nil)))) (pa_cons (pe_tup (pa_cons (pe_tup (pa_cons pe_str pa_nil)) (pa_cons (pe_op op_sub (pv 5) pe_int) pa_nil))) pa_nil)))))))))))), ?_⟩
  refine ⟨_, rfl, a, ns, rfl, hS, hn, fun S L H1 hS0 hL0 ls s1 => ?_⟩
  have f1 : Fr No H H1 := (Fr.of s1).no
  refine ⟨_, rfl, S, L, rfl, ls, fun R D us c ds t H2 l2 f2 hR hD hD0 al rt pg => ?_⟩
  refine ⟨R, _, rfl, SqT.of hR, rfl, _, _, rfl, _, _, rfl, rfl, ?_⟩
  obtain ⟨r, l', s', hev, le, hok⟩ := evP_tot (f := 151) ds t [] 150 1 (fun d hd => (pg.d d hd).1) pg.t (fun k v h => by cases h) (by decide)
  refine ⟨_, rfl, _, rfl, D, us, c, ds, t, 150, r, l', s', rfl, hD, al, rt, pg, Nat.le_refl _, hev, fun A2 o H3 f3 hA2 ro => ?_⟩
  refine ⟨A2, _, rfl, SqT.of hA2, rfl, _, _, rfl, _, _, rfl, _, _, rfl, rfl, ?_⟩
  have e1 : ((150 : Nat) : Int) - (l' : Nat) = ((150 - l' : Nat) : Int) := by omega
  rw [e1]
  have tg1 : GxR.TabG H1 P1 := s1.tab _ tg
  have hD3 := f3.keep (fun z => z) rfl hD
  refine ⟨_, rfl, D, us, rfl, .inl (SqL.of hD3), fun D2 hD2 => ?_⟩
  have f4 : Fr No H3 (upd H3 D2 (.lst us)) := Fr.new hD2
  have hDD : D ≠ D2 := fun e => by rw [← e, hD3] at hD2; cases hD2
  have tg4 : GxR.TabG (upd H3 D2 (.lst us)) P1 := f4.sm.tab _ (f3.sm.tab _ (f2.sm.tab _ tg1))
  have k24 : KpT H2 (upd H3 D2 (.lst us)) := f3.tup.trans f4.tup
  have hA4 := f4.tup _ _ hA2
  have ro4 := ro.keep f4.tup
  have rt4 := rt.keep k24
  have al4 : Als (RDg (upd H3 D2 (.lst us))) us ds := al.mono fun _ _ z => z.keep k24
  have hD4 := f4.keep (fun z => z) rfl hD3
  have hP4 : upd H3 D2 (.lst us) D2 = some (.lst us) := upd_same
  generalize upd H3 D2 (.lst us) = H4 at f4 tg4 k24 hA4 ro4 rt4 al4 hD4 hP4 ⊢
  -- 150 steps
  refine ⟨_, rfl, _, rfl, ?_⟩
  show spRp P1 [.ref D2, c, .int 150] H4 _ E0
  refine rp_ev hP4 al4 rt4 pg tg4 hev rfl hok fun a5 o5 H5 f5 ha5 ro5 => ?_
  refine ⟨_, rfl, _, rfl, sl2, fun t6 ht6 => ?_⟩
  unfold tNil
  dsimp only
  have f6 : Fr No H5 (upd H5 t6 (.tup [.ref o, .int ((150 - l' : Nat) : Int)])) := Fr.new ht6
  refine (show spSam 64 [.ref a5, .ref t6] _ _ E0 from sam_ev (f6.tup _ _ ha5) (ro5.keep f6.tup) upd_same (ro4.keep (f5.tup.trans f6.tup)) rfl fun H7 f7 => ?_)
  have f47 : Fr No H4 H7 := f5.trans (f6.trans f7)
  have al7 : Als (RDg H7) us ds := al4.mono fun _ _ z => z.keep f47.tup
  have hD7 := f47.keep (fun z => z) rfl hD4
  have hP7 := f47.keep (fun z => z) rfl hP4
  have rt7 := rt4.keep f47.tup
  have ro7 := ro4.keep f47.tup
  have tg7 : GxR.TabG H7 P1 := f47.sm.tab _ tg4
  have sh : SeqAt.shaped (.list (pyDs ds)) = true := shaped_ds pg.d
  refine ⟨_, rfl, iteF ?_⟩
  refine ⟨_, rfl, _, rfl, .list (pyDs ds), .list (pyDs ds), .lst (SqL.of hP7) (dps_of al7), .lst (SqL.of hD7) (dps_of al7), sh, sh, ?_⟩
  rw [SeqAt.eqv_refl _ (SeqAt.canLay_of_shaped sh)]
  refine ⟨_, rfl, iteF ?_⟩
  -- did the steps run out?
  refine ⟨_, rfl, sl1, fun t8 ht8 => ?_⟩
  try unfold tNil
  try dsimp only
  have f8 : Fr No H7 (upd H7 t8 (.tup [.str "steps"])) := Fr.new ht8
  have al8 : Als (RDg _) us ds := al7.mono fun _ _ z => z.keep f8.tup
  have hD8 := f8.keep (fun z => z) rfl hD7
  have rt8 := rt7.keep f8.tup
  have ro8 := ro7.keep f8.tup
  have tg8 : GxR.TabG _ P1 := f8.sm.tab _ tg7
  have ht8' : upd H7 t8 (.tup [.str "steps"]) t8 = some (.tup [.str "steps"]) := upd_same
  generalize upd H7 t8 (.tup [.str "steps"]) = H8 at f8 al8 hD8 rt8 ro8 tg8 ht8' ⊢
  obtain ⟨w0, xs, h1, h2, h3⟩ : ∃ (w0 : Str) (xs : List V), H8 o = some (.tup (.str w0 :: xs)) ∧ (w0 = "steps" → xs = [] ∧ r = .out stW) ∧ (r = .out stW → w0 = "steps") := by
    cases r with
    | val x =>
      obtain ⟨u, a1, a2⟩ := ro8
      exact ⟨_, _, a1, fun e => absurd e (by decide), fun e => by cases e⟩
    | out ws =>
      obtain ⟨a1, a2⟩ := ro8
      rcases a2 with e | ⟨x, e⟩
      · subst e
        exact ⟨_, _, a1, fun _ => ⟨rfl, rfl⟩, fun _ => rfl⟩
      · subst e
        exact ⟨_, _, a1, fun e => absurd e (by decide), fun e => by
          have e : (2 : Nat) = 1 := congrArg List.length (Rs.out.inj e)
          omega⟩
  refine ⟨o, t8, w0, "steps", xs, rfl, rfl, h1, ht8', fun e => (h2 e).1, _, rfl, ite2 (fun cc => ?_) (fun cc => ?_)⟩
  · obtain ⟨_, er⟩ := h2 (of_decide_eq_true cc)
    subst er
    have z := evP_st _ _ _ _ _ _ _ hev
    subst z
    refine ⟨_, rfl, rfl, _, rfl, ?_⟩
    rw [decide_eq_true (show V.int ((150 - 0 : Nat) : Int) = V.int 150 from rfl)]
    refine iteT ⟨_, rfl, _, rfl, ?_⟩
    show spRp P1 [.ref D, c, .int 0] H8 _ E0
    refine rp_ev (m := 0) hD8 al8 rt8 pg tg8 (evP_zero ds t [] 1) rfl (fun ws e => by cases e; exact .inl rfl) fun a9 o9 H9 f9 ha9 ro9 => ?_
    refine ⟨sl1, fun ta hta => ⟨sl2, fun tb htb => ?_⟩⟩
    try unfold tNil
    try dsimp only
    have fa : Fr No H9 (upd H9 ta (.tup [.str "steps"])) := Fr.new hta
    have fb : Fr No (upd H9 ta (.tup [.str "steps"])) (upd (upd H9 ta (.tup [.str "steps"])) tb (.tup [.ref ta, .int 0])) := Fr.new htb
    exact (show spSam 64 [.ref a9, .ref tb] _ _ E0 from sam_ev ((fa.trans fb).tup _ _ ha9) (ro9.keep (fa.trans fb).tup) upd_same (r := .out stW) ⟨fb.tup _ _ upd_same, .inl rfl⟩ rfl fun Hz fz => q _)
  have ne : r ≠ .out stW := fun e => cc (decide_eq_true (h3 e))
  obtain ⟨_, k1, k2⟩ := evP_cut ds t [] 150 1 r l' s' hev
  have k1 := k1 ne 0
  have pos : 0 < 150 - l' := by
    rcases Nat.eq_zero_or_pos (150 - l') with e | e
    · rw [e, evP_zero] at k1
      cases k1
      exact absurd rfl ne
    · exact e
  refine ⟨_, rfl, _, rfl, _, rfl, ?_⟩
  show spRp P1 [.ref D, c, .int ((150 - l' : Nat) : Int)] H8 _ E0
  refine rp_ev (m := 150 - l') hD8 al8 rt8 pg tg8 k1 rfl hok fun a9 o9 H9 f9 ha9 ro9 => ?_
  refine ⟨_, rfl, _, rfl, sl2, fun ta hta => ?_⟩
  try unfold tNil
  try dsimp only
  have fa : Fr No H9 (upd H9 ta (.tup [.ref o, .int ((150 - l' : Nat) : Int)])) := Fr.new hta
  refine (show spSam 64 [.ref a9, .ref ta] _ _ E0 from sam_ev (fa.tup _ _ ha9) (ro9.keep fa.tup) upd_same (ro8.keep (f9.tup.trans fa.tup)) (by rw [Nat.sub_zero]) fun Hb fb => ?_)
  refine ⟨_, rfl, iteF ?_⟩
  have f8b : Fr No H8 Hb := f9.trans (fa.trans fb)
  obtain ⟨s2, k3, _⟩ := k2 (150 - l' - 1) (by omega)
  refine ⟨_, rfl, _, rfl, _, rfl, _, _, rfl, rfl, ?_⟩
  show spRp P1 [.ref D, c, .int (((150 - l' : Nat) : Int) - 1)] Hb _ E0
  refine rp_ev (m := 150 - l' - 1) (f8b.keep (fun z => z) rfl hD8) (al8.mono fun _ _ z => z.keep f8b.tup) (rt8.keep f8b.tup) pg (f8b.sm.tab _ tg8) k3 (by omega) (fun ws e => by cases e; exact .inl rfl) fun ac oc Hc fc hac roc => ?_
  refine ⟨sl1, fun td htd => ⟨_, rfl, _, _, rfl, rfl, sl2, fun te hte => ?_⟩⟩
  try unfold tNil
  try dsimp only
  have fd' : Fr No Hc (upd Hc td (.tup [.str "steps"])) := Fr.new htd
  have fe : Fr No (upd Hc td (.tup [.str "steps"])) (upd (upd Hc td (.tup [.str "steps"])) te (.tup [.ref td, .int (((150 - l' : Nat) : Int) - 1)])) := Fr.new hte
  exact (show spSam 64 [.ref ac, .ref te] _ _ E0 from sam_ev ((fd'.trans fe).tup _ _ hac) (roc.keep (fd'.trans fe).tup) upd_same (r := .out stW) ⟨fe.tup _ _ upd_same, .inl rfl⟩ (by omega) fun Hz fz => q _)
end
end My
namespace My
open PySem PySem.Spec PyProof.Rows L2 TL
section
open He
variable {K : PySem.W.Frag} {h : Heap} {mg : Str → Option Value} {w : World}
theorem fun_of {x q : Str} {st : Stmt} {f : Addr} {fd : FuncData} (F : FunD K x q (defArgs st) (defBody st) (defScope st) [] [] f fd) : Fun K x q st f fd := by
  obtain ⟨oc, od, dV, kV, doc, pm, an, cdv, ct, osl, e, lk, hcd, hD, hK⟩ := F.ex
  rcases hD with ⟨_, rfl⟩ | ⟨e, _⟩
  · exact ⟨⟨oc, od, kV, doc, pm, an, cdv, ct, osl, e, lk, hcd⟩, F.kp⟩
  · exact absurd rfl e
theorem func_of {x : Str} {st : Stmt} {fd : FuncData} (F : Fun K x x st (ga K x) fd) : FunC K x st (ga K x) fd (codeOf K (x, none)) := by
  obtain ⟨oc, od, kV, doc, pm, an, cdv, ct, osl, e, lk, hcd⟩ := F.ex
  obtain ⟨c, ec⟩ := codeIn_ref hcd
  subst ec
  subst e
  have e2 : codeOf K (x, none) = c := codeOf_eq (p := (x, none)) lk rfl
  rw [e2]
  exact ⟨⟨oc, od, kV, doc, pm, an, ct, osl, rfl, lk, hcd⟩, F.kp⟩
theorem excB_ok {C : Addr} (q : excB K C = true) : ∃ nm q N bs bm sn sub ab col dd k0 k1 k2 k3 k5, K.lookup C = some (excClassObj nm q C N bs bm true sn sub ab col dd k0 k1 k2 k3 k5 "ValueError.__new__") ∧ PySem.HandSPX.refsVE bm = true := by
  unfold excB at q
  split at q
  · rename_i dd cd sl ho
    split at q
    · rename_i C' bm k0 k1 k2 k3 n k5 hm hs
      simp only [Bool.and_eq_true, beq_iff_eq, Bool.not_eq_true'] at q
      obtain ⟨e1, e2, hdel, hd, hr⟩ := q
      obtain ⟨nm, bs, mro, ns, qn, hdct, sn, sub, ab, col, del⟩ := cd
      dsimp only at hm hdel hd
      subst hm hdel hd e1 e2
      have hsl : sl = #[k0, k1, k2, k3, some (.builtin "ValueError.__new__"), k5] := by
        obtain ⟨l⟩ := sl
        simp only at hs
        rw [hs]
      subst hsl
      exact ⟨nm, qn, ns, bs, bm, sn, sub, ab, col, dd, k0, k1, k2, k3, k5, ho, hr⟩
    · cases q
  · cases q
structure ExAll (K : PySem.W.Frag) (C : Addr) : Prop where
  o : OexC K C
  ga : PySem.W.findIn K (.ref C) "__getattribute__" = some (some (.builtin "BaseException.__getattribute__"))
  gg : PySem.W.findIn K (.ref C) "__getattr__" = some none
  hd : PySem.W.hasDictIn K C = true
  cl : PySem.W.findIn K (.ref C) "__class__" = some (some (.builtin "object.__class__"))
  mro : PySem.W.mroIn K C (.type "object") = some true
  no : PySem.W.findIn K (.ref C) "outcome" = some none
theorem excAll_ok {x : Str} (q : excAll K x = true) : ExAll K (ga K x) := by
  obtain ⟨c1, q⟩ := ba q
  obtain ⟨c2, q⟩ := ba q
  obtain ⟨c3, q⟩ := ba q
  obtain ⟨c4, q⟩ := ba q
  obtain ⟨c5, q⟩ := ba q
  obtain ⟨c6, q⟩ := ba q
  obtain ⟨c7, q⟩ := ba q
  obtain ⟨c8, q⟩ := ba q
  obtain ⟨c9, q⟩ := ba q
  obtain ⟨c10, q⟩ := ba q
  exact ⟨⟨excB_ok c1, eqO_ok c2, of_decide_eq_true c3, of_decide_eq_true c4, c5⟩, eqO_ok c6, eqO_ok c7, c8, eqO_ok c9, of_decide_eq_true c10, eqO_ok q⟩
theorem iniB_ok {x : Str} (q : iniB K x = true) : PySem.W.findIn K (.ref (ga K x)) "__init__" = some (some (.ref (ma K (ga K x) "__init__"))) ∧ PySem.W.typeIn K (.ref (ma K (ga K x) "__init__")) = some (.type "function") := by
  obtain ⟨a, b⟩ := ba q
  exact ⟨eqO_ok a, of_decide_eq_true b⟩
end
end My
namespace My
open PySem PySem.Spec PyProof.Rows L2 TL He
abbrev row50 : PySem.W.OpenLaw := PySem.Challenge.rw_aliasfold_k50_whole_plain_meaning
theorem facts {K : PySem.W.Frag} {h : Heap} {mg : Str → Option Value} {w : World} {fa : Addr} (c : SaysX faK fnK tsK tfK exK w h K) (X : K.In h) (G : h.Ns mainGlobals mg) (hfa : mg ("law" : Str) = some (.ref fa)) :
    LamX.LawAtS row50 w K CX0 187 63 "script" mg fa h := by
  have d := c.t.d
  have kdB : ∃ es n, KDict K w (ga K "BEGINNINGS") es n := c.t.tab 0 (t := (fun K => ga K "BEGINNINGS", ["int", "local", "global", "prim", "fn", "let", "if", "call"]))
  have glo : ∀ x : Str, Fa.glo x ∈ faK → mg x = some (.ref (ga K x)) := fun x m => glo_ok X G (d.facts m)
  have fre : ∀ x : Str, Fa.free x ∈ faK → mg x = none := fun x m => free_ok X G (d.facts m)
  have B : Blt mg := ⟨fre "int" (mem_at 85 rfl), fre "abs" (mem_at 80 rfl), fre "len" (mem_at 87 rfl), fre "range" (mem_at 90 rfl), fre "str" (mem_at 93 rfl), fre "isinstance" (mem_at 86 rfl), fre "all" (mem_at 81 rfl), fre "list" (mem_at 88 rfl), fre "tuple" (mem_at 94 rfl), fre "bool" (mem_at 82 rfl)⟩
  have B2 : Bl2 mg := ⟨fre "dict" (mem_at 83 rfl), fre "zip" (mem_at 95 rfl), fre "enumerate" (mem_at 84 rfl), fre "reversed" (mem_at 91 rfl), fre "max" (mem_at 89 rfl)⟩
  have gA : ∃ t, mg "MOST_AROUND" = some (.int 59 t) := He.int_ok X G (d.facts (f := .int "MOST_AROUND" 59) (mem_at 78 rfl))
  have gP : ∃ t, mg "MOST_PAIRS" = some (.int 300 t) := He.int_ok X G (d.facts (f := .int "MOST_PAIRS" 300) (mem_at 77 rfl))
  have gG : ∃ t, mg "GREATEST_RESULT" = some (.int big60 t) := by
    have e60 : big60 = 1000000000000000000000000000000000000000000000000000000000000 := by decide +kernel
    rw [e60]
    exact He.int_ok X G (d.facts (f := .int "GREATEST_RESULT" 1000000000000000000000000000000000000000000000000000000000000) (mem_at 75 rfl))
  have gBEG := glo "BEGINNINGS" (mem_at 76 rfl)
  have gFoldError := glo "FoldError" (mem_at 0 rfl)
  have gPair := glo "Pair" (mem_at 1 rfl)
  have gFunction := glo "Function" (mem_at 2 rfl)
  have gPrimitive := glo "Primitive" (mem_at 3 rfl)
  have gShowing := glo "Showing" (mem_at 4 rfl)
  have gEnded := glo "Ended" (mem_at 5 rfl)
  have gRun := glo "Run" (mem_at 6 rfl)
  have gPlainRun := glo "PlainRun" (mem_at 7 rfl)
  have cXE : (excAll K "Ended") = true := ex_at c.more 0 rfl
  have cIE : (iniB K "Ended") = true := ex_at c.more 1 rfl
  have cO1 : (eqO (PySem.W.specialIn K (.builtin "object.__class__") "__get__") (some (some (.builtin "getset_descriptor.__get__")))) = true := ex_at c.more 2 rfl
  have cO2 : (decide (PySem.W.takesIn K (.builtin "object.__class__") = some true)) = true := ex_at c.more 3 rfl
  have cB1 : (PySem.W.readsIn K (ga K "FoldError") (.type "type")) = true := ex_at c.more 4 rfl
  have cB2 : (eqO (PySem.W.specialIn K (.ref (ga K "FoldError")) "__getattribute__") (some (some (.builtin "type.__getattribute__")))) = true := ex_at c.more 5 rfl
  have cB3 : (valB (PySem.W.findCls K (.ref (ga K "FoldError")) (.type "type") "__init__") "ValueError.__init__") = true := ex_at c.more 6 rfl
  have cIP1 : (eqO (PySem.W.findIn K (.ref (ga K "Pair")) "__class__") (some (some (.builtin "object.__class__")))) = true := ex_at c.more 7 rfl
  have cIP2 : (decide (PySem.W.mroIn K (ga K "Pair") (.type "object") = some true)) = true := ex_at c.more 8 rfl
  have cIF1 : (eqO (PySem.W.findIn K (.ref (ga K "Function")) "__class__") (some (some (.builtin "object.__class__")))) = true := ex_at c.more 9 rfl
  have cIF2 : (decide (PySem.W.mroIn K (ga K "Function") (.type "object") = some true)) = true := ex_at c.more 10 rfl
  have cIR1 : (eqO (PySem.W.findIn K (.ref (ga K "Primitive")) "__class__") (some (some (.builtin "object.__class__")))) = true := ex_at c.more 11 rfl
  have cIR2 : (decide (PySem.W.mroIn K (ga K "Primitive") (.type "object") = some true)) = true := ex_at c.more 12 rfl
  have cEP1 : (eqO (PySem.W.findIn K (.ref (ga K "Pair")) "__eq__") (some (some (.builtin "object.__eq__")))) = true := ex_at c.more 13 rfl
  have cEP2 : (decide (PySem.W.subIn K (.type "int") (.ref (ga K "Pair")) = some false)) = true := ex_at c.more 14 rfl
  have cEP3 : (decide (PySem.W.subIn K (.ref (ga K "Pair")) (.type "int") = some false)) = true := ex_at c.more 15 rfl
  have cEF1 : (eqO (PySem.W.findIn K (.ref (ga K "Function")) "__eq__") (some (some (.builtin "object.__eq__")))) = true := ex_at c.more 16 rfl
  have cEF2 : (decide (PySem.W.subIn K (.type "int") (.ref (ga K "Function")) = some false)) = true := ex_at c.more 17 rfl
  have cEF3 : (decide (PySem.W.subIn K (.ref (ga K "Function")) (.type "int") = some false)) = true := ex_at c.more 18 rfl
  have cER1 : (eqO (PySem.W.findIn K (.ref (ga K "Primitive")) "__eq__") (some (some (.builtin "object.__eq__")))) = true := ex_at c.more 19 rfl
  have cER2 : (decide (PySem.W.subIn K (.type "int") (.ref (ga K "Primitive")) = some false)) = true := ex_at c.more 20 rfl
  have cER3 : (decide (PySem.W.subIn K (.ref (ga K "Primitive")) (.type "int") = some false)) = true := ex_at c.more 21 rfl
  have cKiP : (decide (PySem.W.kitOne K (.type "int") (.ref (ga K "Pair")) = some false)) = true := ex_at c.more 22 rfl
  have cKiF : (decide (PySem.W.kitOne K (.type "int") (.ref (ga K "Function")) = some false)) = true := ex_at c.more 23 rfl
  have cKiR : (decide (PySem.W.kitOne K (.type "int") (.ref (ga K "Primitive")) = some false)) = true := ex_at c.more 24 rfl
  have cKPi : (decide (PySem.W.kitOne K (.ref (ga K "Pair")) (.type "int") = some false)) = true := ex_at c.more 25 rfl
  have cKFi : (decide (PySem.W.kitOne K (.ref (ga K "Function")) (.type "int") = some false)) = true := ex_at c.more 26 rfl
  have cKRi : (decide (PySem.W.kitOne K (.ref (ga K "Primitive")) (.type "int") = some false)) = true := ex_at c.more 27 rfl
  have cKPP : (decide (PySem.W.kitOne K (.ref (ga K "Pair")) (.ref (ga K "Pair")) = some true)) = true := ex_at c.more 28 rfl
  have cKPF : (decide (PySem.W.kitOne K (.ref (ga K "Pair")) (.ref (ga K "Function")) = some false)) = true := ex_at c.more 29 rfl
  have cKPR : (decide (PySem.W.kitOne K (.ref (ga K "Pair")) (.ref (ga K "Primitive")) = some false)) = true := ex_at c.more 30 rfl
  have cKFP : (decide (PySem.W.kitOne K (.ref (ga K "Function")) (.ref (ga K "Pair")) = some false)) = true := ex_at c.more 31 rfl
  have cKFF : (decide (PySem.W.kitOne K (.ref (ga K "Function")) (.ref (ga K "Function")) = some true)) = true := ex_at c.more 32 rfl
  have cKFR : (decide (PySem.W.kitOne K (.ref (ga K "Function")) (.ref (ga K "Primitive")) = some false)) = true := ex_at c.more 33 rfl
  have cKRP : (decide (PySem.W.kitOne K (.ref (ga K "Primitive")) (.ref (ga K "Pair")) = some false)) = true := ex_at c.more 34 rfl
  have cKRF : (decide (PySem.W.kitOne K (.ref (ga K "Primitive")) (.ref (ga K "Function")) = some false)) = true := ex_at c.more 35 rfl
  have cKRR : (decide (PySem.W.kitOne K (.ref (ga K "Primitive")) (.ref (ga K "Primitive")) = some true)) = true := ex_at c.more 36 rfl
  have cR1 : (PySem.W.readsIn K (ga K "Run") (.type "type")) = true := ex_at c.more 37 rfl
  have cR2 : (eqO (PySem.W.specialIn K (.ref (ga K "Run")) "__getattribute__") (some (some (.builtin "type.__getattribute__")))) = true := ex_at c.more 38 rfl
  have cR3 : (refB (PySem.W.findCls K (.ref (ga K "Run")) (.type "type") "__init__") (ma K (ga K "Run") "__init__")) = true := ex_at c.more 39 rfl
  have cMPlainRuncount_step : (methI K "PlainRun" "Run" "count_step") = true := ex_at c.more 40 rfl
  have cMPlainRuncarry_out_program : (methI K "PlainRun" "Run" "carry_out_program") = true := ex_at c.more 41 rfl
  have cMPlainRundefinition : (methI K "PlainRun" "Run" "definition") = true := ex_at c.more 42 rfl
  have cTBint : (eqO (PySem.W.nsIn K (ga K "BEGINNINGS") "int") (some (some (.ref (ga K "begin_int"))))) = true := ex_at c.more 43 rfl
  have cTBlocal : (eqO (PySem.W.nsIn K (ga K "BEGINNINGS") "local") (some (some (.ref (ga K "begin_local"))))) = true := ex_at c.more 44 rfl
  have cTBglobal : (eqO (PySem.W.nsIn K (ga K "BEGINNINGS") "global") (some (some (.ref (ga K "begin_global"))))) = true := ex_at c.more 45 rfl
  have cTBprim : (eqO (PySem.W.nsIn K (ga K "BEGINNINGS") "prim") (some (some (.ref (ga K "begin_prim"))))) = true := ex_at c.more 46 rfl
  have cTBfn : (eqO (PySem.W.nsIn K (ga K "BEGINNINGS") "fn") (some (some (.ref (ga K "begin_fn"))))) = true := ex_at c.more 47 rfl
  have cTBlet : (eqO (PySem.W.nsIn K (ga K "BEGINNINGS") "let") (some (some (.ref (ga K "begin_let"))))) = true := ex_at c.more 48 rfl
  have cTBif : (eqO (PySem.W.nsIn K (ga K "BEGINNINGS") "if") (some (some (.ref (ga K "begin_if"))))) = true := ex_at c.more 49 rfl
  have cTBcall : (eqO (PySem.W.nsIn K (ga K "BEGINNINGS") "call") (some (some (.ref (ga K "begin_call"))))) = true := ex_at c.more 50 rfl
  have xx := excAll_ok cXE
  have iE := iniB_ok cIE
  have BC : BaseC K mg (ga K "FoldError") := ⟨gFoldError, cB1, eqO_ok cB2, valB_ok cB3⟩
  have uPair : FldC K (ga K "Pair") ["first", "second"] := ⟨cls_ok (d.facts (f := .cls "Pair") (mem_at 49 rfl)), fun f m => by
    simp only [List.mem_cons, List.not_mem_nil, or_false] at m
    rcases m with rfl | rfl
    · exact noat_ok (d.facts (f := .noat "Pair" "first") (mem_at 51 rfl))
    · exact noat_ok (d.facts (f := .noat "Pair" "second") (mem_at 52 rfl))⟩
  have uFunction : FldC K (ga K "Function") ["parameters", "body", "kept"] := ⟨cls_ok (d.facts (f := .cls "Function") (mem_at 53 rfl)), fun f m => by
    simp only [List.mem_cons, List.not_mem_nil, or_false] at m
    rcases m with rfl | rfl | rfl
    · exact noat_ok (d.facts (f := .noat "Function" "parameters") (mem_at 55 rfl))
    · exact noat_ok (d.facts (f := .noat "Function" "body") (mem_at 56 rfl))
    · exact noat_ok (d.facts (f := .noat "Function" "kept") (mem_at 57 rfl))⟩
  have uPrimitive : FldC K (ga K "Primitive") ["parameters", "name"] := ⟨cls_ok (d.facts (f := .cls "Primitive") (mem_at 58 rfl)), fun f m => by
    simp only [List.mem_cons, List.not_mem_nil, or_false] at m
    rcases m with rfl | rfl
    · exact noat_ok (d.facts (f := .noat "Primitive" "parameters") (mem_at 60 rfl))
    · exact noat_ok (d.facts (f := .noat "Primitive" "name") (mem_at 61 rfl))⟩
  have uShowing : FldC K (ga K "Showing") ["pairs"] := ⟨cls_ok (d.facts (f := .cls "Showing") (mem_at 62 rfl)), fun f m => by
    simp only [List.mem_cons, List.not_mem_nil, or_false] at m
    rcases m with rfl
    · exact noat_ok (d.facts (f := .noat "Showing" "pairs") (mem_at 64 rfl))⟩
  have uPlainRun : FldC K (ga K "PlainRun") ["most", "steps", "defined", "todo", "results"] := ⟨cls_ok (d.facts (f := .cls "PlainRun") (mem_at 65 rfl)), fun f m => by
    simp only [List.mem_cons, List.not_mem_nil, or_false] at m
    rcases m with rfl | rfl | rfl | rfl | rfl
    · exact noat_ok (d.facts (f := .noat "PlainRun" "most") (mem_at 67 rfl))
    · exact noat_ok (d.facts (f := .noat "PlainRun" "steps") (mem_at 68 rfl))
    · exact noat_ok (d.facts (f := .noat "PlainRun" "defined") (mem_at 69 rfl))
    · exact noat_ok (d.facts (f := .noat "PlainRun" "todo") (mem_at 70 rfl))
    · exact noat_ok (d.facts (f := .noat "PlainRun" "results") (mem_at 71 rfl))⟩
  have uP2 : FldC K (ga K "PlainRun") ["steps", "most"] := ⟨cls_ok (d.facts (f := .cls "PlainRun") (mem_at 65 rfl)), fun f m => by
    simp only [List.mem_cons, List.not_mem_nil, or_false] at m
    rcases m with rfl | rfl
    · exact noat_ok (d.facts (f := .noat "PlainRun" "steps") (mem_at 68 rfl))
    · exact noat_ok (d.facts (f := .noat "PlainRun" "most") (mem_at 67 rfl))⟩
  have uPd : FldC K (ga K "PlainRun") ["defined"] := ⟨cls_ok (d.facts (f := .cls "PlainRun") (mem_at 65 rfl)), fun f m => by
    simp only [List.mem_cons, List.not_mem_nil, or_false] at m
    rcases m with rfl
    · exact noat_ok (d.facts (f := .noat "PlainRun" "defined") (mem_at 69 rfl))⟩
  have uPr : FldC K (ga K "PlainRun") ["most", "steps", "defined"] := ⟨cls_ok (d.facts (f := .cls "PlainRun") (mem_at 65 rfl)), fun f m => by
    simp only [List.mem_cons, List.not_mem_nil, or_false] at m
    rcases m with rfl | rfl | rfl
    · exact noat_ok (d.facts (f := .noat "PlainRun" "most") (mem_at 67 rfl))
    · exact noat_ok (d.facts (f := .noat "PlainRun" "steps") (mem_at 68 rfl))
    · exact noat_ok (d.facts (f := .noat "PlainRun" "defined") (mem_at 69 rfl))⟩
  let VS : Cs := ⟨(ga K "Pair"), (ga K "Function"), (ga K "Primitive")⟩
  have VC : ValC K mg VS := ⟨gPair, gFunction, gPrimitive, uPair, uFunction, uPrimitive, ⟨eqO_ok cIP1, of_decide_eq_true cIP2⟩, ⟨eqO_ok cIF1, of_decide_eq_true cIF2⟩, ⟨eqO_ok cIR1, of_decide_eq_true cIR2⟩, ⟨eqO_ok cO1, of_decide_eq_true cO2⟩, of_decide_eq_true cKiP, of_decide_eq_true cKiF, of_decide_eq_true cKiR, of_decide_eq_true cKPi, of_decide_eq_true cKFi, of_decide_eq_true cKRi, of_decide_eq_true cKPP, of_decide_eq_true cKPF, of_decide_eq_true cKPR, of_decide_eq_true cKFP, of_decide_eq_true cKFF, of_decide_eq_true cKFR, of_decide_eq_true cKRP, of_decide_eq_true cKRF, of_decide_eq_true cKRR⟩
  have CO : CmpV K (VS.pa, VS.fu, VS.pr) := ⟨⟨eqO_ok cEP1, of_decide_eq_true cEP2, of_decide_eq_true cEP3, of_decide_eq_true cIP2⟩, ⟨eqO_ok cEF1, of_decide_eq_true cEF2, of_decide_eq_true cEF3, of_decide_eq_true cIF2⟩, ⟨eqO_ok cER1, of_decide_eq_true cER2, of_decide_eq_true cER3, of_decide_eq_true cIR2⟩⟩
  have EC : EndC K mg (ga K "Ended") := ⟨gEnded, ⟨xx.ga, xx.gg, xx.o.exC, xx.hd⟩, xx.no, exm_ok (d.facts (f := .exm "Ended" "Ended" true) (mem_at 74 rfl))⟩
  obtain ⟨dPair_Init, DPair_Init⟩ := d.def_ 0 (d := dc 7 0 "Pair" "__init__" "Pair.__init__") rfl
  have FPair_Init : Fun K "__init__" "Pair.__init__" (inClass (top 7) 0) (ma K (ga K "Pair") "__init__") dPair_Init := fun_of DPair_Init
  have bPair_Init : Binds K dPair_Init ["self", "first", "second"] [] := FPair_Init.binds fun _ _ _ _ _ _ us hl => match us, hl with | [_, _, _], _ => rfl
  obtain ⟨dFunction_Init, DFunction_Init⟩ := d.def_ 1 (d := dc 8 0 "Function" "__init__" "Function.__init__") rfl
  have FFunction_Init : Fun K "__init__" "Function.__init__" (inClass (top 8) 0) (ma K (ga K "Function") "__init__") dFunction_Init := fun_of DFunction_Init
  have bFunction_Init : Binds K dFunction_Init ["self", "parameters", "body", "kept"] [] := FFunction_Init.binds fun _ _ _ _ _ _ us hl => match us, hl with | [_, _, _, _], _ => rfl
  obtain ⟨dPrimitive_Init, DPrimitive_Init⟩ := d.def_ 2 (d := dc 9 0 "Primitive" "__init__" "Primitive.__init__") rfl
  have FPrimitive_Init : Fun K "__init__" "Primitive.__init__" (inClass (top 9) 0) (ma K (ga K "Primitive") "__init__") dPrimitive_Init := fun_of DPrimitive_Init
  have bPrimitive_Init : Binds K dPrimitive_Init ["self", "name"] [] := FPrimitive_Init.binds fun _ _ _ _ _ _ us hl => match us, hl with | [_, _], _ => rfl
  obtain ⟨dShowing_Init, DShowing_Init⟩ := d.def_ 3 (d := dc 10 0 "Showing" "__init__" "Showing.__init__") rfl
  have FShowing_Init : Fun K "__init__" "Showing.__init__" (inClass (top 10) 0) (ma K (ga K "Showing") "__init__") dShowing_Init := fun_of DShowing_Init
  have bShowing_Init : Binds K dShowing_Init ["self"] [] := FShowing_Init.binds fun _ _ _ _ _ _ us hl => match us, hl with | [_], _ => rfl
  obtain ⟨dShowing_Show, DShowing_Show⟩ := d.def_ 4 (d := dc 10 1 "Showing" "show" "Showing.show") rfl
  have FShowing_Show : Fun K "show" "Showing.show" (inClass (top 10) 1) (ma K (ga K "Showing") "show") dShowing_Show := fun_of DShowing_Show
  have bShowing_Show : Binds K dShowing_Show ["self", "value", "around"] [] := FShowing_Show.binds fun _ _ _ _ _ _ us hl => match us, hl with | [_, _, _], _ => rfl
  obtain ⟨dEnded_Init, DEnded_Init⟩ := d.def_ 5 (d := dc 14 0 "Ended" "__init__" "Ended.__init__") rfl
  have FEnded_Init : Fun K "__init__" "Ended.__init__" (inClass (top 14) 0) (ma K (ga K "Ended") "__init__") dEnded_Init := fun_of DEnded_Init
  have bEnded_Init : Binds K dEnded_Init ["self", "outcome"] [] := FEnded_Init.binds fun _ _ _ _ _ _ us hl => match us, hl with | [_, _], _ => rfl
  obtain ⟨dRun_Init, DRun_Init⟩ := d.def_ 6 (d := dc 15 0 "Run" "__init__" "Run.__init__") rfl
  have FRun_Init : Fun K "__init__" "Run.__init__" (inClass (top 15) 0) (ma K (ga K "Run") "__init__") dRun_Init := fun_of DRun_Init
  have bRun_Init : Binds K dRun_Init ["self", "most"] [] := FRun_Init.binds fun _ _ _ _ _ _ us hl => match us, hl with | [_, _], _ => rfl
  obtain ⟨dRun_CountStep, DRun_CountStep⟩ := d.def_ 7 (d := dc 15 1 "Run" "count_step" "Run.count_step") rfl
  have FRun_CountStep : Fun K "count_step" "Run.count_step" (inClass (top 15) 1) (ma K (ga K "Run") "count_step") dRun_CountStep := fun_of DRun_CountStep
  have bRun_CountStep : Binds K dRun_CountStep ["self"] [] := FRun_CountStep.binds fun _ _ _ _ _ _ us hl => match us, hl with | [_], _ => rfl
  obtain ⟨dRun_Definition, DRun_Definition⟩ := d.def_ 8 (d := dc 15 2 "Run" "definition" "Run.definition") rfl
  have FRun_Definition : Fun K "definition" "Run.definition" (inClass (top 15) 2) (ma K (ga K "Run") "definition") dRun_Definition := fun_of DRun_Definition
  have bRun_Definition : Binds K dRun_Definition ["self", "module", "name"] [] := FRun_Definition.binds fun _ _ _ _ _ _ us hl => match us, hl with | [_, _, _], _ => rfl
  obtain ⟨dRun_CarryOutProgram, DRun_CarryOutProgram⟩ := d.def_ 9 (d := dc 15 3 "Run" "carry_out_program" "Run.carry_out_program") rfl
  have FRun_CarryOutProgram : Fun K "carry_out_program" "Run.carry_out_program" (inClass (top 15) 3) (ma K (ga K "Run") "carry_out_program") dRun_CarryOutProgram := fun_of DRun_CarryOutProgram
  have bRun_CarryOutProgram : Binds K dRun_CarryOutProgram ["self", "definitions", "last"] [] := FRun_CarryOutProgram.binds fun _ _ _ _ _ _ us hl => match us, hl with | [_, _, _], _ => rfl
  obtain ⟨dPlainrun_Init, DPlainrun_Init⟩ := d.def_ 10 (d := dc 36 0 "PlainRun" "__init__" "PlainRun.__init__") rfl
  have FPlainrun_Init : Fun K "__init__" "PlainRun.__init__" (inClass (top 36) 0) (ma K (ga K "PlainRun") "__init__") dPlainrun_Init := fun_of DPlainrun_Init
  have bPlainrun_Init : Binds K dPlainrun_Init ["self", "most"] [] := FPlainrun_Init.binds fun _ _ _ _ _ _ us hl => match us, hl with | [_, _], _ => rfl
  obtain ⟨dPlainrun_CarryOut, DPlainrun_CarryOut⟩ := d.def_ 11 (d := dc 36 1 "PlainRun" "carry_out" "PlainRun.carry_out") rfl
  have FPlainrun_CarryOut : Fun K "carry_out" "PlainRun.carry_out" (inClass (top 36) 1) (ma K (ga K "PlainRun") "carry_out") dPlainrun_CarryOut := fun_of DPlainrun_CarryOut
  have bPlainrun_CarryOut : Binds K dPlainrun_CarryOut ["self", "core"] [] := FPlainrun_CarryOut.binds fun _ _ _ _ _ _ us hl => match us, hl with | [_, _], _ => rfl
  obtain ⟨dBoundNumbers, DBoundNumbers⟩ := d.def_ 12 (d := dd 3 "bound_numbers") rfl
  have FBoundNumbers : Fun K "bound_numbers" "bound_numbers" (top 3) (ga K "bound_numbers") dBoundNumbers := fun_of DBoundNumbers
  have bBoundNumbers : Binds K dBoundNumbers ["core"] [] := FBoundNumbers.binds fun _ _ _ _ _ _ us hl => match us, hl with | [_], _ => rfl
  obtain ⟨dShown, DShown⟩ := d.def_ 13 (d := dd 11 "shown") rfl
  have FShown : Fun K "shown" "shown" (top 11) (ga K "shown") dShown := fun_of DShown
  have bShown : Binds K dShown ["value"] [] := FShown.binds fun _ _ _ _ _ _ us hl => match us, hl with | [_], _ => rfl
  obtain ⟨dTakeLast, DTakeLast⟩ := d.def_ 14 (d := dd 16 "take_last") rfl
  have FTakeLast : Fun K "take_last" "take_last" (top 16) (ga K "take_last") dTakeLast := fun_of DTakeLast
  have bTakeLast : Binds K dTakeLast ["stack", "many"] [] := FTakeLast.binds fun _ _ _ _ _ _ us hl => match us, hl with | [_, _], _ => rfl
  obtain ⟨dCheckCall, DCheckCall⟩ := d.def_ 15 (d := dd 17 "check_call") rfl
  have FCheckCall : Fun K "check_call" "check_call" (top 17) (ga K "check_call") dCheckCall := fun_of DCheckCall
  have bCheckCall : Binds K dCheckCall ["called", "parts"] [] := FCheckCall.binds fun _ _ _ _ _ _ us hl => match us, hl with | [_, _], _ => rfl
  obtain ⟨dHalf, DHalf⟩ := d.def_ 16 (d := dd 18 "half") rfl
  have FHalf : Fun K "half" "half" (top 18) (ga K "half") dHalf := fun_of DHalf
  have bHalf : Binds K dHalf ["name", "value"] [] := FHalf.binds fun _ _ _ _ _ _ us hl => match us, hl with | [_, _], _ => rfl
  obtain ⟨dReckon, DReckon⟩ := d.def_ 17 (d := dd 19 "reckon") rfl
  have FReckon : Fun K "reckon" "reckon" (top 19) (ga K "reckon") dReckon := fun_of DReckon
  have bReckon : Binds K dReckon ["name", "left", "right"] [] := FReckon.binds fun _ _ _ _ _ _ us hl => match us, hl with | [_, _, _], _ => rfl
  obtain ⟨dCallPrimitive, DCallPrimitive⟩ := d.def_ 18 (d := dd 20 "call_primitive") rfl
  have FCallPrimitive : Fun K "call_primitive" "call_primitive" (top 20) (ga K "call_primitive") dCallPrimitive := fun_of DCallPrimitive
  have bCallPrimitive : Binds K dCallPrimitive ["name", "parts"] [] := FCallPrimitive.binds fun _ _ _ _ _ _ us hl => match us, hl with | [_, _], _ => rfl
  obtain ⟨dWithVariables, DWithVariables⟩ := d.def_ 19 (d := dd 22 "with_variables") rfl
  have FWithVariables : Fun K "with_variables" "with_variables" (top 22) (ga K "with_variables") dWithVariables := fun_of DWithVariables
  have bWithVariables : Binds K dWithVariables ["variables", "numbers", "results"] [] := FWithVariables.binds fun _ _ _ _ _ _ us hl => match us, hl with | [_, _, _], _ => rfl
  obtain ⟨dBeginInt, DBeginInt⟩ := d.def_ 20 (d := dd 23 "begin_int") rfl
  have FBeginInt : Fun K "begin_int" "begin_int" (top 23) (ga K "begin_int") dBeginInt := fun_of DBeginInt
  have bBeginInt : Binds K dBeginInt ["run", "core", "_"] [] := FBeginInt.binds fun _ _ _ _ _ _ us hl => match us, hl with | [_, _, _], _ => rfl
  obtain ⟨dBeginLocal, DBeginLocal⟩ := d.def_ 21 (d := dd 24 "begin_local") rfl
  have FBeginLocal : Fun K "begin_local" "begin_local" (top 24) (ga K "begin_local") dBeginLocal := fun_of DBeginLocal
  have bBeginLocal : Binds K dBeginLocal ["run", "core", "variables"] [] := FBeginLocal.binds fun _ _ _ _ _ _ us hl => match us, hl with | [_, _, _], _ => rfl
  obtain ⟨dBeginGlobal, DBeginGlobal⟩ := d.def_ 22 (d := dd 25 "begin_global") rfl
  have FBeginGlobal : Fun K "begin_global" "begin_global" (top 25) (ga K "begin_global") dBeginGlobal := fun_of DBeginGlobal
  have bBeginGlobal : Binds K dBeginGlobal ["run", "core", "_"] [] := FBeginGlobal.binds fun _ _ _ _ _ _ us hl => match us, hl with | [_, _, _], _ => rfl
  obtain ⟨dBeginPrim, DBeginPrim⟩ := d.def_ 23 (d := dd 26 "begin_prim") rfl
  have FBeginPrim : Fun K "begin_prim" "begin_prim" (top 26) (ga K "begin_prim") dBeginPrim := fun_of DBeginPrim
  have bBeginPrim : Binds K dBeginPrim ["run", "core", "_"] [] := FBeginPrim.binds fun _ _ _ _ _ _ us hl => match us, hl with | [_, _, _], _ => rfl
  obtain ⟨dBeginFn, DBeginFn⟩ := d.def_ 24 (d := dd 27 "begin_fn") rfl
  have FBeginFn : Fun K "begin_fn" "begin_fn" (top 27) (ga K "begin_fn") dBeginFn := fun_of DBeginFn
  have bBeginFn : Binds K dBeginFn ["run", "core", "variables"] [] := FBeginFn.binds fun _ _ _ _ _ _ us hl => match us, hl with | [_, _, _], _ => rfl
  obtain ⟨dBeginLet, DBeginLet⟩ := d.def_ 25 (d := dd 28 "begin_let") rfl
  have FBeginLet : Fun K "begin_let" "begin_let" (top 28) (ga K "begin_let") dBeginLet := fun_of DBeginLet
  have bBeginLet : Binds K dBeginLet ["run", "core", "variables"] [] := FBeginLet.binds fun _ _ _ _ _ _ us hl => match us, hl with | [_, _, _], _ => rfl
  obtain ⟨dEndLet, DEndLet⟩ := d.def_ 26 (d := dd 29 "end_let") rfl
  have FEndLet : Fun K "end_let" "end_let" (top 29) (ga K "end_let") dEndLet := fun_of DEndLet
  have bEndLet : Binds K dEndLet ["run", "core", "variables"] [] := FEndLet.binds fun _ _ _ _ _ _ us hl => match us, hl with | [_, _, _], _ => rfl
  obtain ⟨dBeginIf, DBeginIf⟩ := d.def_ 27 (d := dd 30 "begin_if") rfl
  have FBeginIf : Fun K "begin_if" "begin_if" (top 30) (ga K "begin_if") dBeginIf := fun_of DBeginIf
  have bBeginIf : Binds K dBeginIf ["run", "core", "variables"] [] := FBeginIf.binds fun _ _ _ _ _ _ us hl => match us, hl with | [_, _, _], _ => rfl
  obtain ⟨dEndIf, DEndIf⟩ := d.def_ 28 (d := dd 31 "end_if") rfl
  have FEndIf : Fun K "end_if" "end_if" (top 31) (ga K "end_if") dEndIf := fun_of DEndIf
  have bEndIf : Binds K dEndIf ["run", "core", "variables"] [] := FEndIf.binds fun _ _ _ _ _ _ us hl => match us, hl with | [_, _, _], _ => rfl
  obtain ⟨dBeginCall, DBeginCall⟩ := d.def_ 29 (d := dd 32 "begin_call") rfl
  have FBeginCall : Fun K "begin_call" "begin_call" (top 32) (ga K "begin_call") dBeginCall := fun_of DBeginCall
  have bBeginCall : Binds K dBeginCall ["run", "core", "variables"] [] := FBeginCall.binds fun _ _ _ _ _ _ us hl => match us, hl with | [_, _, _], _ => rfl
  obtain ⟨dEndCall, DEndCall⟩ := d.def_ 30 (d := dd 33 "end_call") rfl
  have FEndCall : Fun K "end_call" "end_call" (top 33) (ga K "end_call") dEndCall := fun_of DEndCall
  have bEndCall : Binds K dEndCall ["run", "core", "_"] [] := FEndCall.binds fun _ _ _ _ _ _ us hl => match us, hl with | [_, _, _], _ => rfl
  obtain ⟨dBegin, DBegin⟩ := d.def_ 31 (d := dd 35 "begin") rfl
  have FBegin : Fun K "begin" "begin" (top 35) (ga K "begin") dBegin := fun_of DBegin
  have bBegin : Binds K dBegin ["run", "core", "variables"] [] := FBegin.binds fun _ _ _ _ _ _ us hl => match us, hl with | [_, _, _], _ => rfl
  obtain ⟨dRunPlain, DRunPlain⟩ := d.def_ 32 (d := dd 37 "run_plain") rfl
  have FRunPlain : Fun K "run_plain" "run_plain" (top 37) (ga K "run_plain") dRunPlain := fun_of DRunPlain
  have bRunPlain : Binds K dRunPlain ["definitions", "core", "most"] [] := FRunPlain.binds fun _ _ _ _ _ _ us hl => match us, hl with | [_, _, _], _ => rfl
  obtain ⟨dLMixed, DLMixed⟩ := d.def_ 33 (d := dd 39 "_law_mixed") rfl
  have FLMixed : Fun K "_law_mixed" "_law_mixed" (top 39) (ga K "_law_mixed") dLMixed := fun_of DLMixed
  have bLMixed : Binds K dLMixed ["cell"] [] := FLMixed.binds fun _ _ _ _ _ _ us hl => match us, hl with | [_], _ => rfl
  obtain ⟨dLTake, DLTake⟩ := d.def_ 34 (d := dd 40 "_law_take") rfl
  have FLTake : Fun K "_law_take" "_law_take" (top 40) (ga K "_law_take") dLTake := fun_of DLTake
  have bLTake : Binds K dLTake ["state", "limit"] [] := FLTake.binds fun _ _ _ _ _ _ us hl => match us, hl with | [_, _], _ => rfl
  obtain ⟨dLState, DLState⟩ := d.def_ 35 (d := dd 41 "_law_state") rfl
  have FLState : Fun K "_law_state" "_law_state" (top 41) (ga K "_law_state") dLState := fun_of DLState
  have bLState : Binds K dLState ["script"] [] := FLState.binds fun _ _ _ _ _ _ us hl => match us, hl with | [_], _ => rfl
  obtain ⟨dLSame, DLSame⟩ := d.def_ 36 (d := dd 42 "_law_same") rfl
  have FLSame : Fun K "_law_same" "_law_same" (top 42) (ga K "_law_same") dLSame := fun_of DLSame
  have bLSame : Binds K dLSame ["one", "two"] [] := FLSame.binds fun _ _ _ _ _ _ us hl => match us, hl with | [_, _], _ => rfl
  obtain ⟨dLLocals, DLLocals⟩ := d.def_ 37 (d := dd 43 "_law_locals") rfl
  have FLLocals : Fun K "_law_locals" "_law_locals" (top 43) (ga K "_law_locals") dLLocals := fun_of DLLocals
  have bLLocals : Binds K dLLocals ["known", "sort"] [] := FLLocals.binds fun _ _ _ _ _ _ us hl => match us, hl with | [_, _], _ => rfl
  obtain ⟨dLNumbers, DLNumbers⟩ := d.def_ 38 (d := dd 44 "_law_numbers") rfl
  have FLNumbers : Fun K "_law_numbers" "_law_numbers" (top 44) (ga K "_law_numbers") dLNumbers := fun_of DLNumbers
  have bLNumbers : Binds K dLNumbers ["state", "count"] [] := FLNumbers.binds fun _ _ _ _ _ _ us hl => match us, hl with | [_, _], _ => rfl
  obtain ⟨dLSmall, DLSmall⟩ := d.def_ 39 (d := dd 45 "_law_small") rfl
  have FLSmall : Fun K "_law_small" "_law_small" (top 45) (ga K "_law_small") dLSmall := fun_of DLSmall
  have bLSmall : Binds K dLSmall ["state"] [] := FLSmall.binds fun _ _ _ _ _ _ us hl => match us, hl with | [_], _ => rfl
  obtain ⟨dLFunction, DLFunction⟩ := d.def_ 40 (d := dd 46 "_law_function") rfl
  have FLFunction : Fun K "_law_function" "_law_function" (top 46) (ga K "_law_function") dLFunction := fun_of DLFunction
  have bLFunction : Binds K dLFunction ["state", "known", "world", "room", "arity"] [] := FLFunction.binds fun _ _ _ _ _ _ us hl => match us, hl with | [_, _, _, _, _], _ => rfl
  obtain ⟨dLStrange, DLStrange⟩ := d.def_ 41 (d := dd 47 "_law_strange") rfl
  have FLStrange : Fun K "_law_strange" "_law_strange" (top 47) (ga K "_law_strange") dLStrange := fun_of DLStrange
  have bLStrange : Binds K dLStrange ["state", "known", "world", "room"] [] := FLStrange.binds fun _ _ _ _ _ _ us hl => match us, hl with | [_, _, _, _], _ => rfl
  obtain ⟨dLLet, DLLet⟩ := d.def_ 42 (d := dd 48 "_law_let") rfl
  have FLLet : Fun K "_law_let" "_law_let" (top 48) (ga K "_law_let") dLLet := fun_of DLLet
  have bLLet : Binds K dLLet ["state", "known", "world", "room"] [] := FLLet.binds fun _ _ _ _ _ _ us hl => match us, hl with | [_, _, _, _], _ => rfl
  obtain ⟨dLPart, DLPart⟩ := d.def_ 43 (d := dd 49 "_law_part") rfl
  have FLPart : Fun K "_law_part" "_law_part" (top 49) (ga K "_law_part") dLPart := fun_of DLPart
  have bLPart : Binds K dLPart ["state", "known", "world", "room"] [] := FLPart.binds fun _ _ _ _ _ _ us hl => match us, hl with | [_, _, _, _], _ => rfl
  obtain ⟨dLProgram, DLProgram⟩ := d.def_ 44 (d := dd 50 "_law_program") rfl
  have FLProgram : Fun K "_law_program" "_law_program" (top 50) (ga K "_law_program") dLProgram := fun_of DLProgram
  have bLProgram : Binds K dLProgram ["state"] [] := FLProgram.binds fun _ _ _ _ _ _ us hl => match us, hl with | [_], _ => rfl
  obtain ⟨dLPrim, DLPrim⟩ := d.def_ 45 (d := dd 51 "_law_prim") rfl
  have FLPrim : Fun K "_law_prim" "_law_prim" (top 51) (ga K "_law_prim") dLPrim := fun_of DLPrim
  have bLPrim : Binds K dLPrim ["name", "values"] [] := FLPrim.binds fun _ _ _ _ _ _ us hl => match us, hl with | [_, _], _ => rfl
  obtain ⟨dLWith, DLWith⟩ := d.def_ 46 (d := dd 52 "_law_with") rfl
  have FLWith : Fun K "_law_with" "_law_with" (top 52) (ga K "_law_with") dLWith := fun_of DLWith
  have bLWith : Binds K dLWith ["around", "numbers", "values"] [] := FLWith.binds fun _ _ _ _ _ _ us hl => match us, hl with | [_, _, _], _ => rfl
  obtain ⟨dLAll, DLAll⟩ := d.def_ 47 (d := dd 53 "_law_all") rfl
  have FLAll : Fun K "_law_all" "_law_all" (top 53) (ga K "_law_all") dLAll := fun_of DLAll
  have bLAll : Binds K dLAll ["parts", "around", "world", "depth"] [] := FLAll.binds fun _ _ _ _ _ _ us hl => match us, hl with | [_, _, _, _], _ => rfl
  obtain ⟨dLCall, DLCall⟩ := d.def_ 48 (d := dd 54 "_law_call") rfl
  have FLCall : Fun K "_law_call" "_law_call" (top 54) (ga K "_law_call") dLCall := fun_of DLCall
  have bLCall : Binds K dLCall ["core", "around", "world", "depth", "last"] [] := FLCall.binds fun _ _ _ _ _ _ us hl => match us, hl with | [_, _, _, _, _], _ => rfl
  obtain ⟨dLRun, DLRun⟩ := d.def_ 49 (d := dd 55 "_law_run") rfl
  have FLRun : Fun K "_law_run" "_law_run" (top 55) (ga K "_law_run") dLRun := fun_of DLRun
  have bLRun : Binds K dLRun ["core", "around", "world", "depth", "last"] [] := FLRun.binds fun _ _ _ _ _ _ us hl => match us, hl with | [_, _, _, _, _], _ => rfl
  obtain ⟨dLShown, DLShown⟩ := d.def_ 50 (d := dd 56 "_law_shown") rfl
  have FLShown : Fun K "_law_shown" "_law_shown" (top 56) (ga K "_law_shown") dLShown := fun_of DLShown
  have bLShown : Binds K dLShown ["value", "depth", "left"] [] := FLShown.binds fun _ _ _ _ _ _ us hl => match us, hl with | [_, _, _], _ => rfl
  obtain ⟨dLDue, DLDue⟩ := d.def_ 51 (d := dd 57 "_law_due") rfl
  have FLDue : Fun K "_law_due" "_law_due" (top 57) (ga K "_law_due") dLDue := fun_of DLDue
  have bLDue : Binds K dLDue ["definitions", "core", "most"] [] := FLDue.binds fun _ _ _ _ _ _ us hl => match us, hl with | [_, _, _], _ => rfl
  obtain ⟨dLaw, DLaw⟩ := d.def_ 52 (d := dd 58 "law") rfl
  have FLaw : Fun K "law" "law" (top 58) (ga K "law") dLaw := fun_of DLaw
  have bLaw : Binds K dLaw ["script"] [] := FLaw.binds fun _ _ _ _ _ _ us hl => match us, hl with | [_], _ => rfl
  have gBoundNumbers := glo "bound_numbers" (mem_at 8 rfl)
  have gShown := glo "shown" (mem_at 9 rfl)
  have gTakeLast := glo "take_last" (mem_at 10 rfl)
  have gCheckCall := glo "check_call" (mem_at 11 rfl)
  have gHalf := glo "half" (mem_at 12 rfl)
  have gReckon := glo "reckon" (mem_at 13 rfl)
  have gCallPrimitive := glo "call_primitive" (mem_at 14 rfl)
  have gWithVariables := glo "with_variables" (mem_at 15 rfl)
  have gBeginInt := glo "begin_int" (mem_at 16 rfl)
  have gBeginLocal := glo "begin_local" (mem_at 17 rfl)
  have gBeginGlobal := glo "begin_global" (mem_at 18 rfl)
  have gBeginPrim := glo "begin_prim" (mem_at 19 rfl)
  have gBeginFn := glo "begin_fn" (mem_at 20 rfl)
  have gBeginLet := glo "begin_let" (mem_at 21 rfl)
  have gEndLet := glo "end_let" (mem_at 22 rfl)
  have gBeginIf := glo "begin_if" (mem_at 23 rfl)
  have gEndIf := glo "end_if" (mem_at 24 rfl)
  have gBeginCall := glo "begin_call" (mem_at 25 rfl)
  have gEndCall := glo "end_call" (mem_at 26 rfl)
  have gBegin := glo "begin" (mem_at 27 rfl)
  have gRunPlain := glo "run_plain" (mem_at 28 rfl)
  have gLMixed := glo "_law_mixed" (mem_at 29 rfl)
  have gLTake := glo "_law_take" (mem_at 30 rfl)
  have gLState := glo "_law_state" (mem_at 31 rfl)
  have gLSame := glo "_law_same" (mem_at 32 rfl)
  have gLLocals := glo "_law_locals" (mem_at 33 rfl)
  have gLNumbers := glo "_law_numbers" (mem_at 34 rfl)
  have gLSmall := glo "_law_small" (mem_at 35 rfl)
  have gLFunction := glo "_law_function" (mem_at 36 rfl)
  have gLStrange := glo "_law_strange" (mem_at 37 rfl)
  have gLLet := glo "_law_let" (mem_at 38 rfl)
  have gLPart := glo "_law_part" (mem_at 39 rfl)
  have gLProgram := glo "_law_program" (mem_at 40 rfl)
  have gLPrim := glo "_law_prim" (mem_at 41 rfl)
  have gLWith := glo "_law_with" (mem_at 42 rfl)
  have gLAll := glo "_law_all" (mem_at 43 rfl)
  have gLCall := glo "_law_call" (mem_at 44 rfl)
  have gLRun := glo "_law_run" (mem_at 45 rfl)
  have gLShown := glo "_law_shown" (mem_at 46 rfl)
  have gLDue := glo "_law_due" (mem_at 47 rfl)
  have gLaw := glo "law" (mem_at 48 rfl)
  let AF : Acts := ⟨(ga K "begin"), (ga K "end_let"), (ga K "end_if"), (ga K "end_call")⟩
  have AG : ActG mg AF := ⟨gBegin, gEndLet, gEndIf, gEndCall⟩
  cases hfa.symm.trans gLaw
  refine ⟨dLaw, tfK.map (cT K), spLaw K (cT K ("call_primitive", none)).2, ?_, ?_, ?_, fun s u => FunD.bindsA (ps := ["script"]) DLaw (fun _ _ _ _ _ _ us hl => match us, hl with | [_], _ => rfl) s [u] rfl, ?_, fun base KX GX hT => ?_⟩
  · intro p hp
    obtain ⟨t, ht, rfl⟩ := List.mem_map.mp hp
    exact c.empty t ht
  · intro p hp
    obtain ⟨t, ht, rfl⟩ := List.mem_map.mp hp
    exact c.out t ht
  · intro p hp
    obtain ⟨t, ht, rfl⟩ := List.mem_map.mp hp
    exact PySem.W.codeHd_of_K X (c.hd t ht)
  · intro H a ns hl _ hH hS
    have tg : ∀ t ∈ tfK, GxR.TabG H (cT K t).2 := fun t ht => ⟨#[], hH _ (List.mem_map.mpr ⟨t, ht, rfl⟩), trivial⟩
    exact ⟨a, ns, rfl, hS, hl, tg _ (by simp [tfK]), fun _ => rfl⟩
  have tb : ∀ t ∈ tfK, GxR.TabB base mg (cT K t).1 (cT K t).2 := fun t ht => by
    have z := hT (cT K t) (List.mem_map.mpr ⟨t, ht, rfl⟩)
    exact ⟨z.code, z.bm, z.gP⟩
  have TB1 : GxR.TabB base mg (codeOf K ("call_primitive", none)) (cT K ("call_primitive", none)).2 := tb _ (by simp [tfK])
  generalize (cT K ("call_primitive", none)).2 = P1 at TB1
  have XE : ErrO row50.prog w K mg base (ga K "Ended") _ dEnded_Init := ⟨xx.o, gEnded, iE.1, iE.2, ok_iniE FEnded_Init BC xx.o xx.no, bEnded_Init⟩
  have mPa : MkC row50.prog w K mg base 1 "Pair" ["self", "first", "second"] (spIni VS.pa 2 (two "first" "second")) (ga K "Pair") _ _ := ⟨mkr_ok (d.facts (f := .mkr "Pair") (mem_at 50 rfl)), ok_pai FPair_Init uPair, gPair, bPair_Init⟩
  have mFu : MkC row50.prog w K mg base 1 "Function" ["self", "parameters", "body", "kept"] (spIni VS.fu 3 (three "parameters" "body" "kept")) (ga K "Function") _ _ := ⟨mkr_ok (d.facts (f := .mkr "Function") (mem_at 54 rfl)), ok_fun FFunction_Init uFunction, gFunction, bFunction_Init⟩
  have mPr : MkC row50.prog w K mg base 1 "Primitive" ["self", "name"] (spPri VS.pr) (ga K "Primitive") _ _ := ⟨mkr_ok (d.facts (f := .mkr "Primitive") (mem_at 59 rfl)), ok_pri FPrimitive_Init uPrimitive, gPrimitive, bPrimitive_Init⟩
  have cBn : Cal row50.prog w K mg base CX0 1 "bound_numbers" ["core"] spBn _ _ := ⟨ok_bn (P := row50.prog) (w := w) (base := base) FBoundNumbers B, FBoundNumbers.kp, gBoundNumbers, bBoundNumbers⟩
  have cTl : Cal row50.prog w K mg base CX0 1 "take_last" ["stack", "many"] spTak _ _ := ⟨ok_tak (P := row50.prog) (w := w) (base := base) FTakeLast B, FTakeLast.kp, gTakeLast, bTakeLast⟩
  have cCh : Cal row50.prog w K mg base (L2.CX row50.prog w) 3 "check_call" ["called", "parts"] (spChk VS (ga K "Ended")) _ _ := ⟨ok_chk FCheckCall B VC XE, FCheckCall.kp, gCheckCall, bCheckCall⟩
  have cHa : Cal row50.prog w K mg base (L2.CX row50.prog w) 3 "half" ["name", "value"] (spHal VS (ga K "Ended")) _ _ := ⟨ok_hal FHalf B VC XE, FHalf.kp, gHalf, bHalf⟩
  have cRk : Cal row50.prog w K mg base (L2.CX row50.prog w) 3 "reckon" ["name", "left", "right"] (spRck (ga K "Ended")) _ _ := ⟨ok_rck FReckon B gG XE, FReckon.kp, gReckon, bReckon⟩
  have cPm : Cal row50.prog w K mg base (L2.CX row50.prog w) 4 "call_primitive" ["name", "parts"] (spPrm VS (ga K "Ended") P1) _ _ := ⟨ok_prm (func_of FCallPrimitive) B VC XE mPa cHa cRk TB1, FCallPrimitive.kp, gCallPrimitive, bCallPrimitive⟩
  have mSh : MkC row50.prog w K mg base 1 "Showing" ["self"] (spShI (ga K "Showing")) (ga K "Showing") _ _ := ⟨mkr_ok (d.facts (f := .mkr "Showing") (mem_at 63 rfl)), ok_shI FShowing_Init uShowing, gShowing, bShowing_Init⟩
  have cSh : Cal row50.prog w K mg base CX0 62 "shown" ["value"] (spShn VS) _ _ := ⟨ok_shn FShown mSh uShowing (meth_ok (d.facts (f := .meth "Showing" "show") (mem_at 72 rfl))) bShowing_Show (ok_sho FShowing_Show B VC uShowing (meth_ok (d.facts (f := .meth "Showing" "show") (mem_at 72 rfl))) bShowing_Show gA gP 61), FShown.kp, gShown, bShown⟩
  have cWv : Cal row50.prog w K mg base CX0 1 "with_variables" ["variables", "numbers", "results"] (spWv VS) _ _ := ⟨ok_wv FWithVariables B2, FWithVariables.kp, gWithVariables, bWithVariables⟩
  have kP : MCal row50.prog w K mg base (L2.CX row50.prog w) 3 (ga K "PlainRun") "count_step" ["self"] (spCnt (ga K "PlainRun") (ga K "Ended")) _ _ := ⟨ok_cnt FRun_CountStep uP2 XE, uPlainRun.c, methI_ok cMPlainRuncount_step, bRun_CountStep⟩
  have kDp : MCal row50.prog w K mg base (L2.CX row50.prog w) 3 (ga K "PlainRun") "definition" ["self", "module", "name"] (spDfn (ga K "PlainRun") VS (ga K "Ended")) _ _ := ⟨ok_dfn FRun_Definition uPd XE, uPlainRun.c, methI_ok cMPlainRundefinition, bRun_Definition⟩
  have TBp : ∀ wd ∈ begW, ∃ g, PySem.W.nsIn K (ga K "BEGINNINGS") wd = some (some (.ref g)) ∧ HeldX row50.prog w K mg base 4 g (spA (ga K "PlainRun") AF VS (ga K "Ended") P1 (fun t => word t = wd) goP) := by
    intro wd hw
    simp only [begW, List.mem_cons, List.not_mem_nil, or_false] at hw
    rcases hw with rfl | rfl | rfl | rfl | rfl | rfl | rfl | rfl
    · exact ⟨_, eqO_ok cTBint, ⟨⟨_, ["run", "core", "_"], FnOk.mono (ok_bi FBeginInt uPlainRun) (by decide), FBeginInt.kp, bBeginInt⟩⟩⟩
    · exact ⟨_, eqO_ok cTBlocal, ⟨⟨_, ["run", "core", "variables"], FnOk.mono (ok_bl FBeginLocal uPlainRun) (by decide), FBeginLocal.kp, bBeginLocal⟩⟩⟩
    · exact ⟨_, eqO_ok cTBglobal, ⟨⟨_, ["run", "core", "_"], FnOk.mono (ok_bg FBeginGlobal uPlainRun kDp) (by decide), FBeginGlobal.kp, bBeginGlobal⟩⟩⟩
    · exact ⟨_, eqO_ok cTBprim, ⟨⟨_, ["run", "core", "_"], FnOk.mono (ok_bp FBeginPrim uPlainRun mPr) (by decide), FBeginPrim.kp, bBeginPrim⟩⟩⟩
    · exact ⟨_, eqO_ok cTBfn, ⟨⟨_, ["run", "core", "variables"], FnOk.mono (ok_bf FBeginFn B uPlainRun mFu) (by decide), FBeginFn.kp, bBeginFn⟩⟩⟩
    · exact ⟨_, eqO_ok cTBlet, ⟨⟨_, ["run", "core", "variables"], FnOk.mono (ok_bt FBeginLet uPlainRun AG) (by decide), FBeginLet.kp, bBeginLet⟩⟩⟩
    · exact ⟨_, eqO_ok cTBif, ⟨⟨_, ["run", "core", "variables"], FnOk.mono (ok_bif FBeginIf uPlainRun AG) (by decide), FBeginIf.kp, bBeginIf⟩⟩⟩
    · exact ⟨_, eqO_ok cTBcall, ⟨⟨_, ["run", "core", "variables"], FnOk.mono (ok_bc FBeginCall uPlainRun AG) (by decide), FBeginCall.kp, bBeginCall⟩⟩⟩
  have H1 : HeldX row50.prog w K mg base 5 (ga K "begin") (spA (ga K "PlainRun") AF VS (ga K "Ended") P1 (fun _ => True) goB) := ⟨_, ["run", "core", "variables"], FnOk.mono (ok_beg FBegin uPlainRun gBEG kdB kP TBp) (by decide), FBegin.kp, bBegin⟩
  have H2 : HeldX row50.prog w K mg base 5 (ga K "end_let") (spA (ga K "PlainRun") AF VS (ga K "Ended") P1 (fun t => word t = "let") goEl) := ⟨_, ["run", "core", "variables"], FnOk.mono (ok_el FEndLet B uPlainRun AG cTl cBn cWv) (by decide), FEndLet.kp, bEndLet⟩
  have H3 : HeldX row50.prog w K mg base 5 (ga K "end_if") (spA (ga K "PlainRun") AF VS (ga K "Ended") P1 (fun t => word t = "if") goEi) := ⟨_, ["run", "core", "variables"], FnOk.mono (ok_eif FEndIf uPlainRun AG CO) (by decide), FEndIf.kp, bEndIf⟩
  have H4 : HeldX row50.prog w K mg base 5 (ga K "end_call") (spA (ga K "PlainRun") AF VS (ga K "Ended") P1 (fun t => word t = "call") goEc) := ⟨_, ["run", "core", "_"], FnOk.mono (ok_ec FEndCall B VC uPlainRun AG cTl cBn cWv cCh cPm) (by decide), FEndCall.kp, bEndCall⟩
  have pCa : MCal row50.prog w K mg base (L2.CX row50.prog w) 70 (ga K "PlainRun") "carry_out" ["self", "core"] (spCo (ga K "Ended") P1 (cdP (ga K "PlainRun") AF VS)) _ _ := ⟨FnOk.imp (FnOk.mono (ok_car (fE := ga K "begin") (dE := dPlainrun_CarryOut) FPlainrun_CarryOut uPlainRun AG H1 H2 H3 H4) (by decide)) car_co, uPlainRun.c, meth_ok (d.facts (f := .meth "PlainRun" "carry_out") (mem_at 73 rfl)), bPlainrun_CarryOut⟩
  have pCo : MCal row50.prog w K mg base CX0 71 (ga K "PlainRun") "carry_out_program" ["self", "definitions", "last"] (spCop (ga K "Ended") P1 (cdP (ga K "PlainRun") AF VS)) _ _ := ⟨ok_cop FRun_CarryOutProgram uPd EC pCa cSh, uPlainRun.c, methI_ok cMPlainRuncarry_out_program, bRun_CarryOutProgram⟩
  have grP : InitC row50.prog w K mg base 1 "Run" ["self", "most"] (spRin (ga K "PlainRun")) (ga K "Run") _ _ := ⟨gRun, cR1, eqO_ok cR2, refB_ok cR3, ok_rin FRun_Init uPr, FRun_Init.kp, bRun_Init⟩
  have mPR : MkC row50.prog w K mg base 2 "PlainRun" ["self", "most"] (spPin (ga K "PlainRun")) (ga K "PlainRun") _ _ := ⟨mkr_ok (d.facts (f := .mkr "PlainRun") (mem_at 66 rfl)), ok_pin FPlainrun_Init uPlainRun grP, gPlainRun, bPlainrun_Init⟩
  have cRp : Cal row50.prog w K mg base CX0 72 "run_plain" ["definitions", "core", "most"] (spRp P1) _ _ := ⟨ok_rp FRunPlain uPlainRun mPR pCo, FRunPlain.kp, gRunPlain, bRunPlain⟩
  have cTk : Cal row50.prog w K mg base CX0 2 "_law_take" ["state", "limit"] spTake _ _ := ⟨ok_take (P := row50.prog) (w := w) (base := base) FLTake B FLMixed gLMixed bLMixed, FLTake.kp, gLTake, bLTake⟩
  have cSt : Cal row50.prog w K mg base CX0 1 "_law_state" ["script"] (spState K) _ _ := ⟨ok_state FLState B, FLState.kp, gLState, bLState⟩
  have cLo : Cal row50.prog w K mg base CX0 1 "_law_locals" ["known", "sort"] spLoc _ _ := ⟨ok_loc (P := row50.prog) (w := w) (base := base) FLLocals B, FLLocals.kp, gLLocals, bLLocals⟩
  have cNu : Cal row50.prog w K mg base CX0 3 "_law_numbers" ["state", "count"] spNus _ _ := ⟨ok_nus FLNumbers B cTk, FLNumbers.kp, gLNumbers, bLNumbers⟩
  have cSm : Cal row50.prog w K mg base CX0 3 "_law_small" ["state"] spSml _ _ := ⟨ok_sml FLSmall cTk, FLSmall.kp, gLSmall, bLSmall⟩
  have gen := gen_all (P := row50.prog) (w := w) (base := base) B (fre "sorted" (mem_at 92 rfl)) cTk cLo cNu cSm FLPart FLFunction FLLet FLStrange gLPart gLFunction gLLet gLStrange bLPart bLFunction bLLet bLStrange
  have cGp : Cal row50.prog w K mg base CX0 23 "_law_part" ["state", "known", "world", "room"] (spPrt 6) _ _ := ⟨(gen 6 (Nat.le_refl _)).p, FLPart.kp, gLPart, bLPart⟩
  have cGf : Cal row50.prog w K mg base CX0 23 "_law_function" ["state", "known", "world", "room", "arity"] (spFun 5) _ _ := ⟨FnOk.mono ((gen 5 (by decide)).f (by decide)) (by decide), FLFunction.kp, gLFunction, bLFunction⟩
  have cPg : Cal row50.prog w K mg base CX0 24 "_law_program" ["state"] spPgm _ _ := ⟨ok_pgm FLProgram B cTk cGp cGf, FLProgram.kp, gLProgram, bLProgram⟩
  have cRu : CalF row50.prog w K mg base CX0 454 "_law_run" ["core", "around", "world", "depth", "last"] (spRun 150) _ _ := ⟨run_all B B2 FLRun FLAll FLCall FLWith FLPrim gLRun gLAll gLCall gLWith gLPrim bLRun bLAll bLCall bLWith bLPrim 150, FLRun.kp, gLRun, bLRun⟩
  have cLs : Cal row50.prog w K mg base CX0 61 "_law_shown" ["value", "depth", "left"] (spLsw 61) _ _ := ⟨ok_lsw FLShown B gLShown FLShown.kp bLShown 61, FLShown.kp, gLShown, bLShown⟩
  have cDu : Cal row50.prog w K mg base CX0 186 "_law_due" ["definitions", "core", "most"] spDu _ _ := ⟨ok_du FLDue cRu cLs, FLDue.kp, gLDue, bLDue⟩
  have cSa : Cal row50.prog w K mg base CX0 64 "_law_same" ["one", "two"] (spSam 64) _ _ := ⟨ok_sam FLSame B gLSame FLSame.kp bLSame 64, FLSame.kp, gLSame, bLSame⟩
  exact ok_law FLaw B cSt cPg cDu cSa cRp
end My
open PySem PySem.W PySem.Calls PyProof.Rows
theorem PySem.Challenge.cw_aliasfold_k50_whole_plain_meaning_holds : PySem.Challenge.rw_aliasfold_k50_whole_plain_meaning.Holds := by
  w_on; o_law
  refine HandSHeadRun.head_any (r := OpenLaw.row PySem.Challenge.rw_aliasfold_k50_whole_plain_meaning) (q := view (OpenLaw.row PySem.Challenge.rw_aliasfold_k50_whole_plain_meaning).prog [58]) (H := My.hk) (ob := My.ob) (M := 9000) (loose := My.loose) (d := HandSHeadRun.topDef (OpenLaw.row PySem.Challenge.rw_aliasfold_k50_whole_plain_meaning).prog 58) (kwd := []) My.ob_eq
    (by kernel_rfl) (fun s => by kernel_rfl) My.headRun (by kernel_rfl) (by kernel_rfl) (by kernel_rfl) (by rfl) (by first | assumption | decide +kernel) (by decide +kernel) ⟨rfl, rfl, rfl, rfl, rfl, by decide +kernel⟩ ?hw ?hc
  case hw => w_witness2
  case hc =>
    refine LamX.walk_ofTsE (l := PySem.Challenge.rw_aliasfold_k50_whole_plain_meaning) (n := 63) (k := 187) (x := "script") (CX := fun _ => L2.CX0) rfl (by decide) (by kernel_rfl) ⟨rfl, by decide, by decide⟩ ?F (fun _ _ _ _ _ z => z)
    intro w mg fa h Y G hmg0
    obtain ⟨K, KX, c⟩ := Y
    have hmg : mg ("law" : PySem.Str) = some (.ref fa) := by
      have e : (HandSHeadRun.topDef (OpenLaw.row PySem.Challenge.rw_aliasfold_k50_whole_plain_meaning).prog 58).name = ("law" : PySem.Str) := by kernel_rfl
      rw [← e]
      exact hmg0
    exact ⟨K, KX, My.facts c KX G hmg⟩
