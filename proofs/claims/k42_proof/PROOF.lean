import PyProof.Rows.All
import Wide.All
import OpenK.AllK
import Wide.FinOn
import Lean
import PyProof.EqAt
import PyProof.EqKinds
import PyProof.TupleCall
import PySem.Challenge.RW_logloom_k42_lonely
set_option Elab.async false
set_option linter.all false
set_option maxRecDepth 100000
/-! the run of the top over a tree of objects, by the library's faster forms, in one kernel run -/
namespace HT
open PySem PySem.W
abbrev annR : Option Value := some (.ref 6)
noncomputable abbrev okQ : Thread → Bool := Fast.tw6613529449190102663 11 annR
noncomputable abbrev stQ (p : Program) (w : World) : SharedT → Thread → Option (SharedT × Thread) :=
  Fast.tw10156331382660048174 (Fast.tw11892475500146522536 Fast.tw14364793385576792824) p w
noncomputable def runQ (p : Program) (w : World) : Nat → SharedT → Thread → Option SharedT
  | 0, _, _ => none
  | fuel + 1, a, th => @Bool.rec (fun _ => Option SharedT)
      (@Bool.rec (fun _ => Option SharedT) none (@Option.rec (SharedT × Thread) (fun _ => Option SharedT) none (fun r => runQ p w fuel r.1 r.2) (stQ p w a th)) (okQ th))
      (some a) (through th)
theorem okQ_is (th : Thread) : okQ th = stepOk 11 annR th := by
  show Fast.tw6613529449190102663 11 annR th = _
  rw [← Fast.te6613529449190102663]
theorem stQ_is (p : Program) (w : World) (a : SharedT) (th : Thread) : stQ p w a th = stepT (denote treeTable) p w a th := by
  show Fast.tw10156331382660048174 (Fast.tw11892475500146522536 Fast.tw14364793385576792824) p w a th = _
  rw [← Fast.te10156331382660048174, ← Fast.te11892475500146522536, ← Fast.te14364793385576792824]
theorem runQ_top {p : Program} {w : World} : ∀ (fuel : Nat) (a b : SharedT) (th : Thread),
    runQ p w fuel a th = some b → topRun treeTable p w 11 annR fuel a.abs th = some b.abs
  | 0, _, _, _, e => by cases e
  | fuel + 1, a, b, th, e => by
    unfold runQ at e
    unfold topRun
    rw [okQ_is, stQ_is] at e
    cases e1 : through th
    · rw [e1] at e
      cases e2 : stepOk 11 annR th
      · rw [e2] at e; cases e
      · rw [e2] at e
        cases e3 : stepT (denote treeTable) p w a th with
        | none => rw [e3] at e; cases e
        | some r =>
          rw [e3] at e
          have e4 := stepT_spec (s' := r.1) (t' := r.2) e3
          rw [e4]
          exact runQ_top fuel r.1 b r.2 e
    · rw [e1] at e
      have : a = b := Option.some.inj e
      rw [this]
noncomputable def bT (P : Params) : BT :=
  .node (boot_o_0 P)
    (.node (boot_o_1 P) (.node (boot_o_3 P) (.node (boot_o_7 P) .nil .nil) .nil) (.node (boot_o_5 P) (.node (boot_o_9 P) .nil .nil) .nil))
    (.node (boot_o_2 P) (.node (boot_o_4 P) (.node (boot_o_8 P) .nil .nil) .nil) (.node (boot_o_6 P) (.node (boot_o_10 P) .nil .nil) .nil))
theorem bT_boot : ∀ P, boot_heap P = absHeap (bT P) 11 {} := fun P => by kernel_rfl
noncomputable abbrev at0 (w : World) (os : OsState) : SharedT := ⟨bT w.params, 11, {}, Array.mk [], boot_drawn, boot_toks, os⟩
theorem at0_abs (w : World) (os : OsState) : (at0 w os).abs = ⟨boot_heap w.params, Array.mk [], boot_drawn, boot_toks, os⟩ := by
  rw [bT_boot]; rfl
theorem boot_looks : ∀ P : Params, (((boot_heap P).isNs mainGlobals && (#[] : Array GenState).size == 0) = true ∧ (boot_heap P).objs.size = 11) ∧
    (boot_heap P).nsMap mainGlobals "__annotations__" = annR := fun P => ⟨⟨by kernel_rfl, by kernel_rfl⟩, by kernel_rfl⟩
/-- what is looked at behind the top, ahead of the views -/
noncomputable abbrev kept (p : Program) (P : Params) (b : Shared) : Bool :=
  staticsOk (importedModules p.main.body) (boot_heap P) b.heap && namesBound p b.heap && gensDone b && laidKept (boot_heap P) b.heap
/-- the head out of one kernel run -/
theorem left1 {p q : Program} {loose : List Str} {Xt : Shared → Bool} {α : Type} {Yf : Shared → α} {Ya : World → α} {N : Nat} {g0 : Bool}
    (e : opening p = plainProg p.main.scope.names) (hN : Nat.ble 600 N = true) (f : ∀ s, fenceModules? p s = some s)
    (run : ∀ (w : World) (os : OsState), (runQ p w N (at0 w os) (topStub p)).map (fun b =>
      (kept p w.params b.abs, Fast.tw4187177175401517315 q loose (importedModules p.main.body) Xt g0 b.abs, Yf b.abs)) = some (true, openGood q loose, Ya w)) :
    LeftO p q loose Xt Yf Ya N g0 := by
  intro w
  obtain ⟨⟨hp, gs, d, k, os⟩, o1, o2⟩ := Option.map_eq_some_iff.mp (boot_open e hN f w)
  obtain ⟨rfl, rfl, rfl, rfl⟩ : hp = boot_heap w.params ∧ gs = Array.mk [] ∧ d = boot_drawn ∧ k = boot_toks := by
    simpa using o2
  obtain ⟨⟨z1, z2⟩, z3⟩ := boot_looks w.params
  have r := run w os
  rw [← Fast.te4187177175401517315] at r
  obtain ⟨b, r1, r2⟩ := Option.map_eq_some_iff.mp r
  rw [Prod.mk.injEq, Prod.mk.injEq] at r2
  have r3 := runQ_top N _ b _ r1
  rw [at0_abs] at r3
  have r4 : topFrom treeTable p w N ⟨boot_heap w.params, Array.mk [], boot_drawn, boot_toks, os⟩ = some b.abs := by
    have k1 : kept p w.params b.abs = true := r2.1
    unfold kept at k1
    unfold topFrom
    simp only [z1, z2, z3, r3, Option.bind_some, k1]
  have r5 : openEnds treeTable p w N = some b.abs := by
    unfold openEnds
    simp only [o1, Option.bind_some, r4]
  rw [r5]
  exact congrArg some (by rw [← r2.2.1, ← r2.2.2])
end HT
namespace L2
open PySem
def defArgs (s : Stmt) : Arguments := match s with
  | .FunctionDef _ a _ _ _ _ _ _ _ _ => a
  | _ => { posonlyargs := [], args := [], vararg := none, kwonlyargs := [], kw_defaults := [], kwarg := none, defaults := [] }
def defBody (s : Stmt) : List Stmt := match s with
  | .FunctionDef _ _ b _ _ _ _ _ _ _ => b
  | _ => []
def defScope (s : Stmt) : Scope := match s with
  | .FunctionDef _ _ _ _ _ _ sc _ _ _ => sc
  | _ => { kind := .function, names := [], isGenerator := false, isCoroutine := false }
end L2
namespace BG
open PySem L2
def top (i : Nat) : Stmt := PySem.Challenge.pw_logloom_k42_lonely.main.body.getD i (.Pass ⟨0, 0, 0, 0⟩)
abbrev sRo : Stmt := top 1
abbrev sBg : Stmt := top 3
abbrev sTb : Stmt := top 4
abbrev sAp : Stmt := top 5
abbrev sAb : Stmt := top 7
abbrev sFl : Stmt := top 8
abbrev sLo : Stmt := top 9
abbrev sWh : Stmt := top 11
abbrev sCe : Stmt := top 12
abbrev sPk : Stmt := top 13
abbrev sHi : Stmt := top 14
abbrev sRu : Stmt := top 15
abbrev sRi : Stmt := top 16
abbrev sBe : Stmt := top 17
abbrev sTw : Stmt := top 18
abbrev sLa : Stmt := top 19
abbrev sPa : Stmt := top 20
abbrev sEt : Stmt := top 21
abbrev sDu : Stmt := top 22
abbrev sFi : Stmt := top 23
abbrev sLaw : Stmt := top 24
end BG
namespace BG
open PySem L2
def hK : PySem.Params → PySem.W.Frag := fun P =>
  (nat_lit 2, ({ cls := Value.none, data := Data.dict #[] } : Obj)) ::
  (nat_lit 3, ({ cls := Value.type "dict", data := Data.dict #[{ hash := PyData.keyHash P (Str.ofString "__name__"), key := Value.str (Str.ofString "__name__") 165, val := Value.str (Str.ofString "law_logloom_k42_lonely") 241 }, { hash := PyData.keyHash P (Str.ofString "__doc__"), key := Value.str (Str.ofString "__doc__") 166, val := Value.none }, { hash := PyData.keyHash P (Str.ofString "__package__"), key := Value.str (Str.ofString "__package__") 167, val := Value.none }, { hash := PyData.keyHash P (Str.ofString "__loader__"), key := Value.str (Str.ofString "__loader__") 168, val := Value.builtin "__main__.__loader__#opaque" }, { hash := PyData.keyHash P (Str.ofString "__spec__"), key := Value.str (Str.ofString "__spec__") 169, val := Value.none }, { hash := PyData.keyHash P (Str.ofString "__annotations__"), key := Value.str (Str.ofString "__annotations__") 170, val := Value.ref 6 }, { hash := PyData.keyHash P (Str.ofString "__builtins__"), key := Value.str (Str.ofString "__builtins__") 171, val := Value.ref 4 }, { hash := PyData.keyHash P (Str.ofString "__file__"), key := Value.str (Str.ofString "__file__") 173, val := Value.str (Str.ofString "/claim/cut.py") 172 }, { hash := PyData.keyHash P (Str.ofString "__cached__"), key := Value.str (Str.ofString "__cached__") 174, val := Value.none }, { hash := PyData.keyHash P (Str.ofString "run_order"), key := Value.str (Str.ofString "run_order") 195, val := Value.ref 21 }, { hash := PyData.keyHash P (Str.ofString "beginnings"), key := Value.str (Str.ofString "beginnings") 208, val := Value.ref 28 }, { hash := PyData.keyHash P (Str.ofString "tails_behind"), key := Value.str (Str.ofString "tails_behind") 214, val := Value.ref 33 }, { hash := PyData.keyHash P (Str.ofString "apart"), key := Value.str (Str.ofString "apart") 220, val := Value.ref 38 }, { hash := PyData.keyHash P (Str.ofString "apart_behind"), key := Value.str (Str.ofString "apart_behind") 228, val := Value.ref 43 }, { hash := PyData.keyHash P (Str.ofString "first_lonely"), key := Value.str (Str.ofString "first_lonely") 234, val := Value.ref 48 }, { hash := PyData.keyHash P (Str.ofString "lonely"), key := Value.str (Str.ofString "lonely") 240, val := Value.ref 53 }, { hash := PyData.keyHash P (Str.ofString "_law_whole"), key := Value.str (Str.ofString "_law_whole") 249, val := Value.ref 60 }, { hash := PyData.keyHash P (Str.ofString "_law_cell_at"), key := Value.str (Str.ofString "_law_cell_at") 257, val := Value.ref 67 }, { hash := PyData.keyHash P (Str.ofString "_law_pick"), key := Value.str (Str.ofString "_law_pick") 266, val := Value.ref 74 }, { hash := PyData.keyHash P (Str.ofString "_law_hidden"), key := Value.str (Str.ofString "_law_hidden") 272, val := Value.ref 79 }, { hash := PyData.keyHash P (Str.ofString "_law_run"), key := Value.str (Str.ofString "_law_run") 284, val := Value.ref 86 }, { hash := PyData.keyHash P (Str.ofString "_law_right"), key := Value.str (Str.ofString "_law_right") 294, val := Value.ref 93 }, { hash := PyData.keyHash P (Str.ofString "_law_begins"), key := Value.str (Str.ofString "_law_begins") 300, val := Value.ref 98 }, { hash := PyData.keyHash P (Str.ofString "_law_two"), key := Value.str (Str.ofString "_law_two") 318, val := Value.ref 105 }, { hash := PyData.keyHash P (Str.ofString "_law_apart"), key := Value.str (Str.ofString "_law_apart") 329, val := Value.ref 112 }, { hash := PyData.keyHash P (Str.ofString "_law_pairs"), key := Value.str (Str.ofString "_law_pairs") 341, val := Value.ref 119 }, { hash := PyData.keyHash P (Str.ofString "_law_each_two"), key := Value.str (Str.ofString "_law_each_two") 351, val := Value.ref 126 }, { hash := PyData.keyHash P (Str.ofString "_law_due"), key := Value.str (Str.ofString "_law_due") 357, val := Value.ref 131 }, { hash := PyData.keyHash P (Str.ofString "_law_first"), key := Value.str (Str.ofString "_law_first") 363, val := Value.ref 136 }, { hash := PyData.keyHash P (Str.ofString "law"), key := Value.str (Str.ofString "law") 369, val := Value.ref 141 }] 30 } : Obj)) ::
  (nat_lit 15, ({ cls := Value.type "tuple", data := Data.seq #[] } : Obj)) ::
  (nat_lit 17, ({ cls := Value.type "tuple", data := Data.seq #[Value.str (Str.ofString "run") 192] } : Obj)) ::
  (nat_lit 18, ({ cls := Value.type "tuple", data := Data.seq #[] } : Obj)) ::
  (nat_lit 20, ({ cls := Value.type "code", data := Data.fields #[Value.str (Str.ofString "run_order") 189, Value.str (Str.ofString "run_order") 190, Value.str (Str.ofString "/claim/cut.py") 191, Value.int 2 0, Value.int 1 0, Value.int 0 0, Value.int 0 0, Value.int 3 0, Value.ref 15, Value.bool true, Value.int 181 0, Value.ref 16, Value.none, Value.ref 17, Value.ref 18, Value.ref 19, Value.int 193 0, Value.int 2 0, Value.str (Str.ofString "/claim/cut.py") 194] } : Obj)) ::
  (nat_lit 21, (⟨(Value.type "function"), (none), .func (PySem.W.fnOf (Str.ofString "run_order") (Str.ofString "run_order") (defArgs (top 1)) (defBody (top 1)) (defScope (top 1)) (Value.none) (Value.none) (Value.none) (Value.str (Str.ofString "logloom.machines") 187) (none) (Value.ref 20) (Value.none)), (#[])⟩ : Obj)) ::
  (nat_lit 22, ({ cls := Value.type "tuple", data := Data.seq #[] } : Obj)) ::
  (nat_lit 24, ({ cls := Value.type "tuple", data := Data.seq #[Value.str (Str.ofString "good") 201, Value.str (Str.ofString "bad") 202, Value.str (Str.ofString "met") 203, Value.str (Str.ofString "run") 204, Value.str (Str.ofString "length") 205] } : Obj)) ::
  (nat_lit 25, ({ cls := Value.type "tuple", data := Data.seq #[] } : Obj)) ::
  (nat_lit 27, ({ cls := Value.type "code", data := Data.fields #[Value.str (Str.ofString "beginnings") 198, Value.str (Str.ofString "beginnings") 199, Value.str (Str.ofString "/claim/cut.py") 200, Value.int 5 0, Value.int 2 0, Value.int 0 0, Value.int 0 0, Value.int 3 0, Value.ref 22, Value.bool true, Value.int 181 0, Value.ref 23, Value.none, Value.ref 24, Value.ref 25, Value.ref 26, Value.int 206 0, Value.int 5 0, Value.str (Str.ofString "/claim/cut.py") 207] } : Obj)) ::
  (nat_lit 28, (⟨(Value.type "function"), (none), .func (PySem.W.fnOf (Str.ofString "beginnings") (Str.ofString "beginnings") (defArgs (top 3)) (defBody (top 3)) (defScope (top 3)) (Value.none) (Value.none) (Value.none) (Value.str (Str.ofString "logloom.beginnings") 196) (none) (Value.ref 27) (Value.none)), (#[])⟩ : Obj)) ::
  (nat_lit 29, ({ cls := Value.type "tuple", data := Data.seq #[] } : Obj)) ::
  (nat_lit 32, ({ cls := Value.type "code", data := Data.fields #[Value.str (Str.ofString "tails_behind") 209, Value.str (Str.ofString "tails_behind") 210, Value.str (Str.ofString "/claim/cut.py") 211, Value.int 11 0, Value.int 2 0, Value.int 0 0, Value.int 0 0, Value.int 3 0, Value.ref 29, Value.bool true, Value.int 181 0, Value.ref 30, Value.none, Value.none, Value.none, Value.ref 31, Value.int 212 0, Value.int 11 0, Value.str (Str.ofString "/claim/cut.py") 213] } : Obj)) ::
  (nat_lit 33, (⟨(Value.type "function"), (none), .func (PySem.W.fnOf (Str.ofString "tails_behind") (Str.ofString "tails_behind") (defArgs (top 4)) (defBody (top 4)) (defScope (top 4)) (Value.none) (Value.none) (Value.none) (Value.str (Str.ofString "logloom.beginnings") 196) (none) (Value.ref 32) (Value.none)), (#[])⟩ : Obj)) ::
  (nat_lit 34, ({ cls := Value.type "tuple", data := Data.seq #[] } : Obj)) ::
  (nat_lit 37, ({ cls := Value.type "code", data := Data.fields #[Value.str (Str.ofString "apart") 215, Value.str (Str.ofString "apart") 216, Value.str (Str.ofString "/claim/cut.py") 217, Value.int 13 0, Value.int 4 0, Value.int 0 0, Value.int 0 0, Value.int 3 0, Value.ref 34, Value.bool true, Value.int 181 0, Value.ref 35, Value.none, Value.none, Value.none, Value.ref 36, Value.int 218 0, Value.int 13 0, Value.str (Str.ofString "/claim/cut.py") 219] } : Obj)) ::
  (nat_lit 38, (⟨(Value.type "function"), (none), .func (PySem.W.fnOf (Str.ofString "apart") (Str.ofString "apart") (defArgs (top 5)) (defBody (top 5)) (defScope (top 5)) (Value.none) (Value.none) (Value.none) (Value.str (Str.ofString "logloom.beginnings") 196) (none) (Value.ref 37) (Value.none)), (#[])⟩ : Obj)) ::
  (nat_lit 39, ({ cls := Value.type "tuple", data := Data.seq #[] } : Obj)) ::
  (nat_lit 42, ({ cls := Value.type "code", data := Data.fields #[Value.str (Str.ofString "apart_behind") 223, Value.str (Str.ofString "apart_behind") 224, Value.str (Str.ofString "/claim/cut.py") 225, Value.int 19 0, Value.int 4 0, Value.int 0 0, Value.int 0 0, Value.int 3 0, Value.ref 39, Value.bool true, Value.int 181 0, Value.ref 40, Value.none, Value.none, Value.none, Value.ref 41, Value.int 226 0, Value.int 19 0, Value.str (Str.ofString "/claim/cut.py") 227] } : Obj)) ::
  (nat_lit 43, (⟨(Value.type "function"), (none), .func (PySem.W.fnOf (Str.ofString "apart_behind") (Str.ofString "apart_behind") (defArgs (top 7)) (defBody (top 7)) (defScope (top 7)) (Value.none) (Value.none) (Value.none) (Value.str (Str.ofString "logloom.lonely") 221) (none) (Value.ref 42) (Value.none)), (#[])⟩ : Obj)) ::
  (nat_lit 44, ({ cls := Value.type "tuple", data := Data.seq #[] } : Obj)) ::
  (nat_lit 47, ({ cls := Value.type "code", data := Data.fields #[Value.str (Str.ofString "first_lonely") 229, Value.str (Str.ofString "first_lonely") 230, Value.str (Str.ofString "/claim/cut.py") 231, Value.int 22 0, Value.int 3 0, Value.int 0 0, Value.int 0 0, Value.int 3 0, Value.ref 44, Value.bool true, Value.int 181 0, Value.ref 45, Value.none, Value.none, Value.none, Value.ref 46, Value.int 232 0, Value.int 22 0, Value.str (Str.ofString "/claim/cut.py") 233] } : Obj)) ::
  (nat_lit 48, (⟨(Value.type "function"), (none), .func (PySem.W.fnOf (Str.ofString "first_lonely") (Str.ofString "first_lonely") (defArgs (top 8)) (defBody (top 8)) (defScope (top 8)) (Value.none) (Value.none) (Value.none) (Value.str (Str.ofString "logloom.lonely") 221) (none) (Value.ref 47) (Value.none)), (#[])⟩ : Obj)) ::
  (nat_lit 49, ({ cls := Value.type "tuple", data := Data.seq #[] } : Obj)) ::
  (nat_lit 52, ({ cls := Value.type "code", data := Data.fields #[Value.str (Str.ofString "lonely") 235, Value.str (Str.ofString "lonely") 236, Value.str (Str.ofString "/claim/cut.py") 237, Value.int 30 0, Value.int 3 0, Value.int 0 0, Value.int 0 0, Value.int 3 0, Value.ref 49, Value.bool true, Value.int 181 0, Value.ref 50, Value.none, Value.none, Value.none, Value.ref 51, Value.int 238 0, Value.int 30 0, Value.str (Str.ofString "/claim/cut.py") 239] } : Obj)) ::
  (nat_lit 53, (⟨(Value.type "function"), (none), .func (PySem.W.fnOf (Str.ofString "lonely") (Str.ofString "lonely") (defArgs (top 9)) (defBody (top 9)) (defScope (top 9)) (Value.none) (Value.none) (Value.none) (Value.str (Str.ofString "logloom.lonely") 221) (none) (Value.ref 52) (Value.none)), (#[])⟩ : Obj)) ::
  (nat_lit 54, ({ cls := Value.type "tuple", data := Data.seq #[] } : Obj)) ::
  (nat_lit 56, ({ cls := Value.type "tuple", data := Data.seq #[Value.str (Str.ofString "_law_found") 246] } : Obj)) ::
  (nat_lit 57, ({ cls := Value.type "tuple", data := Data.seq #[] } : Obj)) ::
  (nat_lit 59, ({ cls := Value.type "code", data := Data.fields #[Value.str (Str.ofString "_law_whole") 243, Value.str (Str.ofString "_law_whole") 244, Value.str (Str.ofString "/claim/cut.py") 245, Value.int 37 0, Value.int 1 0, Value.int 0 0, Value.int 0 0, Value.int 3 0, Value.ref 54, Value.bool true, Value.int 181 0, Value.ref 55, Value.none, Value.ref 56, Value.ref 57, Value.ref 58, Value.int 247 0, Value.int 37 0, Value.str (Str.ofString "/claim/cut.py") 248] } : Obj)) ::
  (nat_lit 60, (⟨(Value.type "function"), (none), .func (PySem.W.fnOf (Str.ofString "_law_whole") (Str.ofString "_law_whole") (defArgs (top 11)) (defBody (top 11)) (defScope (top 11)) (Value.none) (Value.none) (Value.none) (Value.str (Str.ofString "law_logloom_k42_lonely") 241) (none) (Value.ref 59) (Value.none)), (#[])⟩ : Obj)) ::
  (nat_lit 61, ({ cls := Value.type "tuple", data := Data.seq #[] } : Obj)) ::
  (nat_lit 63, ({ cls := Value.type "tuple", data := Data.seq #[Value.str (Str.ofString "_law_script") 253, Value.str (Str.ofString "_law_k") 254] } : Obj)) ::
  (nat_lit 64, ({ cls := Value.type "tuple", data := Data.seq #[] } : Obj)) ::
  (nat_lit 66, ({ cls := Value.type "code", data := Data.fields #[Value.str (Str.ofString "_law_cell_at") 250, Value.str (Str.ofString "_law_cell_at") 251, Value.str (Str.ofString "/claim/cut.py") 252, Value.int 39 0, Value.int 2 0, Value.int 0 0, Value.int 0 0, Value.int 3 0, Value.ref 61, Value.bool true, Value.int 181 0, Value.ref 62, Value.none, Value.ref 63, Value.ref 64, Value.ref 65, Value.int 255 0, Value.int 39 0, Value.str (Str.ofString "/claim/cut.py") 256] } : Obj)) ::
  (nat_lit 67, (⟨(Value.type "function"), (none), .func (PySem.W.fnOf (Str.ofString "_law_cell_at") (Str.ofString "_law_cell_at") (defArgs (top 12)) (defBody (top 12)) (defScope (top 12)) (Value.none) (Value.none) (Value.none) (Value.str (Str.ofString "law_logloom_k42_lonely") 241) (none) (Value.ref 66) (Value.none)), (#[])⟩ : Obj)) ::
  (nat_lit 68, ({ cls := Value.type "tuple", data := Data.seq #[] } : Obj)) ::
  (nat_lit 70, ({ cls := Value.type "tuple", data := Data.seq #[Value.str (Str.ofString "_law_cell") 261, Value.str (Str.ofString "_law_k") 262, Value.str (Str.ofString "_law_many") 263] } : Obj)) ::
  (nat_lit 71, ({ cls := Value.type "tuple", data := Data.seq #[] } : Obj)) ::
  (nat_lit 73, ({ cls := Value.type "code", data := Data.fields #[Value.str (Str.ofString "_law_pick") 258, Value.str (Str.ofString "_law_pick") 259, Value.str (Str.ofString "/claim/cut.py") 260, Value.int 43 0, Value.int 3 0, Value.int 0 0, Value.int 0 0, Value.int 3 0, Value.ref 68, Value.bool true, Value.int 181 0, Value.ref 69, Value.none, Value.ref 70, Value.ref 71, Value.ref 72, Value.int 264 0, Value.int 43 0, Value.str (Str.ofString "/claim/cut.py") 265] } : Obj)) ::
  (nat_lit 74, (⟨(Value.type "function"), (none), .func (PySem.W.fnOf (Str.ofString "_law_pick") (Str.ofString "_law_pick") (defArgs (top 13)) (defBody (top 13)) (defScope (top 13)) (Value.none) (Value.none) (Value.none) (Value.str (Str.ofString "law_logloom_k42_lonely") 241) (none) (Value.ref 73) (Value.none)), (#[])⟩ : Obj)) ::
  (nat_lit 75, ({ cls := Value.type "tuple", data := Data.seq #[] } : Obj)) ::
  (nat_lit 78, ({ cls := Value.type "code", data := Data.fields #[Value.str (Str.ofString "_law_hidden") 267, Value.str (Str.ofString "_law_hidden") 268, Value.str (Str.ofString "/claim/cut.py") 269, Value.int 45 0, Value.int 3 0, Value.int 0 0, Value.int 0 0, Value.int 3 0, Value.ref 75, Value.bool true, Value.int 181 0, Value.ref 76, Value.none, Value.none, Value.none, Value.ref 77, Value.int 270 0, Value.int 45 0, Value.str (Str.ofString "/claim/cut.py") 271] } : Obj)) ::
  (nat_lit 79, (⟨(Value.type "function"), (none), .func (PySem.W.fnOf (Str.ofString "_law_hidden") (Str.ofString "_law_hidden") (defArgs (top 14)) (defBody (top 14)) (defScope (top 14)) (Value.none) (Value.none) (Value.none) (Value.str (Str.ofString "law_logloom_k42_lonely") 241) (none) (Value.ref 78) (Value.none)), (#[])⟩ : Obj)) ::
  (nat_lit 80, ({ cls := Value.type "tuple", data := Data.seq #[] } : Obj)) ::
  (nat_lit 82, ({ cls := Value.type "tuple", data := Data.seq #[Value.str (Str.ofString "_law_cell") 276, Value.str (Str.ofString "_law_many") 277, Value.str (Str.ofString "_law_longest") 278, Value.str (Str.ofString "_law_run_here") 279, Value.str (Str.ofString "_law_size") 280, Value.str (Str.ofString "_law_k") 281] } : Obj)) ::
  (nat_lit 83, ({ cls := Value.type "tuple", data := Data.seq #[] } : Obj)) ::
  (nat_lit 85, ({ cls := Value.type "code", data := Data.fields #[Value.str (Str.ofString "_law_run") 273, Value.str (Str.ofString "_law_run") 274, Value.str (Str.ofString "/claim/cut.py") 275, Value.int 51 0, Value.int 3 0, Value.int 0 0, Value.int 0 0, Value.int 3 0, Value.ref 80, Value.bool true, Value.int 181 0, Value.ref 81, Value.none, Value.ref 82, Value.ref 83, Value.ref 84, Value.int 282 0, Value.int 51 0, Value.str (Str.ofString "/claim/cut.py") 283] } : Obj)) ::
  (nat_lit 86, (⟨(Value.type "function"), (none), .func (PySem.W.fnOf (Str.ofString "_law_run") (Str.ofString "_law_run") (defArgs (top 15)) (defBody (top 15)) (defScope (top 15)) (Value.none) (Value.none) (Value.none) (Value.str (Str.ofString "law_logloom_k42_lonely") 241) (none) (Value.ref 85) (Value.none)), (#[])⟩ : Obj)) ::
  (nat_lit 87, ({ cls := Value.type "tuple", data := Data.seq #[] } : Obj)) ::
  (nat_lit 89, ({ cls := Value.type "tuple", data := Data.seq #[Value.str (Str.ofString "_law_rooms") 288, Value.str (Str.ofString "_law_run_here") 289, Value.str (Str.ofString "_law_room") 290, Value.str (Str.ofString "_law_letter") 291] } : Obj)) ::
  (nat_lit 90, ({ cls := Value.type "tuple", data := Data.seq #[] } : Obj)) ::
  (nat_lit 92, ({ cls := Value.type "code", data := Data.fields #[Value.str (Str.ofString "_law_right") 285, Value.str (Str.ofString "_law_right") 286, Value.str (Str.ofString "/claim/cut.py") 287, Value.int 60 0, Value.int 2 0, Value.int 0 0, Value.int 0 0, Value.int 3 0, Value.ref 87, Value.bool true, Value.int 181 0, Value.ref 88, Value.none, Value.ref 89, Value.ref 90, Value.ref 91, Value.int 292 0, Value.int 60 0, Value.str (Str.ofString "/claim/cut.py") 293] } : Obj)) ::
  (nat_lit 93, (⟨(Value.type "function"), (none), .func (PySem.W.fnOf (Str.ofString "_law_right") (Str.ofString "_law_right") (defArgs (top 16)) (defBody (top 16)) (defScope (top 16)) (Value.none) (Value.none) (Value.none) (Value.str (Str.ofString "law_logloom_k42_lonely") 241) (none) (Value.ref 92) (Value.none)), (#[])⟩ : Obj)) ::
  (nat_lit 94, ({ cls := Value.type "tuple", data := Data.seq #[] } : Obj)) ::
  (nat_lit 97, ({ cls := Value.type "code", data := Data.fields #[Value.str (Str.ofString "_law_begins") 295, Value.str (Str.ofString "_law_begins") 296, Value.str (Str.ofString "/claim/cut.py") 297, Value.int 65 0, Value.int 2 0, Value.int 0 0, Value.int 0 0, Value.int 3 0, Value.ref 94, Value.bool true, Value.int 181 0, Value.ref 95, Value.none, Value.none, Value.none, Value.ref 96, Value.int 298 0, Value.int 65 0, Value.str (Str.ofString "/claim/cut.py") 299] } : Obj)) ::
  (nat_lit 98, (⟨(Value.type "function"), (none), .func (PySem.W.fnOf (Str.ofString "_law_begins") (Str.ofString "_law_begins") (defArgs (top 17)) (defBody (top 17)) (defScope (top 17)) (Value.none) (Value.none) (Value.none) (Value.str (Str.ofString "law_logloom_k42_lonely") 241) (none) (Value.ref 97) (Value.none)), (#[])⟩ : Obj)) ::
  (nat_lit 99, ({ cls := Value.type "tuple", data := Data.seq #[] } : Obj)) ::
  (nat_lit 101, ({ cls := Value.type "tuple", data := Data.seq #[Value.str (Str.ofString "_law_script") 304, Value.str (Str.ofString "_law_many") 305, Value.str (Str.ofString "_law_size") 306, Value.str (Str.ofString "_law_longest") 307, Value.str (Str.ofString "_law_limit") 308, Value.str (Str.ofString "_law_hidden_here") 309, Value.str (Str.ofString "_law_good") 310, Value.str (Str.ofString "_law_bad") 311, Value.str (Str.ofString "_law_k") 312, Value.str (Str.ofString "_law_cell") 313, Value.str (Str.ofString "_law_run_here") 314, Value.str (Str.ofString "_law_right_here") 315] } : Obj)) ::
  (nat_lit 102, ({ cls := Value.type "tuple", data := Data.seq #[] } : Obj)) ::
  (nat_lit 104, ({ cls := Value.type "code", data := Data.fields #[Value.str (Str.ofString "_law_two") 301, Value.str (Str.ofString "_law_two") 302, Value.str (Str.ofString "/claim/cut.py") 303, Value.int 71 0, Value.int 5 0, Value.int 0 0, Value.int 0 0, Value.int 3 0, Value.ref 99, Value.bool true, Value.int 181 0, Value.ref 100, Value.none, Value.ref 101, Value.ref 102, Value.ref 103, Value.int 316 0, Value.int 71 0, Value.str (Str.ofString "/claim/cut.py") 317] } : Obj)) ::
  (nat_lit 105, (⟨(Value.type "function"), (none), .func (PySem.W.fnOf (Str.ofString "_law_two") (Str.ofString "_law_two") (defArgs (top 18)) (defBody (top 18)) (defScope (top 18)) (Value.none) (Value.none) (Value.none) (Value.str (Str.ofString "law_logloom_k42_lonely") 241) (none) (Value.ref 104) (Value.none)), (#[])⟩ : Obj)) ::
  (nat_lit 106, ({ cls := Value.type "tuple", data := Data.seq #[] } : Obj)) ::
  (nat_lit 108, ({ cls := Value.type "tuple", data := Data.seq #[Value.str (Str.ofString "_law_good") 322, Value.str (Str.ofString "_law_bad") 323, Value.str (Str.ofString "_law_one") 324, Value.str (Str.ofString "_law_other") 325, Value.str (Str.ofString "_law_run_here") 326] } : Obj)) ::
  (nat_lit 109, ({ cls := Value.type "tuple", data := Data.seq #[] } : Obj)) ::
  (nat_lit 111, ({ cls := Value.type "code", data := Data.fields #[Value.str (Str.ofString "_law_apart") 319, Value.str (Str.ofString "_law_apart") 320, Value.str (Str.ofString "/claim/cut.py") 321, Value.int 89 0, Value.int 4 0, Value.int 0 0, Value.int 0 0, Value.int 3 0, Value.ref 106, Value.bool true, Value.int 181 0, Value.ref 107, Value.none, Value.ref 108, Value.ref 109, Value.ref 110, Value.int 327 0, Value.int 89 0, Value.str (Str.ofString "/claim/cut.py") 328] } : Obj)) ::
  (nat_lit 112, (⟨(Value.type "function"), (none), .func (PySem.W.fnOf (Str.ofString "_law_apart") (Str.ofString "_law_apart") (defArgs (top 19)) (defBody (top 19)) (defScope (top 19)) (Value.none) (Value.none) (Value.none) (Value.str (Str.ofString "law_logloom_k42_lonely") 241) (none) (Value.ref 111) (Value.none)), (#[])⟩ : Obj)) ::
  (nat_lit 113, ({ cls := Value.type "tuple", data := Data.seq #[] } : Obj)) ::
  (nat_lit 115, ({ cls := Value.type "tuple", data := Data.seq #[Value.str (Str.ofString "_law_good") 333, Value.str (Str.ofString "_law_bad") 334, Value.str (Str.ofString "_law_begins_here") 335, Value.str (Str.ofString "_law_found") 336, Value.str (Str.ofString "_law_k") 337, Value.str (Str.ofString "_law_j") 338] } : Obj)) ::
  (nat_lit 116, ({ cls := Value.type "tuple", data := Data.seq #[] } : Obj)) ::
  (nat_lit 118, ({ cls := Value.type "code", data := Data.fields #[Value.str (Str.ofString "_law_pairs") 330, Value.str (Str.ofString "_law_pairs") 331, Value.str (Str.ofString "/claim/cut.py") 332, Value.int 96 0, Value.int 3 0, Value.int 0 0, Value.int 0 0, Value.int 3 0, Value.ref 113, Value.bool true, Value.int 181 0, Value.ref 114, Value.none, Value.ref 115, Value.ref 116, Value.ref 117, Value.int 339 0, Value.int 96 0, Value.str (Str.ofString "/claim/cut.py") 340] } : Obj)) ::
  (nat_lit 119, (⟨(Value.type "function"), (none), .func (PySem.W.fnOf (Str.ofString "_law_pairs") (Str.ofString "_law_pairs") (defArgs (top 20)) (defBody (top 20)) (defScope (top 20)) (Value.none) (Value.none) (Value.none) (Value.str (Str.ofString "law_logloom_k42_lonely") 241) (none) (Value.ref 118) (Value.none)), (#[])⟩ : Obj)) ::
  (nat_lit 120, ({ cls := Value.type "tuple", data := Data.seq #[] } : Obj)) ::
  (nat_lit 122, ({ cls := Value.type "tuple", data := Data.seq #[Value.str (Str.ofString "_law_row") 345, Value.str (Str.ofString "_law_pairs_here") 346, Value.str (Str.ofString "_law_k") 347, Value.str (Str.ofString "_law_j") 348] } : Obj)) ::
  (nat_lit 123, ({ cls := Value.type "tuple", data := Data.seq #[] } : Obj)) ::
  (nat_lit 125, ({ cls := Value.type "code", data := Data.fields #[Value.str (Str.ofString "_law_each_two") 342, Value.str (Str.ofString "_law_each_two") 343, Value.str (Str.ofString "/claim/cut.py") 344, Value.int 103 0, Value.int 2 0, Value.int 0 0, Value.int 0 0, Value.int 3 0, Value.ref 120, Value.bool true, Value.int 181 0, Value.ref 121, Value.none, Value.ref 122, Value.ref 123, Value.ref 124, Value.int 349 0, Value.int 103 0, Value.str (Str.ofString "/claim/cut.py") 350] } : Obj)) ::
  (nat_lit 126, (⟨(Value.type "function"), (none), .func (PySem.W.fnOf (Str.ofString "_law_each_two") (Str.ofString "_law_each_two") (defArgs (top 21)) (defBody (top 21)) (defScope (top 21)) (Value.none) (Value.none) (Value.none) (Value.str (Str.ofString "law_logloom_k42_lonely") 241) (none) (Value.ref 125) (Value.none)), (#[])⟩ : Obj)) ::
  (nat_lit 127, ({ cls := Value.type "tuple", data := Data.seq #[] } : Obj)) ::
  (nat_lit 130, ({ cls := Value.type "code", data := Data.fields #[Value.str (Str.ofString "_law_due") 352, Value.str (Str.ofString "_law_due") 353, Value.str (Str.ofString "/claim/cut.py") 354, Value.int 109 0, Value.int 3 0, Value.int 0 0, Value.int 0 0, Value.int 3 0, Value.ref 127, Value.bool true, Value.int 181 0, Value.ref 128, Value.none, Value.none, Value.none, Value.ref 129, Value.int 355 0, Value.int 109 0, Value.str (Str.ofString "/claim/cut.py") 356] } : Obj)) ::
  (nat_lit 131, (⟨(Value.type "function"), (none), .func (PySem.W.fnOf (Str.ofString "_law_due") (Str.ofString "_law_due") (defArgs (top 22)) (defBody (top 22)) (defScope (top 22)) (Value.none) (Value.none) (Value.none) (Value.str (Str.ofString "law_logloom_k42_lonely") 241) (none) (Value.ref 130) (Value.none)), (#[])⟩ : Obj)) ::
  (nat_lit 132, ({ cls := Value.type "tuple", data := Data.seq #[] } : Obj)) ::
  (nat_lit 135, ({ cls := Value.type "code", data := Data.fields #[Value.str (Str.ofString "_law_first") 358, Value.str (Str.ofString "_law_first") 359, Value.str (Str.ofString "/claim/cut.py") 360, Value.int 116 0, Value.int 4 0, Value.int 0 0, Value.int 0 0, Value.int 3 0, Value.ref 132, Value.bool true, Value.int 181 0, Value.ref 133, Value.none, Value.none, Value.none, Value.ref 134, Value.int 361 0, Value.int 116 0, Value.str (Str.ofString "/claim/cut.py") 362] } : Obj)) ::
  (nat_lit 136, (⟨(Value.type "function"), (none), .func (PySem.W.fnOf (Str.ofString "_law_first") (Str.ofString "_law_first") (defArgs (top 23)) (defBody (top 23)) (defScope (top 23)) (Value.none) (Value.none) (Value.none) (Value.str (Str.ofString "law_logloom_k42_lonely") 241) (none) (Value.ref 135) (Value.none)), (#[])⟩ : Obj)) ::
  (nat_lit 137, ({ cls := Value.type "tuple", data := Data.seq #[] } : Obj)) ::
  (nat_lit 140, ({ cls := Value.type "code", data := Data.fields #[Value.str (Str.ofString "law") 364, Value.str (Str.ofString "law") 365, Value.str (Str.ofString "/claim/cut.py") 366, Value.int 125 0, Value.int 1 0, Value.int 0 0, Value.int 0 0, Value.int 3 0, Value.ref 137, Value.bool true, Value.int 181 0, Value.ref 138, Value.none, Value.none, Value.none, Value.ref 139, Value.int 367 0, Value.int 125 0, Value.str (Str.ofString "/claim/cut.py") 368] } : Obj)) ::
  (nat_lit 141, (⟨(Value.type "function"), (none), .func (PySem.W.fnOf (Str.ofString "law") (Str.ofString "law") (defArgs (top 24)) (defBody (top 24)) (defScope (top 24)) (Value.none) (Value.none) (Value.none) (Value.str (Str.ofString "law_logloom_k42_lonely") 241) (none) (Value.ref 140) (Value.none)), (#[])⟩ : Obj)) :: []
def hA : List PySem.Addr := nat_lit 2 :: nat_lit 3 :: nat_lit 15 :: nat_lit 17 :: nat_lit 18 :: nat_lit 20 :: nat_lit 21 :: nat_lit 22 :: nat_lit 24 :: nat_lit 25 :: nat_lit 27 :: nat_lit 28 :: nat_lit 29 :: nat_lit 32 :: nat_lit 33 :: nat_lit 34 :: nat_lit 37 :: nat_lit 38 :: nat_lit 39 :: nat_lit 42 :: nat_lit 43 :: nat_lit 44 :: nat_lit 47 :: nat_lit 48 :: nat_lit 49 :: nat_lit 52 :: nat_lit 53 :: nat_lit 54 :: nat_lit 56 :: nat_lit 57 :: nat_lit 59 :: nat_lit 60 :: nat_lit 61 :: nat_lit 63 :: nat_lit 64 :: nat_lit 66 :: nat_lit 67 :: nat_lit 68 :: nat_lit 70 :: nat_lit 71 :: nat_lit 73 :: nat_lit 74 :: nat_lit 75 :: nat_lit 78 :: nat_lit 79 :: nat_lit 80 :: nat_lit 82 :: nat_lit 83 :: nat_lit 85 :: nat_lit 86 :: nat_lit 87 :: nat_lit 89 :: nat_lit 90 :: nat_lit 92 :: nat_lit 93 :: nat_lit 94 :: nat_lit 97 :: nat_lit 98 :: nat_lit 99 :: nat_lit 101 :: nat_lit 102 :: nat_lit 104 :: nat_lit 105 :: nat_lit 106 :: nat_lit 108 :: nat_lit 109 :: nat_lit 111 :: nat_lit 112 :: nat_lit 113 :: nat_lit 115 :: nat_lit 116 :: nat_lit 118 :: nat_lit 119 :: nat_lit 120 :: nat_lit 122 :: nat_lit 123 :: nat_lit 125 :: nat_lit 126 :: nat_lit 127 :: nat_lit 130 :: nat_lit 131 :: nat_lit 132 :: nat_lit 135 :: nat_lit 136 :: nat_lit 137 :: nat_lit 140 :: nat_lit 141 :: []
theorem hE : ∀ P, hA = (hK P).map (·.1) := fun _ => by kernel_rfl
def hQ : PySem.Program := { PySem.Challenge.pw_logloom_k42_lonely with
  main := { PySem.Challenge.pw_logloom_k42_lonely.main with
    body := [top 1, top 3, top 4, top 5, top 7, top 8, top 9, top 11, top 12, top 13, top 14, top 15, top 16, top 17, top 18, top 19, top 20, top 21, top 22, top 23, top 24] } }
abbrev hH : PySem.W.Hook := PySem.W.kHook hK hA hE
abbrev hX (s : PySem.Shared) : Bool := PySem.W.xlAt hQ [] s &&
  PySem.W.recOk (PySem.W.RowW.records (PySem.W.OpenRow.toRowW (PySem.W.OpenLaw.row PySem.Challenge.rw_logloom_k42_lonely))) s
set_option maxHeartbeats 0 in
theorem hL : PySem.W.LeftO PySem.Challenge.pw_logloom_k42_lonely hQ [] hX hH.obs hH.val 1432 :=
  HT.left1 rfl rfl (fun _ => rfl) (fun w os => by kernel_rfl)
end BG

namespace L2
open PySem PySem.Spec PyProof.Rows


abbrev Key := Sum Int Str
def keyIs : Key → Value → Bool
  | .inl k, v => Value.isInt k v
  | .inr x, v => Value.isStrOf x v
def keyH (w : World) : Key → Int
  | .inl k => hashInt k
  | .inr x => hashStr w x
theorem keyIs_shape : ∀ {k : Key} {v : Value}, keyIs k v = true → (∃ i t, k = Sum.inl i ∧ v = Value.int i t) ∨ (∃ x t, k = Sum.inr x ∧ v = Value.str x t)
  | .inl i, v, h => by
    obtain ⟨t, e⟩ := Value.isInt_shape (k := i) (v := v) h
    exact .inl ⟨i, t, rfl, e⟩
  | .inr x, v, h => by
    obtain ⟨t, e⟩ := Value.isStrOf_shape (x := x) (v := v) h
    exact .inr ⟨x, t, rfl, e⟩
theorem key_ll (a b : Int) : decide ((Sum.inl a : Key) = Sum.inl b) = (a == b) := by
  by_cases e : a = b
  · subst e; simp
  · have h : ¬ (Sum.inl a : Key) = Sum.inl b := fun q => e (Sum.inl.inj q)
    rw [decide_eq_false h]
    exact (beq_eq_false_iff_ne.mpr e).symm
theorem key_rr (a b : Str) : decide ((Sum.inr a : Key) = Sum.inr b) = decide (a = b) := by
  by_cases e : a = b
  · subst e; simp
  · have h : ¬ (Sum.inr a : Key) = Sum.inr b := fun q => e (Sum.inr.inj q)
    rw [decide_eq_false h, decide_eq_false e]
theorem key_lr (a : Int) (b : Str) : decide ((Sum.inl a : Key) = Sum.inr b) = false := decide_eq_false (fun q => nomatch q)
theorem key_rl (a : Str) (b : Int) : decide ((Sum.inr a : Key) = Sum.inl b) = false := decide_eq_false (fun q => nomatch q)

def mixKind (prog : Program) (w : World) : PySem.KeyKind prog w Key where
  is := keyIs
  hash := keyH w
  inj := fun v a b ha hb => by
    rcases keyIs_shape ha with ⟨i, t, rfl, rfl⟩ | ⟨x, t, rfl, rfl⟩
    · rcases keyIs_shape hb with ⟨j, u, rfl, e⟩ | ⟨y, u, rfl, e⟩
      · injection e with e1 _; rw [e1]
      · exact nomatch e
    · rcases keyIs_shape hb with ⟨j, u, rfl, e⟩ | ⟨y, u, rfl, e⟩
      · exact nomatch e
      · injection e with e1 _; rw [e1]
  byValue := fun k v h => by
    rcases keyIs_shape h with ⟨i, t, rfl, rfl⟩ | ⟨x, t, rfl, rfl⟩ <;> rfl
  pyHash := fun hv h => by
    rcases keyIs_shape hv with ⟨i, t, rfl, rfl⟩ | ⟨x, t, rfl, rfl⟩
    · exact wpAny_pyHash_int h
    · exact wpAny_pyHash_str h
  eqBool := fun hu hv h => by
    rcases keyIs_shape hu with ⟨i, t, rfl, rfl⟩ | ⟨x, t, rfl, rfl⟩
    · rcases keyIs_shape hv with ⟨j, u, rfl, rfl⟩ | ⟨y, u, rfl, rfl⟩
      · rw [key_ll] at h; exact wpAny_eqBool_int h
      · rw [key_lr] at h; exact SeqAt.EqAt.int_str i t y u _ _ _ _ h
    · rcases keyIs_shape hv with ⟨j, u, rfl, rfl⟩ | ⟨y, u, rfl, rfl⟩
      · rw [key_rl] at h; exact SeqAt.EqAt.str_int x t j u _ _ _ _ h
      · rw [key_rr] at h; exact wpAny_eqBool_str h
  «strs» := fun k x t v h => by
    rcases keyIs_shape h with ⟨i, u, rfl, e⟩ | ⟨y, u, rfl, e⟩
    · exact nomatch e
    · injection e with e1 _
      subst e1
      cases v <;> rfl

end L2

namespace L2
open PySem PySem.Spec PyProof.Rows


inductive V where
  | non | bl (b : Bool) | int (i : Int) | str (x : Str) | byt (b : Array UInt8) | flt (b : UInt64) | ref (a : Addr) | ty (n : String)
  deriving DecidableEq

def RelV : V → Value → Prop
  | .non, u => u = Value.none
  | .bl b, u => u = Value.bool b
  | .int i, u => ∃ t, u = Value.int i t
  | .str x, u => ∃ t, u = Value.str x t
  | .byt b, u => ∃ t, u = Value.bytes b t
  | .flt b, u => ∃ t, u = Value.float b t
  | .ref a, u => u = Value.ref a
  | .ty n, u => u = Value.type n

abbrev Vals : List V → List Value → Prop := Paired RelV
theorem Vals.length {xs : List V} {us : List Value} (r : Vals xs us) : xs.length = us.length := Paired.length r
theorem Vals.get : ∀ {xs : List V} {us : List Value} {i : Nat} {x : V}, Vals xs us → xs[i]? = some x → ∃ u, us[i]? = some u ∧ RelV x u
  | _, _, _, _, .nil, e => by simp at e
  | _, _, 0, _, .cons r _, e => by simp at e; subst e; exact ⟨_, rfl, r⟩
  | _, _, i + 1, x, .cons _ t, e => by
    obtain ⟨u, h1, h2⟩ := Vals.get (i := i) (x := x) t (by simpa using e)
    exact ⟨u, by simpa using h1, h2⟩
theorem Vals.append : ∀ {xs ys : List V} {us ws : List Value}, Vals xs us → Vals ys ws → Vals (xs ++ ys) (us ++ ws)
  | _, _, _, _, .nil, s => s
  | _, _, _, _, .cons r t, s => .cons r (Vals.append t s)
theorem Vals.take : ∀ {xs : List V} {us : List Value} (n : Nat), Vals xs us → Vals (xs.take n) (us.take n)
  | _, _, 0, _ => .nil
  | _, _, _ + 1, .nil => .nil
  | _, _, n + 1, .cons r t => .cons r (Vals.take n t)
theorem Vals.drop : ∀ {xs : List V} {us : List Value} (n : Nat), Vals xs us → Vals (xs.drop n) (us.drop n)
  | _, _, 0, r => r
  | _, _, _ + 1, .nil => .nil
  | _, _, n + 1, .cons _ t => Vals.drop n t
def RelO : Option V → Option Value → Prop
  | some v, some u => RelV v u
  | none, none => True
  | _, _ => False
def KV {κ : Type} : List (κ × V) → List (κ × Value) → Prop := Paired fun (p : κ × V) (q : κ × Value) => p.1 = q.1 ∧ RelV p.2 q.2


def kV : Key → V
  | .inl i => .int i
  | .inr x => .str x


inductive HO where
  
  | lst (xs : List V)
  
  | tup (xs : List V)
  
  | dK (kvs : List (Key × V)) | dT (kvs : List (List Key × V))
  
  | set (S : Int → Bool) (n : Nat)
  
  | ins (C dx : Addr) (fs : List (Str × V))
  
  | own (x : Addr)
  
  | xd (fs : List (Str × V))
  
  | met (f x : Addr)
  
  | rng (lo hi : Int)
  
  | frz (o : Obj) (u : HO)
  
  | tbl (ps : Array Value)
  
  | ext (φ : Heap → Prop)

abbrev Hp := Addr → Option HO
def upd (H : Hp) (a : Addr) (o : HO) : Hp := fun b => if b = a then some o else H b
theorem upd_same {H : Hp} {a : Addr} {o : HO} : upd H a o a = some o := by unfold upd; rw [if_pos rfl]
theorem upd_ne {H : Hp} {a b : Addr} {o : HO} (h : b ≠ a) : upd H a o b = H b := by unfold upd; rw [if_neg h]
theorem ne_of {H : Hp} {a b : Addr} {o u : HO} (h : H a = some o) (h' : H b = some u) (d : o ≠ u) : a ≠ b := by
  intro e; subst e; rw [h] at h'; exact d (Option.some.inj h')
theorem ne_of_none {H : Hp} {a b : Addr} {o : HO} (h : H a = some o) (h' : H b = none) : a ≠ b := by
  intro e; subst e; rw [h] at h'; cases h'

section
variable (P : Program) (w : World)
def ObjOk (H : Hp) (h : Heap) (a : Addr) : HO → Prop
  | .lst xs => xs.length ≤ sizeLine ∧ ∃ (its : List Value) (n : Nat), Vals xs its ∧ h.get? a = some { cls := .type "list", data := .seq its.toArray n }
  | .tup xs => xs.length ≤ sizeLine ∧ ∃ its : List Value, Vals xs its ∧ IsTup h a its.toArray
  | .dK kvs => kvs.length ≤ sizeLine ∧ (a == sysModules) = false ∧ ∃ vs, KV kvs vs ∧ h.DictOf (mixKind P w) a vs
  | .dT kvs => kvs.length ≤ sizeLine ∧ (a == sysModules) = false ∧ ∃ xs : List (List Key × Addr × Value),
      Paired (fun (p : List Key × V) (q : List Key × Addr × Value) => p.1 = q.1 ∧ H q.2.1 = some (.tup (p.1.map kV)) ∧ RelV p.2 q.2.2) kvs xs ∧
      ∃ o es ep, h.get? a = some o ∧ o.ExactDict ∧ o.data = .dict es ep ∧ es.toList = xs.map (entryOfKey (tupleKind (mixKind P w))) ∧ (xs.map (·.1)).Nodup
  | .set S n => h.SetOf (intKind P w) a S n
  | .ins C dx fs => H dx = some (.own a) ∧ fs.length ≤ 1000 ∧ dx ≠ a ∧ h.get? a = some (PySem.W.instObj C dx) ∧
      ∃ mA, h.Ns1 dx mA ∧ (∀ f, RelO (fs.lookup f) (mA f)) ∧ PySem.Within mA (fs.map (·.1))
  | .own _ => ∃ o, h.get? a = some o
  | .xd fs => ∃ mA, h.Ns1 a mA ∧ ∀ f, RelO (fs.lookup f) (mA f)
  | .rng lo hi => ∃ t u v, h.get? a = some { cls := .type "range", data := .fields #[.int lo t, .int hi u, .int 1 v] }
  | .frz o u => h.get? a = some o ∧ ObjOk H h a u
  | .tbl ps => h.get? a = some { cls := .none, data := .fields ps }
  | .met f x => h.get? a = some (PySem.W.methodObj (.ref f) (.ref x))
  | .ext φ => φ h ∧ (∃ o, h.get? a = some o) ∧ ∀ h1 h2 : Heap, φ h1 → (∀ o, h1.get? a = some o → h2.get? a = some o) → φ h2

def HOk (H : Hp) (h : Heap) : Prop := ∀ a o, H a = some o → ObjOk P w H h a o
end

section
variable {P : Program} {w : World} {H H' : Hp} {h h' : Heap} {a : Addr} {o : HO}
theorem ObjOk.lt (x : ObjOk P w H h a o) : a < h.objs.size := by
  cases o with
  | lst xs => obtain ⟨_, _, _, _, e⟩ := x; exact Heap.lt_size e
  | tup xs => obtain ⟨_, _, _, p⟩ := x; exact p.lt
  | dK kvs => obtain ⟨_, _, _, _, o, _, _, e, _⟩ := x; exact Heap.lt_size e
  | dT kvs => obtain ⟨_, _, _, _, o, _, _, e, _⟩ := x; exact Heap.lt_size e
  | set S n => obtain ⟨o, _, _, _, e, _⟩ := x; exact Heap.lt_size e
  | ins C dx fs => obtain ⟨_, _, _, e, _⟩ := x; exact Heap.lt_size e
  | own y => obtain ⟨_, e⟩ := x; exact Heap.lt_size e
  | xd fs => obtain ⟨_, ⟨_, _, _, e, _⟩, _⟩ := x; exact Heap.lt_size e
  | rng lo hi => obtain ⟨_, _, _, e⟩ := x; exact Heap.lt_size e
  | frz ob u => obtain ⟨e, _⟩ := x; exact Heap.lt_size e
  | tbl ps => exact Heap.lt_size (show h.get? a = some _ from x)
  | met f y => exact Heap.lt_size (show h.get? a = some _ from x)
  | ext φ => obtain ⟨_, ⟨_, e⟩, _⟩ := x; exact Heap.lt_size e
theorem Paired.mapP {α β : Type} {F G : α → β → Prop} : ∀ {l₁ : List α} {l₂ : List β}, Paired F l₁ l₂ → (∀ a b, F a b → G a b) → Paired G l₁ l₂
  | _, _, .nil, _ => .nil
  | _, _, .cons r t, f => .cons (f _ _ r) (Paired.mapP t f)
theorem ObjOk.stay (x : ObjOk P w H h a o) (k : ∀ b u, (b = a ∨ H b = some (.own a)) → h.get? b = some u → h'.get? b = some u)
    (ho : ∀ b, H b = some (.own a) → H' b = some (.own a)) (ht : ∀ b xs, H b = some (.tup xs) → H' b = some (.tup xs)) : ObjOk P w H' h' a o := by
  induction o with
  | lst xs => obtain ⟨z, its, n, r, e⟩ := x; exact ⟨z, its, n, r, k _ _ (.inl rfl) e⟩
  | tup xs => obtain ⟨z, its, r, ob, e, c⟩ := x; exact ⟨z, its, r, ob, k _ _ (.inl rfl) e, c⟩
  | dK kvs => obtain ⟨z, y, vs, r, ob, es, ep, e, c⟩ := x; exact ⟨z, y, vs, r, ob, es, ep, k _ _ (.inl rfl) e, c⟩
  | dT kvs =>
    obtain ⟨z, y, xs, r, ob, es, ep, e, c⟩ := x
    exact ⟨z, y, xs, Paired.mapP r fun p q z => ⟨z.1, ht _ _ z.2.1, z.2.2⟩, ob, es, ep, k _ _ (.inl rfl) e, c⟩
  | set S n => obtain ⟨ob, es, ep, t, e, c⟩ := x; exact ⟨ob, es, ep, t, k _ _ (.inl rfl) e, c⟩
  | ins C dx fs =>
    obtain ⟨d, z, ne, e, mA, ⟨od, es, ep, e2, c⟩, r⟩ := x
    exact ⟨ho _ d, z, ne, k _ _ (.inl rfl) e, mA, ⟨od, es, ep, k _ _ (.inr d) e2, c⟩, r⟩
  | own y => obtain ⟨ob, e⟩ := x; exact ⟨ob, k _ _ (.inl rfl) e⟩
  | xd fs => obtain ⟨mA, ⟨od, es, ep, e, c⟩, r⟩ := x; exact ⟨mA, ⟨od, es, ep, k _ _ (.inl rfl) e, c⟩, r⟩
  | rng lo hi => obtain ⟨t, u, v, e⟩ := x; exact ⟨t, u, v, k _ _ (.inl rfl) e⟩
  | frz ob u ih => obtain ⟨e, q⟩ := x; exact ⟨k _ _ (.inl rfl) e, ih q⟩
  | tbl ps =>
    have e : h.get? a = some { cls := .none, data := .fields ps } := x
    show h'.get? a = some { cls := .none, data := .fields ps }
    exact k a _ (.inl rfl) e
  | met f y =>
    have e : h.get? a = some (PySem.W.methodObj (.ref f) (.ref y)) := x
    show h'.get? a = some (PySem.W.methodObj (.ref f) (.ref y))
    exact k a _ (.inl rfl) e
  | ext φ => obtain ⟨p, ⟨o, e⟩, st⟩ := x; exact ⟨st _ _ p fun o q => k _ _ (.inl rfl) q, ⟨o, k _ _ (.inl rfl) e⟩, st⟩
theorem HOk.lt (x : HOk P w H h) (e : H a = some o) : a < h.objs.size := (x a o e).lt
theorem HOk.fresh (x : HOk P w H h) (e : h.objs.size ≤ a) : H a = none := by
  cases q : H a with
  | none => rfl
  | some u => exact absurd (Nat.lt_of_lt_of_le (x.lt q) e) (Nat.lt_irrefl _)

theorem HOk.kept (x : HOk P w H h) (k : ∀ b u, h.get? b = some u → h'.get? b = some u) : HOk P w H h' := fun a o e =>
  (x a o e).stay (fun b u _ q => k b u q) (fun _ q => q) fun _ _ q => q

theorem HOk.laid (x : HOk P w H h) (k : ∀ b u, h.get? b = some u → h'.get? b = some u) (hp : h.objs.size ≤ a) (new : ObjOk P w (upd H a o) h' a o) : HOk P w (upd H a o) h' := fun b u e => by
  have hn := x.fresh hp
  by_cases hb : b = a
  · subst hb; rw [upd_same] at e; cases e; exact new
  · rw [upd_ne hb] at e
    exact (x b u e).stay (fun c v _ q => k c v q) (fun c q => by rw [upd_ne (ne_of_none q hn)]; exact q) fun c xs q => by rw [upd_ne (ne_of_none q hn)]; exact q
end


def Rd (H : Hp) (a : Addr) (u : HO) : Prop := H a = some u ∨ ∃ o, H a = some (.frz o u)
theorem Rd.ok {P : Program} {w : World} {H : Hp} {h : Heap} {a : Addr} {u : HO} (r : Rd H a u) (x : HOk P w H h) : ObjOk P w H h a u := by
  rcases r with r | ⟨o, r⟩
  · exact x a u r
  · obtain ⟨_, q⟩ := x a _ r
    exact q

def Mut : Option HO → Prop
  | some (.lst _) => True
  | some (.dK _) => True
  | some (.dT _) => True
  | some (.set _ _) => True
  | some (.ins _ _ _) => True
  | some (.ext _) => True
  | _ => False
section
variable {P : Program} {w : World} {H : Hp} {h h' : Heap} {x e : Addr} {o' : HO}

theorem HOk.write (ok : HOk P w H h) (mu : Mut (H x)) (he : e = x ∨ H e = some (.own x)) (k : ∀ b u, b ≠ e → h.get? b = some u → h'.get? b = some u) (heo : ∃ u, h'.get? e = some u)
    (new : ObjOk P w (upd H x o') h' x o') : HOk P w (upd H x o') h' := fun b u q => by
  have nown : ∀ c y, H c = some (.own y) → c ≠ x := fun c y r z => by subst z; rw [r] at mu; exact mu
  have ntup : ∀ c xs, H c = some (.tup xs) → c ≠ x := fun c xs r z => by subst z; rw [r] at mu; exact mu
  by_cases hb : b = x
  · subst hb; rw [upd_same] at q; cases q; exact new
  · rw [upd_ne hb] at q
    by_cases hbe : b = e
    · have q' : H b = some (.own x) := by
        rcases he with z | z
        · exact absurd (hbe.trans z) hb
        · rw [hbe]; exact z
      rw [q] at q'; cases q'
      obtain ⟨v, hv⟩ := heo
      exact ⟨v, by rw [hbe]; exact hv⟩
    · refine (ok b u q).stay (fun c v hc r => k c v ?_ r) (fun c r => by rw [upd_ne (nown c b r)]; exact r) fun c xs r => by rw [upd_ne (ntup c xs r)]; exact r
      rcases hc with rfl | hc
      · exact hbe
      · rintro rfl
        rcases he with z | z
        · exact nown c b hc z
        · rw [hc] at z; cases z; exact hb rfl
end


structure Un (fs ex : List Addr) (H H' : Hp) (h h' : Heap) : Prop where
  keep : ∀ b o, h.get? b = some o → H b = none → b ∉ fs → b ∉ ex → h'.get? b = some o
  slot : ∀ b o, h.get? b = some o → H b = none → b ∈ fs → b ∉ ex → ∃ sl, h'.get? b = some { o with slots := sl }
  free : ∀ b o, h.get? b = some o → H b = none → b ∉ ex → H' b = none
  there : ∀ b o, h.get? b = some o → b ∉ ex → ∃ o', h'.get? b = some o'
  tups : ∀ b xs, H b = some (.tup xs) → H' b = some (.tup xs)
  frzs : ∀ b o u, H b = some (.frz o u) → H' b = some (.frz o u)
  tbls : ∀ b ps, H b = some (.tbl ps) → ∃ more, H' b = some (.tbl (ps ++ more))
section
variable {fs fs' ex ex' : List Addr} {H H1 H2 : Hp} {h h1 h2 h' : Heap} {a x e : Addr} {o : HO}
theorem Un.any (u : Un fs ex H H1 h h1) {b : Addr} {ob : Obj} (q : h.get? b = some ob) (n : H b = none) (hx : b ∉ ex) : ∃ sl, h1.get? b = some { ob with slots := sl } := by
  by_cases hb : b ∈ fs
  · exact u.slot b ob q n hb hx
  · exact ⟨ob.slots, u.keep b ob q n hb hx⟩
theorem Un.kept (k : ∀ b u, h.get? b = some u → h'.get? b = some u) : Un fs ex H H h h' :=
  ⟨fun b ob q _ _ _ => k b ob q, fun b ob q _ _ _ => ⟨ob.slots, k b ob q⟩, fun _ _ _ n _ => n, fun b ob q _ => ⟨ob, k b ob q⟩, fun _ _ q => q, fun _ _ _ q => q, fun _ ps q => ⟨#[], by rw [q]; simp⟩⟩
theorem Un.refl : Un fs ex H H h h := Un.kept fun _ _ q => q
theorem Un.laid (k : ∀ b u, h.get? b = some u → h'.get? b = some u) (hp : h.objs.size ≤ a) (hn : H a = none) : Un fs ex H (upd H a o) h h' where
  keep := fun b u q _ _ _ => k b u q
  slot := fun b u q _ _ _ => ⟨u.slots, k b u q⟩
  free := fun b u q n _ => by rw [upd_ne (Nat.ne_of_lt (Nat.lt_of_lt_of_le (Heap.lt_size q) hp))]; exact n
  there := fun b u q _ => ⟨u, k b u q⟩
  tups := fun b xs q => by rw [upd_ne (ne_of_none q hn)]; exact q
  frzs := fun b u xs q => by rw [upd_ne (ne_of_none q hn)]; exact q
  tbls := fun b ps q => ⟨#[], by rw [upd_ne (ne_of_none q hn), q]; simp⟩
theorem Un.write (mu : Mut (H x)) (he : e = x ∨ H e = some (.own x)) (k : ∀ b u, b ≠ e → h.get? b = some u → h'.get? b = some u) (heo : ∃ u, h'.get? e = some u) : Un fs ex H (upd H x o) h h' := by
  have hx : ∀ b, H b = none → b ≠ x := fun b n z => by subst z; rw [n] at mu; exact mu
  have hb : ∀ b, H b = none → b ≠ e := fun b n z => by
    subst z
    rcases he with r | r
    · exact hx b n r
    · rw [n] at r; cases r
  have hm : ∀ b u, H b = some u → ¬ Mut (some u) → b ≠ x := fun b u q nm z => by subst z; rw [q] at mu; exact nm mu
  refine ⟨fun b u q n _ _ => k b u (hb b n) q, fun b u q n _ _ => ⟨u.slots, k b u (hb b n) q⟩, fun b u q n _ => by rw [upd_ne (hx b n)]; exact n, fun b u q _ => ?_,
    fun b xs q => by rw [upd_ne (hm b _ q fun z => z)]; exact q, fun b u xs q => by rw [upd_ne (hm b _ q fun z => z)]; exact q, fun b ps q => ⟨#[], by rw [upd_ne (hm b _ q fun z => z), q]; simp⟩⟩
  by_cases hbe : b = e
  · subst hbe; exact heo
  · exact ⟨u, k b u hbe q⟩
end


def trk (h : Heap) (H : Hp) : List Addr := (List.range h.objs.size).filter fun a => (H a).isSome
def hidT (h : Heap) (H : Hp) : Heap := PySem.W.hideAll h (trk h H)
theorem hidT_size (h : Heap) (H : Hp) : (hidT h H).objs.size = h.objs.size := PySem.W.hideAll_size _ _
theorem hidT_get {h : Heap} {H : Hp} {b : Addr} {o : Obj} (e : h.get? b = some o) (n : H b = none) : (hidT h H).get? b = some o :=
  PySem.W.hideAll_get _ e fun hm => by
    have q : (H b).isSome = true := (List.mem_filter.mp hm).2
    rw [n] at q; simp at q
theorem of_hidT {h : Heap} {H : Hp} {b : Addr} {o : Obj} (e : (hidT h H).get? b = some o) : h.get? b = some o ∧ H b = none := by
  have e' : h.get? b = some o := PySem.W.of_hideAll (trk h H) e
  refine ⟨e', ?_⟩
  cases q : H b with
  | none => rfl
  | some x =>
    have hm : b ∈ trk h H := List.mem_filter.mpr ⟨List.mem_range.mpr (Heap.lt_size e'), by simp [q]⟩
    have z : (hidT h H).get? b = none := PySem.W.hideAll_none (trk h H) hm
    rw [z] at e; cases e


end L2

namespace L2
open PySem PySem.Spec PyProof.Rows


structure Mod (K : PySem.W.Frag) (mg : Str → Option Value) (base : Heap) : Prop where
  kin : K.In base
  glob : base.Ns mainGlobals mg
  blt : ∃ mb, base.Ns builtinsNs mb ∧ ∀ x : Str, x ≠ "__name__" → mb x = bootBuiltins x
  nolimit : base.NoLimit


structure Cx where
  prog : Program
  w : World
  K : PySem.W.Frag
  mg : Str → Option Value
  base : Heap
  A : Around
  N : List Str
  s₀ : Shared
  H₀ : Hp
  env : Env
  outer : List Env
  stack : List Env
  ex : List Addr
  fn : Str → Bool
  calm : Bool
  pn : List (Addr × Obj)
  xe : Value → Shared → Prop

def frs (l : List Env) : List Addr := l.filterMap (·.frame)
abbrev Cx.fs (X : Cx) : List Addr := frs X.outer

def Vis (sc : Scope) (x : Str) : Prop := sc.names.lookup x = some .local ∨ sc.names.lookup x = some .cell ∨ sc.names.lookup x = some .free
def Loc (sc : Scope) (x : Str) : Prop := sc.names.lookup x = some .local ∨ sc.names.lookup x = some .cell
def Look (env : Env) (h : Heap) (m : Str → Option Value) (x : Str) (u : Value) : Prop :=
  (env.kindOf x = some .local ∧ m x = some u) ∨ ((env.kindOf x = some .cell ∨ env.kindOf x = some .free) ∧ ∃ c, env.cells.lookup x = some c ∧ h.IsCell c (some u))

structure Cx.Ok (X : Cx) : Prop where
  mod : Mod X.K X.mg X.base
  kind : X.env.scope.kind = .function
  glob : X.env.globals = mainGlobals
  blt : X.env.builtins = builtinsNs
  above : X.s₀.heap.objs.size ≤ X.env.locals
  inj : ∀ x y c, X.env.cells.lookup x = some c → X.env.cells.lookup y = some c → x = y
  has : ∀ x, (X.env.kindOf x = some .cell ∨ X.env.kindOf x = some .free) → ∃ c, X.env.cells.lookup x = some c
  cab : ∀ x c, X.fn x = true → X.env.cells.lookup x = some c → X.s₀.heap.objs.size ≤ c
  hd : X.calm = true → X.A.handled = none
  frames : X.A.frames = some X.stack
  stk : X.stack = X.outer ∨ (X.stack = X.env :: X.outer ∧ X.env.frame = some X.env.locals)
  exf : ∀ b ∈ X.ex, b ≠ X.env.locals ∧ ∀ x c, X.env.cells.lookup x = some c → c ≠ b
  bs : ∀ b o, X.base.get? b = some o → X.s₀.heap.get? b = some o ∧ X.H₀ b = none
  bsz : X.base.objs.size ≤ X.s₀.heap.objs.size
  noex : ∀ b o, X.base.get? b = some o → b ∉ X.ex
  exfs : ∀ b ∈ X.ex, b ∉ X.fs
  funs : X.s₀.heap.FunFrames X.base X.outer
  frf : ∀ b ∈ X.fs, X.H₀ b = none

structure Inv (X : Cx) (pins : List (Addr × Obj)) (σ : List (Option V)) (H : Hp) (s : Shared) : Prop where
  ok : X.Ok
  os : s.os = X.s₀.os
  bare : AllBare s.gens
  base : Un X.fs X.ex X.H₀ H X.s₀.heap s.heap
  loc : ∃ m, s.heap.Ns X.env.locals m ∧ ∀ (i : Nat) (x : Str) (v : V), X.N[i]? = some x → σ[i]? = some (some v) → Vis X.env.scope x → ∃ u, RelV v u ∧ Look X.env s.heap m x u
  cell : ∀ x c, X.env.cells.lookup x = some c → ∃ v, s.heap.IsCell c v
  free : H X.env.locals = none
  freeC : ∀ x c, X.env.cells.lookup x = some c → H c = none
  pin : ∀ p ∈ X.pn ++ pins, s.heap.get? p.1 = some p.2 ∧ H p.1 = none ∧ p.1 ≠ X.env.locals ∧ p.1 ∉ X.fs ∧ ∀ v, p.2.data ≠ .cell v
  hok : HOk X.prog X.w H s.heap
  len : σ.length = X.N.length

section
variable {X : Cx} {pins : List (Addr × Obj)} {σ : List (Option V)} {H H' : Hp} {s : Shared} {h' : Heap}

theorem Cx.Ok.nofr (ok : X.Ok) {b : Addr} {o : Obj} (e : X.base.get? b = some o) : b ∉ X.fs := fun hb => by
  have := (ok.funs.mem hb).1
  rw [e] at this; cases this
theorem Inv.bs (I : Inv X pins σ H s) : ∀ b o, X.base.get? b = some o → s.heap.get? b = some o ∧ H b = none := fun b o e =>
  ⟨I.base.keep b o (I.ok.bs b o e).1 (I.ok.bs b o e).2 (I.ok.nofr e) (I.ok.noex b o e), I.base.free b o (I.ok.bs b o e).1 (I.ok.bs b o e).2 (I.ok.noex b o e)⟩
theorem Inv.bk (I : Inv X pins σ H s) : ∀ b o, X.base.get? b = some o → s.heap.get? b = some o := fun b o e => (I.bs b o e).1
theorem Inv.mod (I : Inv X pins σ H s) : Mod X.K X.mg X.base := I.ok.mod
theorem Inv.kIn (I : Inv X pins σ H s) : X.K.In s.heap := I.ok.mod.kin.keeps I.bk
theorem Inv.lt (I : Inv X pins σ H s) : X.env.locals < s.heap.objs.size := let ⟨_, hn, _⟩ := I.loc; hn.lt
theorem Inv.sz (I : Inv X pins σ H s) : X.s₀.heap.objs.size ≤ s.heap.objs.size := Nat.le_trans I.ok.above (Nat.le_of_lt I.lt)
theorem Inv.nofs (I : Inv X pins σ H s) {a : Addr} (h : s.heap.objs.size ≤ a) : a ∉ X.fs := fun hb => by
  obtain ⟨_, o, ho, _⟩ := I.ok.funs.mem hb
  exact absurd (Nat.lt_of_lt_of_le (Heap.lt_size ho) (Nat.le_trans I.sz h)) (Nat.lt_irrefl _)
theorem Inv.cne (I : Inv X pins σ H s) : ∀ x c, X.env.cells.lookup x = some c → c ≠ X.env.locals := fun x c e z => by
  obtain ⟨v, o, ho, hd⟩ := I.cell x c e
  obtain ⟨m, ⟨o', es, ep, ho', hd', _⟩, _⟩ := I.loc
  rw [z, ho'] at ho; cases ho; rw [hd'] at hd; cases hd
theorem Inv.funs (I : Inv X pins σ H s) : s.heap.FunFrames X.base X.outer := by
  have all : ∀ (l : List Env), (∀ b ∈ frs l, b ∈ X.fs) → X.s₀.heap.FunFrames X.base l → s.heap.FunFrames X.base l := by
    intro l
    induction l with
    | nil => intro _ _; trivial
    | cons env r ih =>
      intro hs hl
      obtain ⟨hk, ⟨L, o, hf, hn, ho, hd⟩, hr⟩ := hl
      have hL : L ∈ X.fs := hs L (by unfold frs; rw [List.filterMap_cons, hf]; exact List.mem_cons_self)
      obtain ⟨sl, e⟩ := I.base.slot L o ho (I.ok.frf L hL) hL fun z => I.ok.exfs L z hL
      exact ⟨hk, ⟨L, _, hf, hn, e, hd⟩, ih (fun b hb => hs b (by unfold frs; rw [List.filterMap_cons, hf]; exact List.mem_cons_of_mem _ hb)) hr⟩
  exact all X.outer (fun _ hb => hb) I.ok.funs


theorem Inv.stack (I : Inv X pins σ H s) : s.heap.FunFrames X.base X.stack := by
  rcases I.ok.stk with e | ⟨e, hf⟩
  · rw [e]; exact I.funs
  · rw [e]
    obtain ⟨m, hn, _⟩ := I.loc
    refine .cons (by rw [I.ok.kind]; decide) hf hn ?_ I.funs
    exact Heap.get?_none_of_le (Nat.le_trans I.ok.bsz I.ok.above)
theorem Inv.stkSub (I : Inv X pins σ H s) : ∀ b ∈ frs X.stack, b ∈ X.env.locals :: X.fs := fun b hb => by
  rcases I.ok.stk with e | ⟨e, hf⟩
  · rw [e] at hb; exact List.mem_cons_of_mem _ hb
  · rw [e] at hb
    unfold frs at hb
    rw [List.filterMap_cons, hf] at hb
    exact hb
theorem Inv.stkFree (I : Inv X pins σ H s) : ∀ b ∈ frs X.stack, H b = none := fun b hb => by
  rcases List.mem_cons.mp (I.stkSub b hb) with e | hb
  · rw [e]; exact I.free
  · obtain ⟨_, o, ho, _⟩ := I.ok.funs.mem hb
    exact I.base.free b o ho (I.ok.frf b hb) fun z => I.ok.exfs b z hb


theorem Inv.step {g' : Array GenState} {t' : Nat} {d' : Drawn} {ch : List Addr} (I : Inv X pins σ H s)
    (hch : ∀ b ∈ ch, (b ∈ X.ex ∨ X.s₀.heap.objs.size ≤ b) ∧ b ≠ X.env.locals ∧ (∀ x c, X.env.cells.lookup x = some c → c ≠ b) ∧ ∀ p ∈ X.pn ++ pins, p.1 ≠ b)
    (keep : ∀ b o, b ≠ X.env.locals → b ∉ X.fs → b ∉ ch → s.heap.get? b = some o → H b = none → h'.get? b = some o)
    (slot : ∀ b o, b ≠ X.env.locals → b ∈ X.fs → b ∉ ch → s.heap.get? b = some o → H b = none → ∃ sl, h'.get? b = some { o with slots := sl }) (free : ∀ b o, b ∉ ch → s.heap.get? b = some o → H b = none → H' b = none)
    (there : ∀ b o, b ∉ ch → s.heap.get? b = some o → ∃ o', h'.get? b = some o')
    (tups : ∀ b xs, H b = some (.tup xs) → H' b = some (.tup xs)) (frzs : ∀ b o u, H b = some (.frz o u) → H' b = some (.frz o u)) (tbls : ∀ b ps, H b = some (.tbl ps) → ∃ more, H' b = some (.tbl (ps ++ more)))
    (ns : ∀ m, s.heap.Ns X.env.locals m → h'.Ns X.env.locals m) (hok : HOk X.prog X.w H' h') (hg : AllBare g') :
    Inv X pins σ H' { s with heap := h', gens := g', drawn := d', toks := t' } := by
  have neL : ∀ b o, X.s₀.heap.get? b = some o → b ≠ X.env.locals := fun b o e => Nat.ne_of_lt (Nat.lt_of_lt_of_le (Heap.lt_size e) I.ok.above)
  have neC : ∀ b o, X.s₀.heap.get? b = some o → b ∉ X.ex → b ∉ ch := fun b o e hx hb => by
    rcases (hch b hb).1 with z | z
    · exact hx z
    · exact absurd (Nat.lt_of_lt_of_le (Heap.lt_size e) z) (Nat.lt_irrefl _)
  have cellK : ∀ x c, X.env.cells.lookup x = some c → ∀ v, s.heap.IsCell c v → h'.IsCell c v := fun x c e v ⟨o, ho, hd⟩ => by
    have nch : c ∉ ch := fun z => (hch c z).2.2.1 x c e rfl
    by_cases hc : c ∈ X.fs
    · obtain ⟨sl, q⟩ := slot c o (I.cne x c e) hc nch ho (I.freeC x c e)
      exact ⟨_, q, hd⟩
    · exact ⟨o, keep c o (I.cne x c e) hc nch ho (I.freeC x c e), hd⟩
  refine ⟨I.ok, I.os, hg, ⟨fun b o e n hb hx => ?_, fun b o e n hb hx => ?_, fun b o e n hx => ?_, fun b o e hx => ?_, fun b xs e => tups b xs (I.base.tups b xs e), fun b o xs e => frzs b o xs (I.base.frzs b o xs e), fun b ps e => ?_⟩, ?_, fun x c e => ?_, ?_, fun x c e => ?_, fun p hp => ?_, hok, I.len⟩
  · exact keep b o (neL b o e) hb (neC b o e hx) (I.base.keep b o e n hb hx) (I.base.free b o e n hx)
  · obtain ⟨sl, e1⟩ := I.base.slot b o e n hb hx
    obtain ⟨sl', e2⟩ := slot b _ (neL b o e) hb (neC b o e hx) e1 (I.base.free b o e n hx)
    exact ⟨sl', e2⟩
  · obtain ⟨o', e1⟩ := I.base.there b o e hx
    exact free b o' (neC b o e hx) e1 (I.base.free b o e n hx)
  · obtain ⟨o', e1⟩ := I.base.there b o e hx
    exact there b o' (neC b o e hx) e1
  · obtain ⟨m1, e1⟩ := I.base.tbls b ps e
    obtain ⟨m2, e2⟩ := tbls b _ e1
    exact ⟨m1 ++ m2, by rw [e2, Array.append_assoc]⟩
  · obtain ⟨m, hn, hl⟩ := I.loc
    refine ⟨m, ns m hn, fun i x v e1 e2 e3 => ?_⟩
    obtain ⟨u, r, l⟩ := hl i x v e1 e2 e3
    refine ⟨u, r, ?_⟩
    rcases l with l | ⟨k, c, e, z⟩
    · exact .inl l
    · exact .inr ⟨k, c, e, cellK x c e _ z⟩
  · obtain ⟨v, z⟩ := I.cell x c e
    exact ⟨v, cellK x c e v z⟩
  · obtain ⟨m, ⟨o, _, _, ho, _⟩, _⟩ := I.loc
    exact free _ o (fun z => (hch _ z).2.1 rfl) ho I.free
  · obtain ⟨v, o, ho, hd⟩ := I.cell x c e
    exact free c o (fun z => (hch c z).2.2.1 x c e rfl) ho (I.freeC x c e)
  · obtain ⟨e, n, ne, nf, d⟩ := I.pin p hp
    have nch : p.1 ∉ ch := fun z => (hch p.1 z).2.2.2 p hp rfl
    exact ⟨keep p.1 p.2 ne nf nch e n, free p.1 p.2 nch e n, ne, nf, d⟩

theorem Inv.un {t' : Nat} (I : Inv X pins σ H s) (u : Un X.fs [] H H' s.heap h') (hok : HOk X.prog X.w H' h') : Inv X pins σ H' { s with heap := h', toks := t' } := by
  obtain ⟨m, ⟨o, es, ep, ho, r⟩, _⟩ := id I.loc
  obtain ⟨sl, hL⟩ := u.any ho I.free (by simp)
  exact I.step (g' := s.gens) (d' := s.drawn) (ch := []) (fun _ z => nomatch z) (fun b o _ hb _ e n => u.keep b o e n hb (by simp)) (fun b o _ hb _ e n => u.slot b o e n hb (by simp)) (fun b o _ e n => u.free b o e n (by simp)) (fun b o _ e => u.there b o e (by simp)) u.tups u.frzs u.tbls (fun m' hm => by
    obtain ⟨o', es', ep', ho', r'⟩ := hm
    rw [ho] at ho'; cases ho'
    exact ⟨_, es', ep', hL, r'⟩) hok I.bare

theorem Inv.call {g' : Array GenState} {t' : Nat} {d' : Drawn} {ch : List Addr} (I : Inv X pins σ H s) (u : Un (frs X.stack) ch H H' s.heap h') (hok : HOk X.prog X.w H' h') (hg : AllBare g')
    (hch : ∀ b ∈ ch, (b ∈ X.ex ∨ X.s₀.heap.objs.size ≤ b) ∧ b ≠ X.env.locals ∧ (∀ x c, X.env.cells.lookup x = some c → c ≠ b) ∧ ∀ p ∈ X.pn ++ pins, p.1 ≠ b) :
    Inv X pins σ H' { s with heap := h', gens := g', drawn := d', toks := t' } := by
  obtain ⟨m, ⟨o, es, ep, ho, r⟩, _⟩ := id I.loc
  obtain ⟨sl, hL⟩ := u.any ho I.free fun z => (hch _ z).2.1 rfl
  exact I.step (ch := ch) hch (fun b o hL hb hc e n => u.keep b o e n (fun z => (List.mem_cons.mp (I.stkSub b z)).elim hL hb) hc) (fun b o _ _ hc e n => u.any e n hc) (fun b o hc e n => u.free b o e n hc) (fun b o hc e => u.there b o e hc) u.tups u.frzs u.tbls (fun m' hm => by
    obtain ⟨o', es', ep', ho', r'⟩ := hm
    rw [ho] at ho'; cases ho'
    exact ⟨_, es', ep', hL, r'⟩) hok hg

theorem Inv.turned {t' : Nat} {it : Addr} (I : Inv X pins σ H s) (k : ∀ b o, b ≠ it → s.heap.get? b = some o → h'.get? b = some o) (hn : H it = none) (hL : it ≠ X.env.locals)
    (h1 : it ∈ X.ex ∨ X.s₀.heap.objs.size ≤ it) (h2 : ∀ x c, X.env.cells.lookup x = some c → c ≠ it) (h3 : ∀ p ∈ X.pn ++ pins, p.1 ≠ it) : Inv X pins σ H { s with heap := h', toks := t' } := by
  have nit : ∀ b u, H b = some u → b ≠ it := fun b u e z => by rw [z, hn] at e; cases e
  refine I.step (g' := s.gens) (d' := s.drawn) (ch := [it]) (fun b hb => ?_) (fun b o _ _ hc e _ => k b o (fun z => hc (by simp [z])) e) (fun b o _ _ hc e _ => ⟨o.slots, k b o (fun z => hc (by simp [z])) e⟩) (fun _ _ _ _ n => n)
    (fun b o hc e => ⟨o, k b o (fun z => hc (by simp [z])) e⟩) (fun _ _ e => e) (fun _ _ _ e => e) (fun b ps e => ⟨#[], by rw [e]; simp⟩) (fun m hm => ?_) (fun b u e => ?_) I.bare
  · have e : b = it := by simpa using hb
    subst e
    exact ⟨h1, hL, h2, h3⟩
  · obtain ⟨o, es, ep, ho, r⟩ := hm
    exact ⟨o, es, ep, k _ o (Ne.symm hL) ho, r⟩
  · refine (I.hok b u e).stay (fun c v hc q => k c v ?_ q) (fun _ q => q) fun _ _ q => q
    rcases hc with z | z
    · rw [z]; exact nit b u e
    · exact nit c _ z
theorem Inv.tok (I : Inv X pins σ H s) (t : Nat) : Inv X pins σ H { s with toks := t } := I.un (h' := s.heap) (t' := t) Un.refl I.hok

theorem Inv.kept {t' : Nat} (I : Inv X pins σ H s) (k : ∀ b u, s.heap.get? b = some u → h'.get? b = some u) : Inv X pins σ H { s with heap := h', toks := t' } := I.un (Un.kept k) (I.hok.kept k)

theorem Inv.laid {a : Addr} {o : HO} {t' : Nat} (I : Inv X pins σ H s) (k : ∀ b u, s.heap.get? b = some u → h'.get? b = some u) (hp : s.heap.objs.size ≤ a) (new : ObjOk X.prog X.w (upd H a o) h' a o) :
    Inv X pins σ (upd H a o) { s with heap := h', toks := t' } := I.un (Un.laid k hp (I.hok.fresh hp)) (I.hok.laid k hp new)

theorem Inv.write {x e : Addr} {o : HO} {t' : Nat} (I : Inv X pins σ H s) (mu : Mut (H x)) (he : e = x ∨ H e = some (.own x)) (k : ∀ b u, b ≠ e → s.heap.get? b = some u → h'.get? b = some u) (heo : ∃ u, h'.get? e = some u)
    (new : ObjOk X.prog X.w (upd H x o) h' x o) : Inv X pins σ (upd H x o) { s with heap := h', toks := t' } := I.un (Un.write mu he k heo) (I.hok.write mu he k heo new)

theorem Inv.pins_of {pins' : List (Addr × Obj)} (I : Inv X pins σ H s) (h : ∀ p ∈ pins', s.heap.get? p.1 = some p.2 ∧ H p.1 = none ∧ p.1 ≠ X.env.locals ∧ p.1 ∉ X.fs ∧ ∀ v, p.2.data ≠ .cell v) : Inv X pins' σ H s :=
  ⟨I.ok, I.os, I.bare, I.base, I.loc, I.cell, I.free, I.freeC, fun p hp => (List.mem_append.mp hp).elim (fun z => I.pin p (List.mem_append_left _ z)) (h p), I.hok, I.len⟩

theorem nodup_ix {N : List Str} (hN : N.Nodup) {i j : Nat} {x : Str} (a : N[i]? = some x) (b : N[j]? = some x) : i = j := by
  obtain ⟨h1, e1⟩ := List.getElem?_eq_some_iff.mp a
  obtain ⟨h2, e2⟩ := List.getElem?_eq_some_iff.mp b
  exact (List.getElem_inj hN).mp (e1.trans e2.symm)


theorem store_ok2 {M : Model} {A : Around} {E : Value → Shared → Prop} {i : Nat} {x : Str} {v : V} {u : Value} {Q : Unit → Shared → Prop} (I : Inv X pins σ H s) (hN : X.N.Nodup) (hi : X.N[i]? = some x) (hx : Loc X.env.scope x) (r : RelV v u)
    (h : ∀ s', Inv X pins (σ.set i (some v)) H s' → (∃ a, Heap.SameBut a s.heap s'.heap ∧ (a = X.env.locals ∨ X.env.cells.lookup x = some a)) → Q () s') (hf : X.fn x = true ∨ X.env.scope.names.lookup x = some .local := by first | exact .inl rfl | exact .inr rfl | assumption) : wpAny M A (storeName X.env x u) Q E s := by
  obtain ⟨m, hn, hl⟩ := id I.loc
  have hcls : (X.env.scope.kind == .class || (X.env.scope.kind == .module && X.env.locals != X.env.globals)) = false := by rw [I.ok.kind]; rfl
  have hiσ : i < σ.length := by rw [I.len]; exact (List.getElem?_eq_some_iff.mp hi).1
  have cne := I.cne
  have tracked : ∀ {a : Addr} {h' : Heap}, (∃ o, s.heap.get? a = some o ∧ H a = none) → Heap.SameBut a s.heap h' → HOk X.prog X.w H h' := fun {a h'} ha hs b ob e => by
    obtain ⟨_, _, hfree⟩ := ha
    refine (I.hok b ob e).stay (fun c w' hc q => (hs.2 c ?_).trans q) (fun _ q => q) fun _ _ q => q
    rintro rfl
    rcases hc with rfl | hc
    · rw [hfree] at e; cases e
    · rw [hfree] at hc; cases hc
  rcases hx with hk | hk
  · refine wpAny_storeName_local hk hn (fun h' hn' hs => ?_) hcls
    obtain ⟨oL, _, _, hoL, _⟩ := id hn
    refine h _ ⟨I.ok, I.os, I.bare, ⟨fun b o e n hb hx => ?_, fun b o e n hb hx => ?_, I.base.free, fun b o e hx => ?_, I.base.tups, I.base.frzs, I.base.tbls⟩, ⟨_, hn', fun j y v' e1 e2 e3 => ?_⟩, fun y c e => ?_, I.free, I.freeC, fun p hp => ?_, tracked ⟨oL, hoL, I.free⟩ hs, by simpa using I.len⟩ ⟨_, hs, .inl rfl⟩
    · exact (hs.2 b (Nat.ne_of_lt (Nat.lt_of_lt_of_le (Heap.lt_size e) I.ok.above))).trans (I.base.keep b o e n hb hx)
    · obtain ⟨sl, e1⟩ := I.base.slot b o e n hb hx
      exact ⟨sl, (hs.2 b (Nat.ne_of_lt (Nat.lt_of_lt_of_le (Heap.lt_size e) I.ok.above))).trans e1⟩
    · obtain ⟨o', e1⟩ := I.base.there b o e hx
      exact ⟨o', (hs.2 b (Nat.ne_of_lt (Nat.lt_of_lt_of_le (Heap.lt_size e) I.ok.above))).trans e1⟩
    · by_cases hj : j = i
      · subst hj
        rw [hi] at e1; cases e1
        rw [List.getElem?_set_self hiσ] at e2
        cases e2
        exact ⟨u, r, .inl ⟨hk, by simp⟩⟩
      · rw [List.getElem?_set_ne (Ne.symm hj)] at e2
        obtain ⟨u', r', q⟩ := hl j y v' e1 e2 e3
        refine ⟨u', r', ?_⟩
        rcases q with ⟨k, e⟩ | ⟨k, c, e, z⟩
        · refine .inl ⟨k, ?_⟩
          have : y ≠ x := fun e => hj (nodup_ix hN e1 (e ▸ hi))
          simp [this, e]
        · exact .inr ⟨k, c, e, z.sameBut hs (cne y c e)⟩
    · obtain ⟨w', z⟩ := I.cell y c e
      exact ⟨w', z.sameBut hs (cne y c e)⟩
    · obtain ⟨e, n, ne, nf, d⟩ := I.pin p hp
      exact ⟨(hs.2 p.1 ne).trans e, n, ne, nf, d⟩
  · have hfn : X.fn x = true := by
      rcases hf with z | z
      · exact z
      · rw [z] at hk; cases hk
    obtain ⟨c, hc⟩ := I.ok.has x (.inl hk)
    obtain ⟨w', z⟩ := I.cell x c hc
    refine wpAny_storeName_cell I.ok.kind hk hc z (fun h' hc' hs => ?_)
    obtain ⟨oc, hoc, hocd⟩ := id z
    refine h { s with heap := h' } ⟨I.ok, I.os, I.bare, ⟨fun b o e n hb hx => ?_, fun b o e n hb hx => ?_, I.base.free, fun b o e hx => ?_, I.base.tups, I.base.frzs, I.base.tbls⟩, ⟨m, hn.sameBut hs (Ne.symm (cne x c hc)), fun j y v' e1 e2 e3 => ?_⟩, fun y c' e => ?_, I.free, I.freeC, fun p hp => ?_, tracked ⟨oc, hoc, I.freeC x c hc⟩ hs, by simpa using I.len⟩ ⟨c, hs, .inr hc⟩
    · exact (hs.2 b (Nat.ne_of_lt (Nat.lt_of_lt_of_le (Heap.lt_size e) (I.ok.cab x c hfn hc)))).trans (I.base.keep b o e n hb hx)
    · obtain ⟨sl, e1⟩ := I.base.slot b o e n hb hx
      exact ⟨sl, (hs.2 b (Nat.ne_of_lt (Nat.lt_of_lt_of_le (Heap.lt_size e) (I.ok.cab x c hfn hc)))).trans e1⟩
    · obtain ⟨o', e1⟩ := I.base.there b o e hx
      exact ⟨o', (hs.2 b (Nat.ne_of_lt (Nat.lt_of_lt_of_le (Heap.lt_size e) (I.ok.cab x c hfn hc)))).trans e1⟩
    · by_cases hj : j = i
      · subst hj
        rw [hi] at e1; cases e1
        rw [List.getElem?_set_self hiσ] at e2
        cases e2
        exact ⟨u, r, .inr ⟨.inl hk, c, hc, hc'⟩⟩
      · rw [List.getElem?_set_ne (Ne.symm hj)] at e2
        obtain ⟨u', r', q⟩ := hl j y v' e1 e2 e3
        refine ⟨u', r', ?_⟩
        rcases q with q | ⟨k, c', e, z'⟩
        · exact .inl q
        · refine .inr ⟨k, c', e, z'.sameBut hs ?_⟩
          rintro rfl
          exact hj (nodup_ix hN e1 (I.ok.inj _ _ _ e hc ▸ hi))
    · by_cases hcc : c' = c
      · subst hcc; exact ⟨_, hc'⟩
      · obtain ⟨w2, z2⟩ := I.cell y c' e
        exact ⟨w2, z2.sameBut hs hcc⟩
    · obtain ⟨e, n, ne, nf, d⟩ := I.pin p hp
      refine ⟨(hs.2 p.1 ?_).trans e, n, ne, nf, d⟩
      intro q
      rw [q, hoc] at e
      have q' : oc = p.2 := Option.some.inj e
      exact d w' (by rw [← q']; exact hocd)
theorem store_ok {M : Model} {A : Around} {E : Value → Shared → Prop} {i : Nat} {x : Str} {v : V} {u : Value} {Q : Unit → Shared → Prop} (I : Inv X pins σ H s) (hN : X.N.Nodup) (hi : X.N[i]? = some x) (hx : Loc X.env.scope x) (r : RelV v u)
    (h : ∀ s', Inv X pins (σ.set i (some v)) H s' → Q () s') (hf : X.fn x = true ∨ X.env.scope.names.lookup x = some .local := by first | exact .inl rfl | exact .inr rfl | assumption) : wpAny M A (storeName X.env x u) Q E s :=
  store_ok2 I hN hi hx r (fun s' I' _ => h s' I') hf

theorem Inv.call' {s' : Shared} {ch : List Addr} (I : Inv X pins σ H s) (ho : s'.os = s.os) (u : Un (frs X.stack) ch H H' s.heap s'.heap) (hok : HOk X.prog X.w H' s'.heap) (hg : AllBare s'.gens)
    (hch : ∀ b ∈ ch, (b ∈ X.ex ∨ X.s₀.heap.objs.size ≤ b) ∧ b ≠ X.env.locals ∧ (∀ x c, X.env.cells.lookup x = some c → c ≠ b) ∧ ∀ p ∈ X.pn ++ pins, p.1 ≠ b) : Inv X pins σ H' s' := by
  obtain ⟨h', g', d', t', o'⟩ := s'
  have e : o' = s.os := ho
  subst e
  exact I.call (g' := g') (t' := t') (d' := d') u hok hg hch
end



abbrev XK := Value → Option Addr → Hp → Prop
abbrev St := List (Option V)
abbrev VK := V → Hp → Prop

abbrev TE := St → Hp → VK → Prop
abbrev TT := St → Hp → (Bool → Hp → Prop) → Prop
abbrev TA := St → Hp → (List V → Hp → Prop) → Prop

structure Ends where
  nx : St → Hp → Prop
  rt : VK
  bk : St → Hp → Prop := fun _ _ => False
  ct : St → Hp → Prop := fun _ _ => False
abbrev TS := Ends → St → Hp → Prop

def EP (X : Cx) (pins : List (Addr × Obj)) (σ : St) (Q : VK) (u : Value) (s' : Shared) : Prop := ∃ v H', Inv X pins σ H' s' ∧ RelV v u ∧ Q v H'
def TP (X : Cx) (pins : List (Addr × Obj)) (σ : St) (Q : Bool → Hp → Prop) (b : Bool) (s' : Shared) : Prop := ∃ H', Inv X pins σ H' s' ∧ Q b H'
def AP (X : Cx) (pins : List (Addr × Obj)) (σ : St) (Q : List V → Hp → Prop) (us : List Value) (s' : Shared) : Prop := ∃ vs H', Inv X pins σ H' s' ∧ Vals vs us ∧ Q vs H'
def SP (X : Cx) (pins : List (Addr × Obj)) (D : Ends) (f : Flow) (s' : Shared) : Prop :=
  match f with
  | .next => ∃ σ' H', Inv X pins σ' H' s' ∧ D.nx σ' H'
  | .brk => ∃ σ' H', Inv X pins σ' H' s' ∧ D.bk σ' H'
  | .cont => ∃ σ' H', Inv X pins σ' H' s' ∧ D.ct σ' H'
  | .ret u => ∃ v σ' H', Inv X pins σ' H' s' ∧ RelV v u ∧ D.rt v H'

def PE (X : Cx) (e : Expr) (t : TE) : Prop :=
  ∀ (pins : List (Addr × Obj)) (s : Shared) (σ : St) (H : Hp) (Q : VK), Inv X pins σ H s → t σ H Q → wpAny (model X.prog X.w) X.A (eval e X.env) (EP X pins σ Q) X.xe s
def PT (X : Cx) (e : Expr) (t : TT) : Prop :=
  ∀ (pins : List (Addr × Obj)) (s : Shared) (σ : St) (H : Hp) (Q : Bool → Hp → Prop), Inv X pins σ H s → t σ H Q → wpAny (model X.prog X.w) X.A (isTrue e X.env (eval e X.env)) (TP X pins σ Q) X.xe s

def PW (X : Cx) (e : Expr) (t : TT) : Prop :=
  ∀ (whole : Sem Value) (pins : List (Addr × Obj)) (s : Shared) (σ : St) (H : Hp) (Q : Bool → Hp → Prop), Inv X pins σ H s → t σ H Q → wpAny (model X.prog X.w) X.A (isTrue e X.env whole) (TP X pins σ Q) X.xe s
theorem PW.pt {X : Cx} {e : Expr} {t : TT} (h : PW X e t) : PT X e t := h _

def PA (X : Cx) (es : List Expr) (t : TA) : Prop :=
  ∀ (pos : Pos) (pins : List (Addr × Obj)) (s : Shared) (σ : St) (H : Hp) (Q : List V → Hp → Prop), Inv X pins σ H s → t σ H Q → wpAny (model X.prog X.w) X.A (spliced (backTo pos (starEach es X.env))) (AP X pins σ Q) X.xe s
def PS (X : Cx) (st : Stmt) (t : TS) : Prop :=
  ∀ (pins : List (Addr × Obj)) (s : Shared) (σ : St) (H : Hp) (D : Ends), Inv X pins σ H s → t D σ H → wpAny (model X.prog X.w) X.A (exec st X.env) (SP X pins D) X.xe s
def PSs (X : Cx) (st : List Stmt) (t : TS) : Prop :=
  ∀ (pins : List (Addr × Obj)) (s : Shared) (σ : St) (H : Hp) (D : Ends), Inv X pins σ H s → t D σ H → wpAny (model X.prog X.w) X.A (execs st X.env) (SP X pins D) X.xe s

theorem thn {α : Type} {t : Sem α} {Q Q' : α → Shared → Prop} {M : Model} {A : Around} {E : Value → Shared → Prop} {s : Shared} (h : wpAny M A t Q E s) (hQ : ∀ a s, Q a s → Q' a s) : wpAny M A t Q' E s := wpAny_mono h hQ fun _ _ x => x
end L2

namespace L2
open PySem PySem.Spec PyProof.Rows
section
variable {X : Cx}


def tVar (i : Nat) : TE := fun σ H Q => ∃ v, σ[i]? = some (some v) ∧ Q v H
def tC (v : V) : TE := fun _ H Q => Q v H
theorem pe_var {i : Nat} {x : Str} {pos : Pos} (hN : X.N[i]? = some x) (hv : Vis X.env.scope x) (hd : (x == ("__debug__" : Str)) = false := by decide) (hcd : (x == ("__classdict__" : Str)) = false := by decide) : PE X (.Name x pos) (tVar i) := by
  intro pins s σ H Q I h
  obtain ⟨v, e, h⟩ := h
  obtain ⟨m, hn, hl⟩ := I.loc
  obtain ⟨u, r, l⟩ := hl i x v hN e hv
  have fin : EP X pins σ Q u s := ⟨v, H, I, r, h⟩
  rcases l with ⟨hk, hm⟩ | ⟨hk, c, hc, hcell⟩
  · exact wpAny_Name (wpAny_loadName_local I.ok.kind hk hn hm fin) hd
  · rcases hk with hk | hk
    · exact wpAny_Name (wpAny_loadName_cell I.ok.kind hk hc hcell fin) hd
    · exact wpAny_Name (wpAny_loadName_free I.ok.kind hk hc hcell fin hcd) hd
theorem pe_int {i j pos} : PE X (.Constant (.int i) j pos) (tC (.int i)) := fun _ _ _ H _ I h => wpAny_Constant_int ⟨.int i, H, I.tok _, ⟨_, rfl⟩, h⟩
theorem pe_bl {b j pos} : PE X (.Constant (.bool b) j pos) (tC (.bl b)) := fun _ _ _ H _ I h => Constant_bool ⟨.bl b, H, I, rfl, h⟩
theorem pe_non {j pos} : PE X (.Constant .none j pos) (tC .non) := fun _ _ _ H _ I h => Constant_none ⟨.non, H, I, rfl, h⟩
def Gl (X : Cx) (x : Str) : Prop := X.env.kindOf x = some .globalImplicit
theorem ld_glob {E : Value → Shared → Prop} {pins : List (Addr × Obj)} {s : Shared} {σ : St} {H : Hp} {x : Str} {u : Value} {pos : Pos} {Q : Value → Shared → Prop} (I : Inv X pins σ H s) (hg : Gl X x) (hm : X.mg x = some u) (h : Q u s)
    (hd : (x == ("__debug__" : Str)) = false := by decide) : wpAny (model X.prog X.w) X.A (eval (.Name x pos) X.env) Q E s :=
  Calls.Name_function_global I.ok.kind hg (Calls.loadGlobal_global (by rw [I.ok.glob]; exact I.mod.glob.keeps I.bk) hm h) hd
theorem ld_blt {E : Value → Shared → Prop} {pins : List (Addr × Obj)} {s : Shared} {σ : St} {H : Hp} {x : Str} {u : Value} {pos : Pos} {Q : Value → Shared → Prop} (I : Inv X pins σ H s) (hg : Gl X x) (hm : X.mg x = none) (hv : bootBuiltins x = some u) (h : Q u s)
    (hn : x ≠ "__name__" := by decide) (hd : (x == ("__debug__" : Str)) = false := by decide) : wpAny (model X.prog X.w) X.A (eval (.Name x pos) X.env) Q E s := by
  obtain ⟨mb, h1, h2⟩ := I.mod.blt
  exact Calls.Name_function_global I.ok.kind hg (Calls.loadGlobal_builtin (by rw [I.ok.glob]; exact I.mod.glob.keeps I.bk) hm (by rw [I.ok.blt]; exact h1.keeps I.bk) ((h2 x hn).trans hv) h) hd

theorem pe_glob {x : Str} {v : V} {u : Value} {pos : Pos} (hg : Gl X x) (hm : X.mg x = some u) (r : RelV v u) (hd : (x == ("__debug__" : Str)) = false := by decide) : PE X (.Name x pos) (tC v) :=
  fun _ _ _ H _ I h => ld_glob I hg hm ⟨v, H, I, r, h⟩ hd
theorem pe_bltn {x : Str} {v : V} {u : Value} {pos : Pos} (hg : Gl X x) (hm : X.mg x = none) (hv : bootBuiltins x = some u) (r : RelV v u) (hn : x ≠ "__name__" := by decide) (hd : (x == ("__debug__" : Str)) = false := by decide) : PE X (.Name x pos) (tC v) :=
  fun _ _ _ H _ I h => ld_blt I hg hm hv ⟨v, H, I, r, h⟩ hn hd



variable {a b : Expr} {ta tb : TE} {pos : Pos}
def PC (X : Cx) (op : CmpOp) (a b : Expr) (t : TE) : Prop :=
  ∀ (pins : List (Addr × Obj)) (s : Shared) (σ : St) (H : Hp) (Q : VK), Inv X pins σ H s → t σ H Q →
    wpAny (model X.prog X.w) X.A (eval a X.env) (fun v s₁ => wpAny (model X.prog X.w) X.A (eval b X.env) (fun u s₂ => wpAny (model X.prog X.w) X.A (compareOp op v u) (EP X pins σ Q) X.xe s₂) X.xe s₁) X.xe s
def tB (t : TE) : TT := fun σ H Q => t σ H fun x H1 => ∃ c, x = .bl c ∧ Q c H1
theorem pt_cmp {op : CmpOp} {t : TE} (h : PC X op a b t) (h1 : behindInMarks op b = false := by first | exact nobehind _ (by decide) (by decide) | rfl) : PT X (.Compare a [op] [b] pos) (tB t) := by
  intro pins s σ H Q I hw
  refine wpAny_isTrue_Compare1 (thn (h pins s σ H _ I hw) fun v s1 h1 => thn h1 fun u s2 h2 => thn h2 fun c s3 ⟨x, H1, I1, r1, q1⟩ => ?_) h1
  obtain ⟨d, rfl, q⟩ := q1
  cases r1
  exact wpAny_truthy_bool ⟨H1, I1, q⟩

theorem pt_val {e : Expr} {t : TE} (h : PE X e t) (he : ∀ whole, isTrue e X.env whole = (do let v ← whole; standAt e.pos; holding [v] (truthy v)) := by intro _; rfl) : PT X e (tB t) := by
  intro pins s σ H Q I hw
  refine isTrue_plain (thn (h pins s σ H _ I hw) fun v s1 ⟨x, H1, I1, r1, q1⟩ => ?_) (he _)
  obtain ⟨d, rfl, q⟩ := q1
  cases r1
  exact wpAny_truthy_bool ⟨H1, I1, q⟩


variable {tA tB' : TT} {rest : List Expr}
def tAnd (t u : TT) : TT := fun σ H Q => t σ H fun c H1 => if c = true then u σ H1 Q else Q false H1
def tOr (t u : TT) : TT := fun σ H Q => t σ H fun c H1 => if c = true then Q true H1 else u σ H1 Q
def tNot (t : TT) : TT := fun σ H Q => t σ H fun c H1 => Q (!c) H1
theorem pw_and1 (ha : PT X a tA) : PW X (.BoolOp .And [a] pos) tA := by
  intro wh pins s σ H Q I h
  refine isTrue_and (thn (ha pins s σ H Q I h) fun c s1 e => ?_)
  cases c with
  | true => exact isTrue_and_nil e
  | false => exact e
theorem pw_or1 (ha : PT X a tA) : PW X (.BoolOp .Or [a] pos) tA := by
  intro wh pins s σ H Q I h
  refine isTrue_or (thn (ha pins s σ H Q I h) fun c s1 e => ?_)
  cases c with
  | false => exact isTrue_or_nil e
  | true => exact e
theorem pw_and (ha : PT X a tA) (hb : PW X (.BoolOp .And (b :: rest) pos) tB') : PW X (.BoolOp .And (a :: b :: rest) pos) (tAnd tA tB') := by
  intro wh pins s σ H Q I h
  refine isTrue_and (thn (ha pins s σ H _ I h) fun c s1 ⟨H1, I1, q1⟩ => ?_)
  cases c with
  | true => exact hb wh pins s1 σ H1 Q I1 q1
  | false => exact ⟨H1, I1, q1⟩
theorem pw_or (ha : PT X a tA) (hb : PW X (.BoolOp .Or (b :: rest) pos) tB') : PW X (.BoolOp .Or (a :: b :: rest) pos) (tOr tA tB') := by
  intro wh pins s σ H Q I h
  refine isTrue_or (thn (ha pins s σ H _ I h) fun c s1 ⟨H1, I1, q1⟩ => ?_)
  cases c with
  | true => exact ⟨H1, I1, q1⟩
  | false => exact hb wh pins s1 σ H1 Q I1 q1
theorem pt_not (ha : PT X a tA) : PT X (.UnaryOp .Not a pos) (tNot tA) := by
  intro pins s σ H Q I h
  exact isTrue_not (ha pins s σ H (fun c H1 => Q (!c) H1) I h)

def tAndV (ta tb : TE) : TE := fun σ H Q => ta σ H fun x H1 => ∃ c, x = .bl c ∧ if c = true then tb σ H1 Q else Q (.bl false) H1
def tNotV (ta : TE) : TE := fun σ H Q => ta σ H fun x H1 => ∃ c, x = .bl c ∧ Q (.bl (!c)) H1
theorem pe_one {op} {t : TE} (h : PE X a t) : PE X (.BoolOp op [a] pos) t := fun pins s σ H Q I hw => BoolOp_one (h pins s σ H Q I hw)
theorem pe_and (ha : PE X a ta) (hb : PE X (.BoolOp .And (b :: rest) pos) tb) : PE X (.BoolOp .And (a :: b :: rest) pos) (tAndV ta tb) := by
  intro pins s σ H Q I h
  refine BoolOp_and (thn (ha pins s σ H _ I h) fun v s1 ⟨x, H1, I1, r1, q1⟩ => ?_)
  obtain ⟨c, rfl, q1⟩ := q1
  cases r1
  refine wpAny_truthy_bool ?_
  cases c with
  | true => exact hb pins s1 σ H1 Q I1 q1
  | false => exact ⟨.bl false, H1, I1, rfl, q1⟩
theorem pe_not (ha : PE X a ta) : PE X (.UnaryOp .Not a pos) (tNotV ta) := by
  intro pins s σ H Q I h
  refine UnaryOp_ (thn (ha pins s σ H _ I h) fun v s1 ⟨x, H1, I1, r1, q1⟩ => ?_)
  obtain ⟨c, rfl, q1⟩ := q1
  cases r1
  exact not_of (wpAny_truthy_bool ⟨.bl (!c), H1, I1, rfl, q1⟩)

def tIf (t : TT) (ta tb : TE) : TE := fun σ H Q => t σ H fun c H1 => if c = true then ta σ H1 Q else tb σ H1 Q
theorem pe_ifExp {c : Expr} (hc : PT X c tA) (ha : PE X a ta) (hb : PE X b tb) : PE X (.IfExp c a b pos) (tIf tA ta tb) := by
  intro pins s σ H Q I h
  refine wpAny_IfExp (thn (hc pins s σ H _ I h) fun d s1 ⟨H1, I1, q1⟩ => ?_)
  cases d with
  | true => exact ha pins s1 σ H1 Q I1 q1
  | false => exact hb pins s1 σ H1 Q I1 q1
end
end L2

namespace L2
open PySem PySem.Spec PyProof.Rows


def SqL (K : PySem.W.Frag) (H : Hp) (a : Addr) (xs : List V) : Prop :=
  Rd H a (.lst xs) ∨
    ∃ (o : Obj) (its : Array Value) (n : Nat), K.lookup a = some o ∧ o.cls = .type "list" ∧ o.dict = none ∧ o.data = .seq its n ∧ its.size ≤ sizeLine ∧ Vals xs its.toList
def SqT (K : PySem.W.Frag) (H : Hp) (a : Addr) (xs : List V) : Prop :=
  Rd H a (.tup xs) ∨
    ∃ (o : Obj) (its : Array Value) (n : Nat), K.lookup a = some o ∧ o.cls = .type "tuple" ∧ o.data = .seq its n ∧ its.size ≤ sizeLine ∧ Vals xs its.toList
def absV : Value → Option V
  | .none => some .non
  | .bool b => some (.bl b)
  | .int i _ => some (.int i)
  | .str x _ => some (.str x)
  | .bytes b _ => some (.byt b)
  | .float b _ => some (.flt b)
  | .ref a => some (.ref a)
  | .type n => some (.ty n)
  | _ => none
theorem RelV.abs {x : V} {u : Value} (r : RelV x u) : absV u = some x := by
  cases x with
  | non => cases r; rfl
  | bl _ => cases r; rfl
  | int _ => obtain ⟨t, rfl⟩ := r; rfl
  | str _ => obtain ⟨t, rfl⟩ := r; rfl
  | byt _ => obtain ⟨t, rfl⟩ := r; rfl
  | flt _ => obtain ⟨t, rfl⟩ := r; rfl
  | ref _ => cases r; rfl
  | ty _ => cases r; rfl
theorem RelV.inj {x y : V} {u : Value} (r : RelV x u) (q : RelV y u) : x = y := Option.some.inj (r.abs.symm.trans q.abs)
theorem Vals.inj : ∀ {xs ys : List V} {us : List Value}, Vals xs us → Vals ys us → xs = ys
  | _, _, _, .nil, .nil => rfl
  | _, _, _, .cons r t, .cons r' t' => by rw [r.inj r', Vals.inj t t']
section
variable {X : Cx} {pins : List (Addr × Obj)} {σ : St} {H : Hp} {s : Shared} {a : Addr} {xs ys : List V}
theorem SqL.of {K : PySem.W.Frag} (h : H a = some (.lst xs)) : SqL K H a xs := .inl (.inl h)
theorem SqT.of {K : PySem.W.Frag} (h : H a = some (.tup xs)) : SqT K H a xs := .inl (.inl h)
theorem Inv.list (I : Inv X pins σ H s) (h : SqL X.K H a xs) : ∃ its : List Value, Vals xs its ∧ PlainL s.heap a its.toArray ∧ xs.length ≤ sizeLine := by
  rcases h with h | ⟨o, its, n, hk, hc, hd, hs, hz, r⟩
  · obtain ⟨z, its, n, r, e⟩ := h.ok I.hok
    exact ⟨its, r, ⟨_, n, e, rfl, rfl, rfl⟩, z⟩
  · refine ⟨its.toList, r, ⟨o, n, I.kIn a o hk, hc, hd, by simpa using hs⟩, ?_⟩
    have e := r.length
    simp only [Array.length_toList] at e
    omega
theorem Inv.tuple (I : Inv X pins σ H s) (h : SqT X.K H a xs) : ∃ its : List Value, Vals xs its ∧ IsTup s.heap a its.toArray ∧ xs.length ≤ sizeLine := by
  rcases h with h | ⟨o, its, n, hk, hc, hs, hz, r⟩
  · obtain ⟨z, its, r, p⟩ := h.ok I.hok
    exact ⟨its, r, p, z⟩
  · refine ⟨its.toList, r, ⟨o, I.kIn a o hk, hc, n, by simpa using hs⟩, ?_⟩
    have e := r.length
    simp only [Array.length_toList] at e
    omega
theorem Inv.list_inj (I : Inv X pins σ H s) (h : SqL X.K H a xs) (h' : SqL X.K H a ys) : xs = ys := by
  obtain ⟨its, r, ⟨o, n, e, _, _, d⟩, _⟩ := I.list h
  obtain ⟨its', r', ⟨o', n', e', _, _, d'⟩, _⟩ := I.list h'
  rw [e] at e'; cases e'
  rw [d] at d'
  injection d' with d1 _
  have : its = its' := by simpa using congrArg Array.toList d1
  subst this
  exact r.inj r'
theorem Inv.tuple_inj (I : Inv X pins σ H s) (h : SqT X.K H a xs) (h' : SqT X.K H a ys) : xs = ys := by
  obtain ⟨its, r, ⟨o, e, _, n, d⟩, _⟩ := I.tuple h
  obtain ⟨its', r', ⟨o', e', _, n', d'⟩, _⟩ := I.tuple h'
  rw [e] at e'; cases e'
  rw [d] at d'
  injection d' with d1 _
  have : its = its' := by simpa using congrArg Array.toList d1
  subst this
  exact r.inj r'
end


abbrev Cx.wish (X : Cx) (E : Value → Shared → Prop) : Cx := { X with xe := E }

abbrev Cx.nox (X : Cx) : Cx := X.wish fun _ _ => False
theorem Cx.Ok.wish {X : Cx} (ok : X.Ok) (E : Value → Shared → Prop) : (X.wish E).Ok :=
  ⟨ok.mod, ok.kind, ok.glob, ok.blt, ok.above, ok.inj, ok.has, ok.cab, ok.hd, ok.frames, ok.stk, ok.exf, ok.bs, ok.bsz, ok.noex, ok.exfs, ok.funs, ok.frf⟩
theorem Cx.Ok.unwish {X : Cx} {E : Value → Shared → Prop} (ok : (X.wish E).Ok) : X.Ok :=
  ⟨ok.mod, ok.kind, ok.glob, ok.blt, ok.above, ok.inj, ok.has, ok.cab, ok.hd, ok.frames, ok.stk, ok.exf, ok.bs, ok.bsz, ok.noex, ok.exfs, ok.funs, ok.frf⟩
section
variable {X : Cx} {pins : List (Addr × Obj)} {σ : St} {H : Hp} {s : Shared} {E : Value → Shared → Prop}
theorem Inv.wish (I : Inv X pins σ H s) (E : Value → Shared → Prop) : Inv (X.wish E) pins σ H s := ⟨I.ok.wish E, I.os, I.bare, I.base, I.loc, I.cell, I.free, I.freeC, I.pin, I.hok, I.len⟩
theorem Inv.unwish (I : Inv (X.wish E) pins σ H s) : Inv X pins σ H s := ⟨I.ok.unwish, I.os, I.bare, I.base, I.loc, I.cell, I.free, I.freeC, I.pin, I.hok, I.len⟩
theorem SP.unwish {D : Ends} {f : Flow} {s' : Shared} (h : SP (X.wish E) pins D f s') : SP X pins D f s' := by
  cases f with
  | next => obtain ⟨σ', H', I, q⟩ := h; exact ⟨σ', H', I.unwish, q⟩
  | brk => obtain ⟨σ', H', I, q⟩ := h; exact ⟨σ', H', I.unwish, q⟩
  | cont => obtain ⟨σ', H', I, q⟩ := h; exact ⟨σ', H', I.unwish, q⟩
  | ret u => obtain ⟨v, σ', H', I, r, q⟩ := h; exact ⟨v, σ', H', I.unwish, r, q⟩
theorem PSs.nox {st : List Stmt} {t : TS} (h : PSs X.nox st t) : PSs X st t := fun pins s σ H D I hw =>
  wpAny_mono (h pins s σ H D (I.wish _) hw) (fun _ _ q => q.unwish) fun _ _ z => False.elim z
end


section
variable {X : Cx} {st : Stmt} {rest : List Stmt} {t u : TS} {e : Expr} {te : TE} {pos : Pos}
def tNext : TS := fun D σ H => D.nx σ H
def tSeq (t u : TS) : TS := fun D σ H => t { D with nx := u D } σ H
theorem pss_nil : PSs X [] tNext := fun _ _ σ H _ I h => wpAny_execs_nil ⟨σ, H, I, h⟩
theorem pss_cons (h1 : PS X st t) (h2 : PSs X rest u) : PSs X (st :: rest) (tSeq t u) := by
  intro pins s σ H D I h
  refine wpAny_execs_cons (thn (h1 pins s σ H { D with nx := u D } I h) fun f s1 q => ?_)
  cases f with
  | next =>
    obtain ⟨σ', H', I', q⟩ := q
    exact h2 pins s1 σ' H' D I' q
  | ret v => exact q
  | brk => exact q
  | cont => exact q
theorem pss_one (h1 : PS X st t) : PSs X [st] t := by
  intro pins s σ H D I h
  refine wpAny_execs_cons (thn (h1 pins s σ H D I h) fun f s1 q => ?_)
  cases f with
  | next => exact wpAny_execs_nil q
  | ret v => exact q
  | brk => exact q
  | cont => exact q
theorem Inv.quiet {pins : List (Addr × Obj)} {σ : St} {H : Hp} {s : Shared} (I : Inv X pins σ H s) : interactive X.env = false := by simp [interactive, I.ok.kind]

def tDrop (te : TE) : TS := fun D σ H => te σ H fun _ H1 => D.nx σ H1
theorem ps_expr (he : PE X e te) (hs : swapsWith e none pos.line X.env = pure false := by rfl) : PS X (.Expr e pos) (tDrop te) := by
  intro pins s σ H D I h
  exact wpAny_Expr_any (thn (he pins s σ H _ I h) fun v s1 ⟨x, H1, I1, r1, q1⟩ => ⟨σ, H1, I1, q1⟩) I.quiet hs
def tRet (te : TE) : TS := fun D σ H => te σ H D.rt
theorem ps_ret (he : PE X e te) : PS X (.Return (some e) pos) (tRet te) := by
  intro pins s σ H D I h
  exact wpAny_Return_some (thn (he pins s σ H _ I h) fun v s1 ⟨x, H1, I1, r1, q1⟩ => ⟨x, σ, H1, I1, r1, q1⟩)
def tIfS (c : TT) (t u : TS) : TS := fun D σ H => c σ H fun b H1 => if b = true then t D σ H1 else u D σ H1
theorem ps_if {c : Expr} {a b : List Stmt} {tc : TT} (hc : PT X c tc) (ha : PSs X a t) (hb : PSs X b u) : PS X (.If c a b pos) (tIfS tc t u) := by
  intro pins s σ H D I h
  refine wpAny_If (thn (hc pins s σ H _ I h) fun d s1 ⟨H1, I1, q1⟩ => ?_)
  cases d with
  | true => exact ha pins s1 σ H1 D I1 q1
  | false => exact hb pins s1 σ H1 D I1 q1

end


abbrev TG := V → St → Hp → (St → Hp → Prop) → Prop
abbrev TGs := List V → St → Hp → (St → Hp → Prop) → Prop
def PG (X : Cx) (target : Expr) (t : TG) : Prop :=
  ∀ (pins : List (Addr × Obj)) (s : Shared) (σ : St) (H : Hp) (v : V) (u : Value) (Q : St → Hp → Prop), Inv X pins σ H s → RelV v u → t v σ H Q →
    wpAny (model X.prog X.w) X.A (assign target X.env u) (fun _ s' => ∃ σ' H', Inv X pins σ' H' s' ∧ Q σ' H') X.xe s

def PGs (X : Cx) (ts : List Expr) (t : TGs) : Prop :=
  ∀ (pins : List (Addr × Obj)) (s : Shared) (σ : St) (H : Hp) (vs : List V) (us : List Value) (Q : St → Hp → Prop), Inv X pins σ H s → Vals vs us → t vs σ H Q →
    wpAny (model X.prog X.w) X.A (assignInOrder ((assignEach ts X.env).map (·.2)) us) (fun _ s' => ∃ σ' H', Inv X pins σ' H' s' ∧ Q σ' H') X.xe s

section
variable {X : Cx} {pos : Pos}
def gName (i : Nat) : TG := fun v σ H Q => Q (σ.set i (some v)) H
theorem pg_name {i : Nat} {x : Str} (hN : X.N.Nodup) (hi : X.N[i]? = some x) (hx : Loc X.env.scope x) (hf : X.fn x = true ∨ X.env.scope.names.lookup x = some .local := by first | exact .inl rfl | exact .inr rfl | assumption) : PG X (.Name x pos) (gName i) := by
  intro pins s σ H v u Q I r h
  exact wpAny_assign_Name (store_ok I hN hi hx r (fun s' I' => ⟨_, H, I', h⟩) hf)
def gNil : TGs := fun vs σ H Q => vs = [] ∧ Q σ H
def gCons (t : TG) (u : TGs) : TGs := fun vs σ H Q => ∃ v r, vs = v :: r ∧ t v σ H fun σ' H' => u r σ' H' Q
theorem pgs_nil : PGs X [] gNil := by
  intro pins s σ H vs us Q I r h
  obtain ⟨e, h⟩ := h
  subst e
  cases r
  exact assignInOrder_nil ⟨σ, H, I, h⟩
theorem pgs_cons {e : Expr} {es : List Expr} {t : TG} {u : TGs} (h1 : PG X e t) (h2 : PGs X es u)
    (hs : (assignEach (e :: es) X.env).map (·.2) = assign e X.env :: (assignEach es X.env).map (·.2) := by rfl) : PGs X (e :: es) (gCons t u) := by
  intro pins s σ H vs us Q I r h
  obtain ⟨v, vr, e1, h⟩ := h
  subst e1
  cases r with
  | cons r rr =>
    rw [hs]
    refine assignInOrder_cons (thn (h1 pins s σ H _ _ _ I r h) fun _ s1 ⟨σ1, H1, I1, q1⟩ => ?_)
    exact h2 pins s1 σ1 H1 _ _ Q I1 rr q1

def gTup (K : PySem.W.Frag) (n : Nat) (t : TGs) : TG := fun v σ H Q => ∃ a xs, v = .ref a ∧ SqT K H a xs ∧ xs.length = n ∧ t xs σ H Q
theorem pg_tup {es : List Expr} {k : Nat} {t : TGs} {n : Nat} (hc : X.calm = true) (h : PGs X es t)
    (hn : (assignEach es X.env).length = n := by rfl) (hst : (assignEach es X.env).findIdx? (·.1) = none := by rfl) : PG X (.Tuple es k pos) (gTup X.K n t) := by
  intro pins s σ H v u Q I r hw
  obtain ⟨a, xs, e1, hq, hl, hw⟩ := hw
  subst e1
  cases r
  obtain ⟨its, rv, ht, hz⟩ := I.tuple hq
  refine assign_Tuple_tuple (I.ok.hd hc) ht (by simp [hn, ← hl, rv.length]) hst fun h' hx => ?_
  have I1 : Inv X pins σ H { s with heap := h' } := I.kept (t' := s.toks) fun b o e => hx b o (Nat.ne_of_lt (Heap.lt_size e)) e
  exact h pins _ σ H xs _ Q I1 (by simpa using rv) hw

def tAsg (te : TE) (g : TG) : TS := fun D σ H => te σ H fun x H1 => g x σ H1 D.nx
theorem ps_asg {tg e : Expr} {te : TE} {g : TG} (he : PE X e te) (hg : PG X tg g) (hs : swapsWithSole [tg] e pos.line X.env = pure false := by rfl) (hw : swappedStores [tg] e X.env = pure none := by rfl)
    (h1 : (assignEach [tg] X.env).map (·.2) = [assign tg X.env] := by rfl) : PS X (.Assign [tg] e pos) (tAsg te g) := by
  intro pins s σ H D I h
  refine wpAny_Assign_stores (thn (he pins s σ H _ I h) fun v s1 ⟨x, H1, I1, r1, q1⟩ => ?_) hs hw
  rw [h1]
  exact thn (hg pins s1 σ H1 x v _ I1 r1 q1) fun _ s2 q => q

theorem ps_set {i : Nat} {x : Str} {e : Expr} {te : TE} {pos' : Pos} (hN : X.N.Nodup) (hi : X.N[i]? = some x) (hx : Loc X.env.scope x) (he : PE X e te) (hs : swapsWith e (some (.Name x pos')) pos.line X.env = pure false := by rfl) (hf : X.fn x = true ∨ X.env.scope.names.lookup x = some .local := by first | exact .inl rfl | exact .inr rfl | assumption) :
    PS X (.Assign [.Name x pos'] e pos) (tAsg te (gName i)) := by
  intro pins s σ H D I h
  refine wpAny_Assign_Name (thn (he pins s σ H _ I h) fun v s1 ⟨y, H1, I1, r1, q1⟩ => ?_) hs
  exact store_ok I1 hN hi hx r1 (fun s2 I2 => ⟨_, H1, I2, q1⟩) hf

end


section
variable {X : Cx} {pos : Pos}

end



structure It where
  go : Nat → Hp → Prop
  yld : Nat → Hp → V → Hp → Prop
  stop : Nat → Hp → Prop

def FpOk (X : Cx) (pins : List (Addr × Obj)) (H : Hp) (b : Addr) : Prop :=
  H b = none ∧ b ≠ X.env.locals ∧ b ∉ X.fs ∧ (b ∈ X.ex ∨ X.s₀.heap.objs.size ≤ b) ∧ (∀ x c, X.env.cells.lookup x = some c → c ≠ b) ∧ ∀ p ∈ X.pn ++ pins, p.1 ≠ b
theorem Inv.fpOk {X : Cx} {pins : List (Addr × Obj)} {σ : St} {H H' : Hp} {s : Shared} {b : Addr} (I : Inv X pins σ H s) (hb : s.heap.objs.size ≤ b) (hn : H' b = none) : FpOk X pins H' b := by
  refine ⟨hn, Nat.ne_of_gt (Nat.lt_of_lt_of_le I.lt hb), I.nofs hb, .inr (Nat.le_trans I.sz hb), fun x c e z => ?_, fun p hp z => ?_⟩
  · obtain ⟨v, q⟩ := I.cell x c e
    exact absurd (Nat.lt_of_lt_of_le q.lt (by rw [z]; exact hb)) (Nat.lt_irrefl _)
  · exact absurd (Nat.lt_of_lt_of_le (Heap.lt_size (I.pin p hp).1) (by rw [z]; exact hb)) (Nat.lt_irrefl _)
structure Turn (P : Program) (w : World) (K : PySem.W.Frag) (tg : Expr) (J : It) (fp : List Addr) (it : Addr) (tn : Nat → Heap → Prop) : Prop where
  mem : it ∈ fp
  obj : ∀ i h, tn i h → ∀ b ∈ fp, ∃ o, h.get? b = some o ∧ ∀ v, o.data ≠ .cell v
  keep : ∀ i h h', tn i h → (∀ b ∈ fp, ∀ o, h.get? b = some o → h'.get? b = some o) → tn i h'
  item : ∀ (X : Cx), X.prog = P → X.w = w → X.K = K → X.calm = true → ∀ (i : Nat) (pins : List (Addr × Obj)) (s : Shared) (σ : St) (H : Hp) (E : Value → Shared → Prop), Inv X pins σ H s → (∀ b ∈ fp, FpOk X pins H b) → tn i s.heap → J.go i H →
    wpAny (model P w) X.A (pyNext (.ref it)) (fun r s1 => ∃ u, r = some u ∧
      wpAny (model P w) X.A (letOwnedTupleGo tg (.ref it) u) (fun _ s2 => ∃ x H', Inv X pins σ H' s2 ∧ RelV x u ∧ J.yld i H x H' ∧ tn (i + 1) s2.heap ∧ ∀ b ∈ fp, H' b = none) E s1) E s
  done : ∀ (X : Cx), X.prog = P → X.w = w → X.K = K → X.calm = true → ∀ (i : Nat) (pins : List (Addr × Obj)) (s : Shared) (σ : St) (H : Hp) (E : Value → Shared → Prop), Inv X pins σ H s → (∀ b ∈ fp, FpOk X pins H b) → tn i s.heap → J.stop i H →
    wpAny (model P w) X.A (pyNext (.ref it)) (fun r s1 => r = none ∧ Inv X pins σ H s1) E s
  self : ∀ (A : Around) (i : Nat) (s : Shared) (Q : Value → Shared → Prop) (E : Value → Shared → Prop), tn i s.heap → Q (.ref it) s → wpAny (model P w) A (pyIter (.ref it)) Q E s
abbrev TI := St → Hp → (It → Hp → Prop) → Prop

def PIE (X : Cx) (pins : List (Addr × Obj)) (σ : St) (tg : Expr) (R : It → Hp → Prop) (itv : Value) (s2 : Shared) : Prop :=
  ∃ (it : Addr) (fp : List Addr) (tn : Nat → Heap → Prop) (J : It) (H' : Hp), itv = .ref it ∧ Inv X pins σ H' s2 ∧ Turn X.prog X.w X.K tg J fp it tn ∧ tn 0 s2.heap ∧ (∀ b ∈ fp, FpOk X pins H' b) ∧ R J H'
def PI (X : Cx) (tg iter : Expr) (wi : TI) : Prop :=
  ∀ (pins : List (Addr × Obj)) (s : Shared) (σ : St) (H : Hp) (R : It → Hp → Prop), Inv X pins σ H s → wi σ H R →
    wpAny (model X.prog X.w) X.A (eval iter X.env) (fun v s1 => wpAny (model X.prog X.w) X.A (pyIter v) (PIE X pins σ tg R) X.xe s1) X.xe s


theorem go_of {M : Model} {A : Around} {E : Value → Shared → Prop} {s : Shared} {tg : Expr} {it : Addr} {u : Value} {o : Obj} {n : String} {vs : Array Value} {Q : Unit → Shared → Prop} (ho : s.heap.get? it = some o) (hc : o.cls = .type n) (hd : o.data = .fields vs)
    (hn : ["enumerate", "zip", "dict_itemiterator", "dict_reverseitemiterator", "odict_iterator", "itertools.zip_longest", "itertools.pairwise"].contains n = false) (hQ : Q () s) : wpAny M A (letOwnedTupleGo tg (.ref it) u) Q E s := by
  unfold letOwnedTupleGo
  cases tg <;> first
    | exact wpAny_pure hQ
    | (cases u <;> first
        | exact wpAny_pure hQ
        | (refine wpAny_bind (wpAny_load ho ?_)
           rw [hc, hd]
           show wpAny M A (if (["enumerate", "zip", "dict_itemiterator", "dict_reverseitemiterator", "odict_iterator", "itertools.zip_longest", "itertools.pairwise"].contains n && vs[0]? == some (rawInt _)) = true then _ else _) Q E s
           rw [if_neg (by intro h; rw [hn, Bool.false_and] at h; cases h)]
           exact wpAny_pure hQ))


def Itl (K : PySem.W.Frag) (a : Addr) : It :=
  ⟨fun i H => ∃ xs x, SqL K H a xs ∧ xs[i]? = some x, fun i H x H' => H' = H ∧ ∀ xs, SqL K H a xs → xs[i]? = some x, fun i H => ∃ xs, SqL K H a xs ∧ xs.length ≤ i⟩
def Itt (K : PySem.W.Frag) (a : Addr) : It :=
  ⟨fun i H => ∃ xs x, SqT K H a xs ∧ xs[i]? = some x, fun i H x H' => H' = H ∧ ∀ xs, SqT K H a xs → xs[i]? = some x, fun i H => ∃ xs, SqT K H a xs ∧ xs.length ≤ i⟩

def Itr (lo : Int) (n : Nat) : It := ⟨fun i _ => i < n, fun i H x H' => H' = H ∧ x = .int (lo + i), fun i _ => n ≤ i⟩
theorem turn_list {P : Program} {w : World} {K : PySem.W.Frag} {tg : Expr} (a it : Addr) : Turn P w K tg (Itl K a) [it] it (fun i h => h.IsListIter it a i) where
  mem := by simp
  obj := fun i h st b hb => by
    have e : b = it := by simpa using hb
    subst e
    obtain ⟨o, e, c, d⟩ := st
    exact ⟨o, e, fun v z => by rw [d] at z; cases z⟩
  keep := fun i h h' st k => st.at fun o e => k it (by simp) o e
  item := by
    intro X hP hw hK hc i pins s σ H E I hf st hg
    subst hP hw hK
    obtain ⟨xs, x, hq, hx⟩ := hg
    obtain ⟨its, rv, p, hz⟩ := I.list hq
    obtain ⟨u, hu, ru⟩ := rv.get hx
    obtain ⟨f0, f1, f2, f3, f4, f5⟩ := hf it (by simp)
    refine wpAny_pyNext_list_item st p.isList (x := u) (by simpa using hu) fun h' st' sb => ?_
    have I1 : Inv X pins σ H { s with heap := h' } := I.turned (t' := s.toks) (fun b o hb e => (sb.2 b hb).trans e) f0 f1 f3 f4 f5
    obtain ⟨o, e, c, d⟩ := id st'
    exact ⟨u, rfl, go_of (s := { s with heap := h' }) e c d (by decide) ⟨x, H, I1, ru, ⟨rfl, fun ys hy => by rw [I.list_inj hy hq]; exact hx⟩, st', fun b hb => (hf b hb).1⟩⟩
  done := by
    intro X hP hw hK hc i pins s σ H E I hf st hg
    subst hP hw hK
    obtain ⟨xs, hq, hx⟩ := hg
    obtain ⟨its, rv, p, hz⟩ := I.list hq
    obtain ⟨f0, f1, f2, f3, f4, f5⟩ := hf it (by simp)
    have hl := rv.length
    exact wpAny_pyNext_list_end (I.ok.hd hc) st p.isList (by simp; omega) fun h' eb => ⟨rfl, I.turned (t' := s.toks) (fun b o hb e => eb b o hb e) f0 f1 f3 f4 f5⟩
  self := fun _ _ _ _ _ st h => wpAny_pyIter_listiter st h
theorem turn_tuple {P : Program} {w : World} {K : PySem.W.Frag} {tg : Expr} (a it : Addr) : Turn P w K tg (Itt K a) [it] it (fun i h => h.IsTupleIter it a i) where
  mem := by simp
  obj := fun i h st b hb => by
    have e : b = it := by simpa using hb
    subst e
    obtain ⟨o, e, c, d⟩ := st
    exact ⟨o, e, fun v z => by rw [d] at z; cases z⟩
  keep := fun i h h' st k => st.at fun o e => k it (by simp) o e
  item := by
    intro X hP hw hK hc i pins s σ H E I hf st hg
    subst hP hw hK
    obtain ⟨xs, x, hq, hx⟩ := hg
    obtain ⟨its, rv, p, hz⟩ := I.tuple hq
    obtain ⟨u, hu, ru⟩ := rv.get hx
    obtain ⟨f0, f1, f2, f3, f4, f5⟩ := hf it (by simp)
    refine wpAny_pyNext_tuple_item st (show s.heap.IsTuple a its.toArray from p) (x := u) (by simpa using hu) fun h' st' sb => ?_
    have I1 : Inv X pins σ H { s with heap := h' } := I.turned (t' := s.toks) (fun b o hb e => (sb.2 b hb).trans e) f0 f1 f3 f4 f5
    obtain ⟨o, e, c, d⟩ := id st'
    exact ⟨u, rfl, go_of (s := { s with heap := h' }) e c d (by decide) ⟨x, H, I1, ru, ⟨rfl, fun ys hy => by rw [I.tuple_inj hy hq]; exact hx⟩, st', fun b hb => (hf b hb).1⟩⟩
  done := by
    intro X hP hw hK hc i pins s σ H E I hf st hg
    subst hP hw hK
    obtain ⟨xs, hq, hx⟩ := hg
    obtain ⟨its, rv, p, hz⟩ := I.tuple hq
    obtain ⟨f0, f1, f2, f3, f4, f5⟩ := hf it (by simp)
    have hl := rv.length
    exact wpAny_pyNext_tuple_end (I.ok.hd hc) st (show s.heap.IsTuple a its.toArray from p) (by simp; omega) fun h' eb => ⟨rfl, I.turned (t' := s.toks) (fun b o hb e => eb b o hb e) f0 f1 f3 f4 f5⟩
  self := fun _ _ _ _ _ st h => wpAny_pyIter_tupleiter st h
theorem turn_range {P : Program} {w : World} {K : PySem.W.Frag} {tg : Expr} (it : Addr) (lo : Int) (n : Nat) : Turn P w K tg (Itr lo n) [it] it (fun i h => IsRangeIter h it (lo + (i : Nat) * 1) ((n : Int) - (i : Nat)) 1) where
  mem := by simp
  obj := fun i h st b hb => by
    have e : b = it := by simpa using hb
    subst e
    exact ⟨_, st, fun v z => by
      have z' : Data.fields _ = Data.cell v := z
      cases z'⟩
  keep := fun i h h' st k => k it (by simp) _ st
  item := by
    intro X hP hw hK hc i pins s σ H E I hf st hg
    subst hP hw hK
    obtain ⟨f0, f1, f2, f3, f4, f5⟩ := hf it (by simp)
    have W := Walks.range (prog := X.prog) (w := X.w) (I.ok.hd hc) it lo 1 n
    refine W.item i s _ _ hg st fun v h' tk hv st' kk => ?_
    obtain ⟨t, rfl⟩ := hv
    have I1 : Inv X pins σ H { s with heap := h', toks := tk } := I.turned (fun b o hb e => kk b o (by simpa using hb) e) f0 f1 f3 f4 f5
    refine ⟨_, rfl, go_of (s := { s with heap := h', toks := tk }) (n := "range_iterator") st' rfl rfl (by decide) ⟨.int (lo + i), H, I1, ⟨t, ?_⟩, ⟨rfl, rfl⟩, st', fun b hb => (hf b hb).1⟩⟩
    rw [Int.mul_one]
  done := by
    intro X hP hw hK hc i pins s σ H E I hf st hg
    subst hP hw hK
    obtain ⟨f0, f1, f2, f3, f4, f5⟩ := hf it (by simp)
    exact wpAny_pyNext_range_end (I.ok.hd hc) st (by have : n ≤ i := hg; omega) fun h' eb => ⟨rfl, I.turned (t' := s.toks) (fun b o hb e => eb b o hb e) f0 f1 f3 f4 f5⟩
  self := fun _ _ _ _ _ st h => wpAny_pyIter_rangeiter st h
end L2

namespace L2
open PySem PySem.Spec PyProof.Rows
section
variable {X : Cx} {tg : Expr}
def iList (K : PySem.W.Frag) (tl : TE) : TI := fun σ H R => tl σ H fun x H1 => ∃ a, x = .ref a ∧ (∃ xs, SqL K H1 a xs) ∧ R (Itl K a) H1
def iTup (K : PySem.W.Frag) (tl : TE) : TI := fun σ H R => tl σ H fun x H1 => ∃ a, x = .ref a ∧ (∃ xs, SqT K H1 a xs) ∧ R (Itt K a) H1
theorem pi_list {l : Expr} {tl : TE} (hl : PE X l tl) : PI X tg l (iList X.K tl) := by
  intro pins s σ H R I h
  refine thn (hl pins s σ H _ I h) fun v s1 ⟨x, H1, I1, r1, q1⟩ => ?_
  obtain ⟨a, e, ⟨xs, hq⟩, q⟩ := q1
  subst e
  cases r1
  obtain ⟨its, rv, p, hz⟩ := I1.list hq
  refine wpAny_pyIter_list p.isList ?_
  refine ⟨s1.heap.objs.size, [s1.heap.objs.size], _, _, H1, rfl, I1.kept (t' := s1.toks) fun b o e => Heap.get?_push_of_some _ e, turn_list a _, ⟨_, Heap.get?_push_size _ rfl, rfl, rfl⟩, fun b hb => ?_, q⟩
  have e : b = s1.heap.objs.size := by simpa using hb
  subst e
  exact I1.fpOk (Nat.le_refl _) (I1.hok.fresh (Nat.le_refl _))
theorem pi_tup {l : Expr} {tl : TE} (hl : PE X l tl) : PI X tg l (iTup X.K tl) := by
  intro pins s σ H R I h
  refine thn (hl pins s σ H _ I h) fun v s1 ⟨x, H1, I1, r1, q1⟩ => ?_
  obtain ⟨a, e, ⟨xs, hq⟩, q⟩ := q1
  subst e
  cases r1
  obtain ⟨its, rv, p, hz⟩ := I1.tuple hq
  refine wpAny_pyIter_tuple (show s1.heap.IsTuple a its.toArray from p) ?_
  refine ⟨s1.heap.objs.size, [s1.heap.objs.size], _, _, H1, rfl, I1.kept (t' := s1.toks) fun b o e => Heap.get?_push_of_some _ e, turn_tuple a _, ⟨_, Heap.get?_push_size _ rfl, rfl, rfl⟩, fun b hb => ?_, q⟩
  have e : b = s1.heap.objs.size := by simpa using hb
  subst e
  exact I1.fpOk (Nat.le_refl _) (I1.hok.fresh (Nat.le_refl _))

theorem range_it {pins : List (Addr × Obj)} {σ : St} {H : Hp} {s : Shared} {R : It → Hp → Prop} {E : Value → Shared → Prop} {lo hi : Int} {t u v : Tok} {tk : Nat} (I : Inv X pins σ H s) (h1 : -(2 ^ 62) ≤ lo) (h2 : lo < 2 ^ 62) (h3 : -(2 ^ 62) ≤ hi) (h4 : hi < 2 ^ 62)
    (q : R (Itr lo (hi - lo).toNat) H) : wpAny (model X.prog X.w) X.A (pyIter (.ref s.heap.objs.size)) (PIE X pins σ tg R) E { s with heap := s.heap.push { cls := .type "range", data := .fields #[.int lo t, .int hi u, .int 1 v] }, toks := tk } := by
  refine wpAny_pyIter_range (IsRange.new ..) (small_one h1 h2 h3 h4) ?_
  have I1 : Inv X pins σ H { s with heap := s.heap.push { cls := .type "range", data := .fields #[.int lo t, .int hi u, .int 1 v] }, toks := tk } := I.kept fun b o e => Heap.get?_push_of_some _ e
  refine ⟨(s.heap.push { cls := .type "range", data := .fields #[.int lo t, .int hi u, .int 1 v] }).objs.size, [(s.heap.push { cls := .type "range", data := .fields #[.int lo t, .int hi u, .int 1 v] }).objs.size], _, _, H, rfl,
    I1.kept (t' := tk) fun b o e => Heap.get?_push_of_some _ e, turn_range _ lo (hi - lo).toNat, ?_, fun b hb => ?_, q⟩
  · have e1 : lo + ((0 : Nat) : Int) * 1 = lo := by simp
    have e2 : (((hi - lo).toNat : Nat) : Int) - ((0 : Nat) : Int) = Builtin.Range.rangeSize lo hi 1 := by rw [rangeSize_one]; split <;> omega
    show IsRangeIter _ _ (lo + ((0 : Nat) : Int) * 1) ((((hi - lo).toNat : Nat) : Int) - ((0 : Nat) : Int)) 1
    rw [e1, e2]
    exact Heap.get?_push_size _ rfl
  · have e : b = (s.heap.push { cls := .type "range", data := .fields #[.int lo t, .int hi u, .int 1 v] }).objs.size := by simpa using hb
    subst e
    exact I1.fpOk (Nat.le_refl _) (I1.hok.fresh (Nat.le_refl _))
def iRng1 (ta : TA) : TI := fun σ H R => ta σ H fun vs H1 => ∃ j : Int, vs = [.int j] ∧ -(2 ^ 62) ≤ j ∧ j < 2 ^ 62 ∧ R (Itr 0 j.toNat) H1
def iRng2 (ta : TA) : TI := fun σ H R => ta σ H fun vs H1 => ∃ i j : Int, vs = [.int i, .int j] ∧ (-(2 ^ 62) ≤ i ∧ i < 2 ^ 62 ∧ -(2 ^ 62) ≤ j ∧ j < 2 ^ 62) ∧ R (Itr i (j - i).toNat) H1
theorem pi_range1 {a : Expr} {ta : TA} {p pos : Pos} (hg : Gl X "range") (hm : X.mg "range" = none) (ha : PA X [a] ta) (hs : starEach [a] X.env = [(false, eval a X.env)] := by rfl) : PI X tg (.Call (.Name "range" p) [a] [] pos) (iRng1 ta) := by
  intro pins s σ H R I h
  refine Call_ (ld_blt I hg hm boot_range (PyProof.Rows.callWith_type1 (thn (ha pos pins s σ H _ I h) fun us s1 ⟨vs, H1, I1, r1, q1⟩ => ?_) hs rfl))
  obtain ⟨j, e, q1, q2, q⟩ := q1
  subst e
  cases r1 with
  | cons r rr =>
    cases rr
    obtain ⟨t, rfl⟩ := r
    exact call_range_1 (range_it I1 (by omega) (by omega) q1 q2 (by simpa using q))
theorem pi_range2 {a b : Expr} {ta : TA} {p pos : Pos} (hg : Gl X "range") (hm : X.mg "range" = none) (ha : PA X [a, b] ta) (hs : starEach [a, b] X.env = [(false, eval a X.env), (false, eval b X.env)] := by rfl) (hs2 : starEach [b] X.env = [(false, eval b X.env)] := by rfl) :
    PI X tg (.Call (.Name "range" p) [a, b] [] pos) (iRng2 ta) := by
  intro pins s σ H R I h
  refine Call_ (ld_blt I hg hm boot_range (PyProof.Rows.callWith_type1 (thn (ha pos pins s σ H _ I h) fun us s1 ⟨vs, H1, I1, r1, q1⟩ => ?_) (by rw [hs, hs2]) (by rw [hs2]; rfl)))
  obtain ⟨i, j, e, ⟨q1, q2, q3, q4⟩, q⟩ := q1
  subst e
  cases r1 with
  | cons r rr =>
    cases rr with
    | cons r' rr =>
      cases rr
      obtain ⟨t, rfl⟩ := r
      obtain ⟨t', rfl⟩ := r'
      exact call_range_2 (range_it I1 q1 q2 q3 q4 q)



def tFor (wi : TI) (g : TG) (tb : TS) : TS := fun D σ H => wi σ H fun J H1 => ∃ W : Nat → Nat → St → Hp → Prop, (∃ m, W 0 m σ H1) ∧ ∀ i m σ H, W i m σ H →
  (J.stop i H ∧ D.nx σ H) ∨ (J.go i H ∧ ∃ N : St → Hp → Prop, (∀ σ' H', N σ' H' → ∃ m', m' < m ∧ W (i + 1) m' σ' H') ∧ ∀ x H', J.yld i H x H' → g x σ H' fun σ2 H2 => tb { D with nx := N, ct := N, bk := D.nx } σ2 H2)

def pinsAt (fp : List Addr) (h : Heap) : List (Addr × Obj) := fp.filterMap fun b => (h.get? b).map fun o => (b, o)
theorem mem_pinsAt {fp : List Addr} {h : Heap} {b : Addr} {o : Obj} (hb : b ∈ fp) (e : h.get? b = some o) : (b, o) ∈ pinsAt fp h := List.mem_filterMap.mpr ⟨b, hb, by rw [e]; rfl⟩
theorem of_pinsAt {fp : List Addr} {h : Heap} {p : Addr × Obj} (hp : p ∈ pinsAt fp h) : p.1 ∈ fp ∧ h.get? p.1 = some p.2 := by
  obtain ⟨b, hb, e⟩ := List.mem_filterMap.mp hp
  cases q : h.get? b with
  | none => rw [q] at e; cases e
  | some o =>
    rw [q] at e
    have e' : (b, o) = p := Option.some.inj e
    subst e'
    exact ⟨hb, q⟩
theorem Inv.pinned {pins : List (Addr × Obj)} {σ : St} {H : Hp} {s : Shared} {fp : List Addr} (I : Inv X pins σ H s) (hf : ∀ b ∈ fp, FpOk X pins H b) (ho : ∀ b ∈ fp, ∃ o, s.heap.get? b = some o ∧ ∀ v, o.data ≠ .cell v) : Inv X (pins ++ pinsAt fp s.heap) σ H s :=
  I.pins_of fun p hp => (List.mem_append.mp hp).elim (fun z => I.pin p (List.mem_append_right _ z)) fun z => by
    obtain ⟨hb, e⟩ := of_pinsAt z
    obtain ⟨f0, f1, f2, _⟩ := hf p.1 hb
    obtain ⟨o, e', d⟩ := ho p.1 hb
    rw [e] at e'; cases e'
    exact ⟨e, f0, f1, f2, d⟩
theorem Inv.unpinned {pins pl : List (Addr × Obj)} {σ : St} {H : Hp} {s : Shared} (I : Inv X (pins ++ pl) σ H s) : Inv X pins σ H s := I.pins_of fun p hp => I.pin p (List.mem_append_right _ (List.mem_append_left _ hp))
theorem ps_for {iter : Expr} {body : List Stmt} {wi : TI} {g : TG} {tb : TS} {pos : Pos} (hp : PassesOwn (model X.prog X.w) X.A X.env X.xe) (hc : X.calm = true) (hi : PI X tg iter wi) (hg : PG X tg g) (hb : PSs X body tb)
    (hs : ∀ x, foldedSetIterable iter X.env x = pure x := by intro _; rfl) : PS X (.For tg iter body [] pos) (tFor wi g tb) := by
  intro pins s σ H D I h
  refine wpAny_For (thn (hi pins s σ H _ I h) fun v s1 h1 => thn h1 fun itv s2 h2 => ?_) hs
  obtain ⟨it, fp, tn, J, H2, e, I2, T, st2, f2, W, ⟨m0, w0⟩, turn⟩ := h2
  subst e
  -- what stays true of the iterator's objects through the loop
  have stat : ∀ {H' : Hp}, (∀ b ∈ fp, H' b = none) → ∀ b ∈ fp, FpOk X pins H' b := fun hn b hb => ⟨hn b hb, (f2 b hb).2⟩
  refine codeAny_forLoop_any (fun n s' => ∃ i σ' H', Inv X pins σ' H' s' ∧ tn i s'.heap ∧ (∀ b ∈ fp, H' b = none) ∧ W i n σ' H') ?_ m0 ⟨0, σ, H2, I2, st2, fun b hb => (f2 b hb).1, w0⟩
  rintro n s3 ⟨i, σ3, H3, I3, st3, fr3, w3⟩
  rcases turn i n σ3 H3 w3 with ⟨stop, qn⟩ | ⟨go, N, hN, step⟩
  · refine wpAny_passesOwn hp (thn (T.done X rfl rfl rfl hc i pins s3 σ3 H3 X.xe I3 (stat fr3) st3 stop) fun r s4 ⟨hr, I4⟩ => ?_)
    subst hr
    exact wpAny_execs_nil ⟨σ3, H3, I4, qn⟩
  · refine wpAny_passesOwn hp (thn (T.item X rfl rfl rfl hc i pins s3 σ3 H3 X.xe I3 (stat fr3) st3 go) fun r s4 ⟨u, hr, h4⟩ => ?_)
    subst hr
    refine wpAny_passesOwn hp (thn h4 fun _ s5 ⟨x, H5, I5, r5, y5, st5, fr5⟩ => ?_)
    have I5' := I5.pinned (stat fr5) (T.obj _ _ st5)
    refine wpAny_passesOwn hp (thn (hg _ s5 σ3 H5 x u _ I5' r5 (step x H5 y5)) fun _ s6 ⟨σ6, H6, I6, q6⟩ => ?_)
    refine wpAny_passesOwn hp (thn (hb _ s6 σ6 H6 _ I6 q6) fun f s7 q7 => ?_)
    have again : ∀ {σ7 : St} {H7 : Hp}, Inv X (pins ++ pinsAt fp s5.heap) σ7 H7 s7 → N σ7 H7 → ∃ m, m < n ∧ ∃ i σ' H', Inv X pins σ' H' s7 ∧ tn i s7.heap ∧ (∀ b ∈ fp, H' b = none) ∧ W i m σ' H' := fun {σ7 H7} I7 n7 => by
      obtain ⟨m', hm, w7⟩ := hN σ7 H7 n7
      refine ⟨m', hm, i + 1, σ7, H7, I7.unpinned, T.keep _ _ _ st5 fun b hb o e => (I7.pin (b, o) (List.mem_append_right _ (List.mem_append_right _ (mem_pinsAt hb e)))).1, fun b hb => ?_, w7⟩
      obtain ⟨o, e, d⟩ := T.obj _ _ st5 b hb
      exact (I7.pin (b, o) (List.mem_append_right _ (List.mem_append_right _ (mem_pinsAt hb e)))).2.1
    cases f with
    | next => obtain ⟨σ7, H7, I7, n7⟩ := q7; exact again I7 n7
    | cont => obtain ⟨σ7, H7, I7, n7⟩ := q7; exact again I7 n7
    | brk => obtain ⟨σ7, H7, I7, q7⟩ := q7; exact ⟨σ7, H7, I7.unpinned, q7⟩
    | ret v => obtain ⟨x7, σ7, H7, I7, r7, q7⟩ := q7; exact ⟨x7, σ7, H7, I7.unpinned, r7, q7⟩
end



theorem for_list {K : PySem.W.Frag} {a : Addr} {xs : List V} {g : TG} {tb : TS} {D : Ends} {σ : St} {H : Hp} (Pv : Nat → St → Hp → Prop) (h0 : Pv 0 σ H) (hl : ∀ i σ H, i ≤ xs.length → Pv i σ H → SqL K H a xs)
    (hs : ∀ i x σ H, xs[i]? = some x → Pv i σ H → g x σ H fun σ2 H2 => tb { D with nx := Pv (i + 1), ct := Pv (i + 1), bk := D.nx } σ2 H2) (hd : ∀ σ H, Pv xs.length σ H → D.nx σ H) :
    ∃ W : Nat → Nat → St → Hp → Prop, (∃ m, W 0 m σ H) ∧ ∀ i m σ H, W i m σ H →
      ((Itl K a).stop i H ∧ D.nx σ H) ∨ ((Itl K a).go i H ∧ ∃ N : St → Hp → Prop, (∀ σ' H', N σ' H' → ∃ m', m' < m ∧ W (i + 1) m' σ' H') ∧ ∀ x H', (Itl K a).yld i H x H' → g x σ H' fun σ2 H2 => tb { D with nx := N, ct := N, bk := D.nx } σ2 H2) := by
  refine ⟨fun i m σ H => m = xs.length - i ∧ i ≤ xs.length ∧ Pv i σ H, ⟨xs.length, by simp, Nat.zero_le _, h0⟩, ?_⟩
  rintro i m σ H ⟨rfl, hi, p⟩
  have q := hl i σ H hi p
  by_cases hlt : i < xs.length
  · refine .inr ⟨⟨xs, xs[i], q, by simp [hlt]⟩, Pv (i + 1), fun σ' H' p' => ⟨xs.length - (i + 1), by omega, rfl, hlt, p'⟩, fun x H' y => ?_⟩
    obtain ⟨e, y⟩ := y
    subst e
    exact hs i x σ _ (y xs q) p
  · have e : i = xs.length := by omega
    subst e
    exact .inl ⟨⟨xs, q, Nat.le_refl _⟩, hd σ H p⟩
theorem for_tup {K : PySem.W.Frag} {a : Addr} {xs : List V} {g : TG} {tb : TS} {D : Ends} {σ : St} {H : Hp} (Pv : Nat → St → Hp → Prop) (h0 : Pv 0 σ H) (hl : ∀ i σ H, i ≤ xs.length → Pv i σ H → SqT K H a xs)
    (hs : ∀ i x σ H, xs[i]? = some x → Pv i σ H → g x σ H fun σ2 H2 => tb { D with nx := Pv (i + 1), ct := Pv (i + 1), bk := D.nx } σ2 H2) (hd : ∀ σ H, Pv xs.length σ H → D.nx σ H) :
    ∃ W : Nat → Nat → St → Hp → Prop, (∃ m, W 0 m σ H) ∧ ∀ i m σ H, W i m σ H →
      ((Itt K a).stop i H ∧ D.nx σ H) ∨ ((Itt K a).go i H ∧ ∃ N : St → Hp → Prop, (∀ σ' H', N σ' H' → ∃ m', m' < m ∧ W (i + 1) m' σ' H') ∧ ∀ x H', (Itt K a).yld i H x H' → g x σ H' fun σ2 H2 => tb { D with nx := N, ct := N, bk := D.nx } σ2 H2) := by
  refine ⟨fun i m σ H => m = xs.length - i ∧ i ≤ xs.length ∧ Pv i σ H, ⟨xs.length, by simp, Nat.zero_le _, h0⟩, ?_⟩
  rintro i m σ H ⟨rfl, hi, p⟩
  have q := hl i σ H hi p
  by_cases hlt : i < xs.length
  · refine .inr ⟨⟨xs, xs[i], q, by simp [hlt]⟩, Pv (i + 1), fun σ' H' p' => ⟨xs.length - (i + 1), by omega, rfl, hlt, p'⟩, fun x H' y => ?_⟩
    obtain ⟨e, y⟩ := y
    subst e
    exact hs i x σ _ (y xs q) p
  · have e : i = xs.length := by omega
    subst e
    exact .inl ⟨⟨xs, q, Nat.le_refl _⟩, hd σ H p⟩
theorem for_range {lo : Int} {n : Nat} {g : TG} {tb : TS} {D : Ends} {σ : St} {H : Hp} (Pv : Nat → St → Hp → Prop) (h0 : Pv 0 σ H)
    (hs : ∀ i σ H, i < n → Pv i σ H → g (.int (lo + i)) σ H fun σ2 H2 => tb { D with nx := Pv (i + 1), ct := Pv (i + 1), bk := D.nx } σ2 H2) (hd : ∀ σ H, Pv n σ H → D.nx σ H) :
    ∃ W : Nat → Nat → St → Hp → Prop, (∃ m, W 0 m σ H) ∧ ∀ i m σ H, W i m σ H →
      ((Itr lo n).stop i H ∧ D.nx σ H) ∨ ((Itr lo n).go i H ∧ ∃ N : St → Hp → Prop, (∀ σ' H', N σ' H' → ∃ m', m' < m ∧ W (i + 1) m' σ' H') ∧ ∀ x H', (Itr lo n).yld i H x H' → g x σ H' fun σ2 H2 => tb { D with nx := N, ct := N, bk := D.nx } σ2 H2) := by
  refine ⟨fun i m σ H => m = n - i ∧ i ≤ n ∧ Pv i σ H, ⟨n, by simp, Nat.zero_le _, h0⟩, ?_⟩
  rintro i m σ H ⟨rfl, hi, p⟩
  by_cases hlt : i < n
  · refine .inr ⟨hlt, Pv (i + 1), fun σ' H' p' => ⟨n - (i + 1), by omega, rfl, hlt, p'⟩, fun x H' y => ?_⟩
    obtain ⟨e, y⟩ := y
    subst e y
    exact hs i σ _ hlt p
  · have e : i = n := by omega
    subst e
    exact .inl ⟨Nat.le_refl _, hd σ H p⟩

end L2

namespace L2
open PySem PySem.Spec PyProof.Rows

abbrev R2 := V → V → Hp → VK → Prop

def OpR (X : Cx) (f : Value → Value → Sem Value) (r : R2) : Prop :=
  ∀ (pins : List (Addr × Obj)) (s : Shared) (σ : St) (H : Hp) (x y : V) (v u : Value) (Q : VK), Inv X pins σ H s → RelV x v → RelV y u → r x y H Q →
    wpAny (model X.prog X.w) X.A (f v u) (EP X pins σ Q) X.xe s

def UnR (X : Cx) (f : Value → Sem Value) (r : V → Hp → VK → Prop) : Prop :=
  ∀ (pins : List (Addr × Obj)) (s : Shared) (σ : St) (H : Hp) (x : V) (v : Value) (Q : VK), Inv X pins σ H s → RelV x v → r x H Q →
    wpAny (model X.prog X.w) X.A (f v) (EP X pins σ Q) X.xe s

def CallR (X : Cx) (f : Value) (r : List V → Hp → VK → Prop) : Prop :=
  ∀ (pins : List (Addr × Obj)) (s : Shared) (σ : St) (H : Hp) (xs : List V) (us : List Value) (Q : VK), Inv X pins σ H s → Vals xs us → r xs H Q →
    wpAny (model X.prog X.w) X.A (call f us) (EP X pins σ Q) X.xe s

def tOp (r : R2) (ta tb : TE) : TE := fun σ H Q => ta σ H fun x H1 => tb σ H1 fun y H2 => r x y H2 Q
def tUn (r : V → Hp → VK → Prop) (ta : TE) : TE := fun σ H Q => ta σ H fun x H1 => r x H1 Q

def rI (C : Int → Int → Prop) (g : Int → Int → V) : R2 := fun x y H Q => ∃ i j, x = .int i ∧ y = .int j ∧ C i j ∧ Q (g i j) H
def rI0 (g : Int → Int → V) : R2 := fun x y H Q => ∃ i j, x = .int i ∧ y = .int j ∧ Q (g i j) H
def rU (g : Int → V) : V → Hp → VK → Prop := fun x H Q => ∃ i, x = .int i ∧ Q (g i) H

section
variable {X : Cx} {a b c : Expr} {ta tb tc : TE} {pos : Pos}

theorem binT (ha : PE X a ta) (hb : PE X b tb) {pins : List (Addr × Obj)} {s : Shared} {σ : St} {H : Hp} {R : V → V → Hp → Prop} (I : Inv X pins σ H s)
    (h : ta σ H fun x H1 => tb σ H1 fun y H2 => R x y H2) {Q : Value → Shared → Prop} {f : Value → Value → Sem Value}
    (hf : ∀ v u s2 x y H2, Inv X pins σ H2 s2 → RelV x v → RelV y u → R x y H2 → wpAny (model X.prog X.w) X.A (f v u) Q X.xe s2) :
    wpAny (model X.prog X.w) X.A (eval a X.env) (fun v s₁ => wpAny (model X.prog X.w) X.A (eval b X.env) (fun u s₂ => wpAny (model X.prog X.w) X.A (f v u) Q X.xe s₂) X.xe s₁) X.xe s := by
  refine thn (ha pins s σ H _ I h) fun v s1 ⟨x, H1, I1, r1, q1⟩ => ?_
  refine thn (hb pins s1 σ H1 _ I1 q1) fun u s2 ⟨y, H2, I2, r2, q2⟩ => ?_
  exact hf v u s2 x y H2 I2 r1 r2 q2

theorem pe_op {op : Operator} {r : R2} (ho : OpR X (binaryOp op) r) (ha : PE X a ta) (hb : PE X b tb) : PE X (.BinOp a op b pos) (tOp r ta tb) := by
  intro pins s σ H Q I h
  exact wpAny_BinOp (binT ha hb I h fun v u s2 x y H2 I2 rx ry q => ho pins s2 σ H2 x y v u Q I2 rx ry q)
theorem pe_un {op : UnaryOp} {r : V → Hp → VK → Prop} (ho : UnR X (unaryOp op) r) (ha : PE X a ta) : PE X (.UnaryOp op a pos) (tUn r ta) := by
  intro pins s σ H Q I h
  exact UnaryOp_ (thn (ha pins s σ H _ I h) fun v s1 ⟨x, H1, I1, r1, q1⟩ => ho pins s1 σ H1 x v Q I1 r1 q1)

theorem opI {f : Value → Value → Sem Value} {C : Int → Int → Prop} {g : Int → Int → Int}
    (rule : ∀ (i j : Int) (t u : Tok) (s : Shared) (Q : Value → Shared → Prop) (E : Value → Shared → Prop), C i j → Q (.int (g i j) s.toks) { s with toks := s.toks + 1 } → wpAny (model X.prog X.w) X.A (f (.int i t) (.int j u)) Q E s) :
    OpR X f (rI C fun i j => .int (g i j)) := by
  intro pins s σ H x y v u Q I rx ry h
  obtain ⟨i, j, rfl, rfl, hc, q⟩ := h
  obtain ⟨t, rfl⟩ := rx
  obtain ⟨t', rfl⟩ := ry
  exact rule i j t t' s _ _ hc ⟨.int (g i j), H, I.tok _, ⟨_, rfl⟩, q⟩
theorem opI0 {f : Value → Value → Sem Value} {g : Int → Int → Int}
    (rule : ∀ (i j : Int) (t u : Tok) (s : Shared) (Q : Value → Shared → Prop) (E : Value → Shared → Prop), Q (.int (g i j) s.toks) { s with toks := s.toks + 1 } → wpAny (model X.prog X.w) X.A (f (.int i t) (.int j u)) Q E s) :
    OpR X f (rI0 fun i j => .int (g i j)) := by
  intro pins s σ H x y v u Q I rx ry h
  obtain ⟨i, j, rfl, rfl, q⟩ := h
  obtain ⟨t, rfl⟩ := rx
  obtain ⟨t', rfl⟩ := ry
  exact rule i j t t' s _ _ ⟨.int (g i j), H, I.tok _, ⟨_, rfl⟩, q⟩
theorem opB0 {f : Value → Value → Sem Value} {g : Int → Int → Bool}
    (rule : ∀ (i j : Int) (t u : Tok) (s : Shared) (Q : Value → Shared → Prop) (E : Value → Shared → Prop), Q (.bool (g i j)) s → wpAny (model X.prog X.w) X.A (f (.int i t) (.int j u)) Q E s) :
    OpR X f (rI0 fun i j => .bl (g i j)) := by
  intro pins s σ H x y v u Q I rx ry h
  obtain ⟨i, j, rfl, rfl, q⟩ := h
  obtain ⟨t, rfl⟩ := rx
  obtain ⟨t', rfl⟩ := ry
  exact rule i j t t' s _ _ ⟨.bl (g i j), H, I, rfl, q⟩

def CDiv (i j : Int) : Prop := 0 < j ∧ j < 1073741824
def CPow (i j : Int) : Prop := 0 ≤ j ∧ j ≤ 1000000 ∧ i.natAbs < 2 ^ 64
def CMul (i j : Int) : Prop := (-(2 ^ 64) < i ∧ i < 2 ^ 64) ∨ (-(2 ^ 64) < j ∧ j < 2 ^ 64)
theorem CMul.ok {i j : Int} (h : CMul i j) : IntMulOk i j := by
  rcases h with ⟨h1, h2⟩ | ⟨h1, h2⟩
  · exact .of_left (intBits_le_64 h1 h2)
  · exact .of_right (intBits_le_64 h1 h2)
theorem two_pow_nn (k : Nat) : (0 : Int) ≤ 2 ^ k := by
  rw [two_pow_cast]
  exact Int.natCast_nonneg _

theorem op_add : OpR X (binaryOp .Add) (rI0 fun i j => .int (i + j)) := opI0 fun _ _ _ _ _ _ _ q => add_int q
theorem op_sub : OpR X (binaryOp .Sub) (rI0 fun i j => .int (i - j)) := opI0 fun _ _ _ _ _ _ _ q => sub_int q
theorem op_mul : OpR X (binaryOp .Mult) (rI CMul fun i j => .int (i * j)) := opI fun _ _ _ _ _ _ _ hc q => mul_int q hc.ok

theorem op_fdiv : OpR X (binaryOp .FloorDiv) (rI CDiv fun i j => .int (i / j)) := opI fun i j _ _ _ _ _ hc q => by
  have h1 : (0 : Int) < j := hc.1
  have h2 : j < 1073741824 := hc.2
  exact floordiv_int (by omega) (by rw [Int.fdiv_eq_ediv_of_nonneg i (by omega)]; exact q) (.inl (PyProof.noPylong_small (by omega)))
theorem op_mod : OpR X (binaryOp .Mod) (rI (fun _ j => 0 < j) fun i j => .int (i % j)) := opI fun i j _ _ _ _ _ hc q => by
  have h1 : (0 : Int) < j := hc
  exact mod_int' (by omega) (by rw [Int.fmod_eq_emod_of_nonneg i (by omega)]; exact q)
theorem op_shl : OpR X (binaryOp .LShift) (rI CPow fun i j => .int (i * 2 ^ j.toNat)) := opI fun _ _ _ _ _ _ _ hc q => lshift_int_small hc.1 hc.2.1 hc.2.2 q
theorem op_shr : OpR X (binaryOp .RShift) (rI (fun _ j => 0 ≤ j) fun i j => .int (i / 2 ^ j.toNat)) := opI fun i j _ _ _ _ _ hc q =>
  rshift_int hc (by rw [Int.fdiv_eq_ediv_of_nonneg i (two_pow_nn _)]; exact q)
theorem op_and : OpR X (binaryOp .BitAnd) (rI0 fun i j => .int (Builtin.bitAnd i j)) := opI0 fun _ _ _ _ _ _ _ q => and_int q
theorem unI {f : Value → Sem Value} {g : Int → Int}
    (rule : ∀ (i : Int) (t : Tok) (s : Shared) (Q : Value → Shared → Prop) (E : Value → Shared → Prop), Q (.int (g i) s.toks) { s with toks := s.toks + 1 } → wpAny (model X.prog X.w) X.A (f (.int i t)) Q E s) :
    UnR X f (rU fun i => .int (g i)) := by
  intro pins s σ H x v Q I rx h
  obtain ⟨i, rfl, q⟩ := h
  obtain ⟨t, rfl⟩ := rx
  exact rule i t s _ _ ⟨.int (g i), H, I.tok _, ⟨_, rfl⟩, q⟩
theorem un_neg : UnR X (unaryOp .USub) (rU fun i => .int (-i)) := unI fun _ _ _ _ _ q => neg_int q
end



def scal : V → V → Bool
  | .non, .non => true | .non, .int _ => true | .int _, .non => true | .non, .bl _ => true | .bl _, .non => true | .non, .str _ => true | .str _, .non => true
  | .int _, .int _ => true | .bl _, .bl _ => true | .str _, .str _ => true | .byt _, .byt _ => true
  | .int _, .str _ => true | .str _, .int _ => true | .bl _, .str _ => true | .str _, .bl _ => true
  | _, _ => false
def rEq : R2 := fun x y H Q => scal x y = true ∧ Q (.bl (decide (x = y))) H
def rNe : R2 := fun x y H Q => scal x y = true ∧ Q (.bl (!decide (x = y))) H

theorem dec_int {i j : Int} : decide (V.int i = V.int j) = (i == j) := by
  rw [Bool.eq_iff_iff]
  simp
theorem dec_bl {i j : Bool} : decide (V.bl i = V.bl j) = (i == j) := by
  rw [Bool.eq_iff_iff]
  simp
theorem dec_str {i j : Str} : decide (V.str i = V.str j) = (i == j) := by
  rw [Bool.eq_iff_iff]
  simp
theorem dec_byt {i j : Array UInt8} : decide (V.byt i = V.byt j) = (i.toList == j.toList) := by
  rw [Bool.eq_iff_iff]
  cases i
  cases j
  simp

section
variable {X : Cx} {a b c : Expr} {ta tb tc : TE} {pos : Pos}
theorem fin_bl {pins : List (Addr × Obj)} {σ : St} {H : Hp} {s : Shared} {Q : VK} {k k' : Bool} (I : Inv X pins σ H s) (q : Q (.bl k) H) (e : k = k') : EP X pins σ Q (.bool k') s := by
  subst e
  exact ⟨.bl k, H, I, rfl, q⟩
theorem op_eq : OpR X (compareOp .Eq) rEq := by
  intro pins s σ H x y v u Q I rx ry h
  obtain ⟨hs, q⟩ := h
  cases x with
  | non =>
    cases rx
    cases y with
    | non => cases ry; exact PySem.EqNone.eq_none_none (fin_bl I q (by simp))
    | bl j => cases ry; exact PySem.EqNone.eq_none_bool (fin_bl I q (by simp))
    | int j => obtain ⟨t', rfl⟩ := ry; exact PySem.EqNone.eq_none_int (fin_bl I q (by simp))
    | str j => obtain ⟨t', rfl⟩ := ry; exact PySem.EqNone.eq_none_str (fin_bl I q (by simp))
    | _ => exact absurd (show false = true from hs) Bool.false_ne_true
  | bl i =>
    cases rx
    cases y with
    | non => cases ry; exact PySem.EqNone.eq_bool_none (fin_bl I q (by simp))
    | bl j => cases ry; exact eq_bool (fin_bl I q dec_bl)
    | str j => obtain ⟨t', rfl⟩ := ry; exact PySem.EqMixed.eq_bool_str (fin_bl I q (by simp))
    | _ => exact absurd (show false = true from hs) Bool.false_ne_true
  | int i =>
    obtain ⟨t, rfl⟩ := rx
    cases y with
    | non => cases ry; exact PySem.EqNone.eq_int_none (fin_bl I q (by simp))
    | int j => obtain ⟨t', rfl⟩ := ry; exact eq_int (fin_bl I q dec_int)
    | str j => obtain ⟨t', rfl⟩ := ry; exact PySem.EqMixed.eq_int_str (fin_bl I q (by simp))
    | _ => exact absurd (show false = true from hs) Bool.false_ne_true
  | str i =>
    obtain ⟨t, rfl⟩ := rx
    cases y with
    | non => cases ry; exact PySem.EqNone.eq_str_none (fin_bl I q (by simp))
    | bl j => cases ry; exact PySem.EqMixed.eq_str_bool (fin_bl I q (by simp))
    | int j => obtain ⟨t', rfl⟩ := ry; exact PySem.EqMixed.eq_str_int (fin_bl I q (by simp))
    | str j => obtain ⟨t', rfl⟩ := ry; exact eq_str (fin_bl I q dec_str)
    | _ => exact absurd (show false = true from hs) Bool.false_ne_true
  | byt i =>
    obtain ⟨t, rfl⟩ := rx
    cases y with
    | byt j => obtain ⟨t', rfl⟩ := ry; exact PySem.W.eq_bytes (fin_bl I q dec_byt)
    | _ => exact absurd (show false = true from hs) Bool.false_ne_true
  | _ => cases y <;> exact absurd (show false = true from hs) Bool.false_ne_true
theorem op_ne : OpR X (compareOp .NotEq) rNe := by
  intro pins s σ H x y v u Q I rx ry h
  obtain ⟨hs, q⟩ := h
  cases x with
  | non =>
    cases rx
    cases y with
    | non => cases ry; exact PySem.EqNone.ne_none_none (fin_bl I q (by simp))
    | bl j => cases ry; exact PySem.EqNone.ne_none_bool (fin_bl I q (by simp))
    | int j => obtain ⟨t', rfl⟩ := ry; exact PySem.EqNone.ne_none_int (fin_bl I q (by simp))
    | str j => obtain ⟨t', rfl⟩ := ry; exact PySem.EqNone.ne_none_str (fin_bl I q (by simp))
    | _ => exact absurd (show false = true from hs) Bool.false_ne_true
  | bl i =>
    cases rx
    cases y with
    | non => cases ry; exact PySem.EqNone.ne_bool_none (fin_bl I q (by simp))
    | bl j => cases ry; exact ne_bool (fin_bl I q (congrArg not dec_bl))
    | str j => obtain ⟨t', rfl⟩ := ry; exact PySem.EqMixed.ne_bool_str (fin_bl I q (by simp))
    | _ => exact absurd (show false = true from hs) Bool.false_ne_true
  | int i =>
    obtain ⟨t, rfl⟩ := rx
    cases y with
    | non => cases ry; exact PySem.EqNone.ne_int_none (fin_bl I q (by simp))
    | int j => obtain ⟨t', rfl⟩ := ry; exact ne_int (fin_bl I q (congrArg not dec_int))
    | str j => obtain ⟨t', rfl⟩ := ry; exact PySem.EqMixed.ne_int_str (fin_bl I q (by simp))
    | _ => exact absurd (show false = true from hs) Bool.false_ne_true
  | str i =>
    obtain ⟨t, rfl⟩ := rx
    cases y with
    | non => cases ry; exact PySem.EqNone.ne_str_none (fin_bl I q (by simp))
    | bl j => cases ry; exact PySem.EqMixed.ne_str_bool (fin_bl I q (by simp))
    | int j => obtain ⟨t', rfl⟩ := ry; exact PySem.EqMixed.ne_str_int (fin_bl I q (by simp))
    | str j => obtain ⟨t', rfl⟩ := ry; exact ne_str (fin_bl I q (congrArg not dec_str))
    | _ => exact absurd (show false = true from hs) Bool.false_ne_true
  | byt i =>
    obtain ⟨t, rfl⟩ := rx
    cases y with
    | byt j => obtain ⟨t', rfl⟩ := ry; exact PySem.W.ne_bytes (fin_bl I q (congrArg not dec_byt))
    | _ => exact absurd (show false = true from hs) Bool.false_ne_true
  | _ => cases y <;> exact absurd (show false = true from hs) Bool.false_ne_true

theorem op_lt : OpR X (compareOp .Lt) (rI0 fun i j => .bl (decide (i < j))) := opB0 fun _ _ _ _ _ _ _ q => lt_int q
theorem op_le : OpR X (compareOp .LtE) (rI0 fun i j => .bl (decide (i ≤ j))) := opB0 fun _ _ _ _ _ _ _ q => le_int q
theorem op_gt : OpR X (compareOp .Gt) (rI0 fun i j => .bl (decide (j < i))) := opB0 fun _ _ _ _ _ _ _ q => gt_int q
theorem op_isN : OpR X (compareOp .Is) (fun x y H Q => y = .non ∧ Q (.bl (decide (x = .non))) H) := by
  intro pins s σ H x y v u Q I rx ry h
  obtain ⟨rfl, q⟩ := h
  cases ry
  refine is_none_gen (fin_bl I q ?_)
  cases x <;> first
    | (cases rx; rfl)
    | (obtain ⟨t, rfl⟩ := rx; rfl)
theorem op_notN : OpR X (compareOp .IsNot) (fun x y H Q => y = .non ∧ Q (.bl (!decide (x = .non))) H) := by
  intro pins s σ H x y v u Q I rx ry h
  obtain ⟨rfl, q⟩ := h
  cases ry
  refine isnot_none_gen (fin_bl I q ?_)
  cases x <;> first
    | (cases rx; rfl)
    | (obtain ⟨t, rfl⟩ := rx; rfl)

theorem nomark (b : Expr) {op : CmpOp} (h : op ≠ .In := by decide) (h2 : op ≠ .NotIn := by decide) : behindInMarks op b = false := by
  have e1 : (op == CmpOp.In) = false := by cases op <;> first | rfl | exact absurd rfl h
  have e2 : (op == CmpOp.NotIn) = false := by cases op <;> first | rfl | exact absurd rfl h2
  cases b <;> simp [behindInMarks, e1, e2]

theorem pe_cmpR {op : CmpOp} {r : R2} (ho : OpR X (compareOp op) r) (ha : PE X a ta) (hb : PE X b tb) (hm : behindInMarks op b = false) : PE X (.Compare a [op] [b] pos) (tOp r ta tb) := by
  intro pins s σ H Q I h
  exact wpAny_Compare1 (binT ha hb I h fun v u s2 x y H2 I2 rx ry q => ho pins s2 σ H2 x y v u Q I2 rx ry q) hm

def tTest (t : TE) : TT := fun σ H Q => t σ H fun x H' => ∃ k, x = .bl k ∧ Q k H'
theorem pt_cmpR {op : CmpOp} {r : R2} (ho : OpR X (compareOp op) r) (ha : PE X a ta) (hb : PE X b tb) (hm : behindInMarks op b = false) : PT X (.Compare a [op] [b] pos) (tTest (tOp r ta tb)) := by
  intro pins s σ H Q I h
  refine wpAny_isTrue_Compare1 (thn (ha pins s σ H _ I h) fun v s1 ⟨x, H1, I1, r1, q1⟩ => thn (hb pins s1 σ H1 _ I1 q1) fun u s2 ⟨y, H2, I2, r2, q2⟩ =>
    thn (ho pins s2 σ H2 x y v u _ I2 r1 r2 q2) fun c s3 ⟨z, H3, I3, r3, k, e, q3⟩ => ?_) hm
  subst e
  cases r3
  exact wpAny_truthy_bool ⟨H3, I3, q3⟩

theorem line63 : (sizeLine : Nat) < 2 ^ 63 := by rw [sizeLine_eq]; decide
theorem vals1 {x : V} {us : List Value} (r : Vals [x] us) : ∃ u, us = [u] ∧ RelV x u := by
  cases r with
  | cons r1 r2 => cases r2; exact ⟨_, rfl, r1⟩
theorem vals2 {x y : V} {us : List Value} (r : Vals [x, y] us) : ∃ u w', us = [u, w'] ∧ RelV x u ∧ RelV y w' := by
  cases r with
  | cons r1 r2 =>
    cases r2 with
    | cons r3 r4 => cases r4; exact ⟨_, _, rfl, r1, r3⟩
theorem call_max2 (hc : X.calm = true) : CallR X (.builtin "max") (fun xs H Q => ∃ i j, xs = [.int i, .int j] ∧ Q (.int (if j > i then j else i)) H) := by
  intro pins s σ H xs us Q I r h
  obtain ⟨i, j, rfl, q⟩ := h
  obtain ⟨u, w', rfl, ⟨t, rfl⟩, ⟨t', rfl⟩⟩ := vals2 r
  refine max_two_ints (I.ok.hd hc) fun h' tk k => ⟨_, H, I.kept k, ?_, q⟩
  by_cases hj : j > i
  · rw [if_pos hj, if_pos hj]; exact ⟨_, rfl⟩
  · rw [if_neg hj, if_neg hj]; exact ⟨_, rfl⟩
theorem call_min2 (hc : X.calm = true) : CallR X (.builtin "min") (fun xs H Q => ∃ i j, xs = [.int i, .int j] ∧ Q (.int (if j < i then j else i)) H) := by
  intro pins s σ H xs us Q I r h
  obtain ⟨i, j, rfl, q⟩ := h
  obtain ⟨u, w', rfl, ⟨t, rfl⟩, ⟨t', rfl⟩⟩ := vals2 r
  refine min_two_ints (I.ok.hd hc) fun h' tk k => ⟨_, H, I.kept k, ?_, q⟩
  by_cases hj : j < i
  · rw [if_pos hj, if_pos hj]; exact ⟨_, rfl⟩
  · rw [if_neg hj, if_neg hj]; exact ⟨_, rfl⟩
end
end L2

namespace L2
open PySem PySem.Spec PyProof.Rows


structure ObjM (h : Heap) (x dx C : Addr) (mA : Str → Option Value) : Prop where
  obj : h.get? x = some (PySem.W.instObj C dx)
  ns : h.Ns1 dx mA
  ne : dx ≠ x

theorem lookIn_ns {h : Heap} {dx : Addr} {mA : Str → Option Value} (n : h.Ns1 dx mA) : ∃ od, h.get? dx = some od ∧ ∀ name, PySem.W.lookIn name od = some (mA name) := by
  obtain ⟨o, es, ep, ho, hd, hk, _, hm⟩ := n
  refine ⟨o, ho, fun name => ?_⟩
  have e := hm name
  unfold nsFind findBy at e
  rw [← Array.find?_toList] at e
  unfold PySem.W.lookIn
  rw [hd]
  dsimp only
  split
  · rename_i y q
    rw [q] at e
    exact congrArg some e
  · rename_i q
    rw [q] at e
    have a : es.toList.any (·.refKey) = false := by
      rw [List.any_eq_false]
      intro y hy
      obtain ⟨z, t, hkey⟩ := hk y (Array.mem_toList_iff.mp hy)
      simp [DictEntry.refKey, hkey]
    have a' : ¬ es.toList.any (·.refKey) = true := by rw [a]; exact Bool.false_ne_true
    rw [if_neg a']
    exact congrArg some e

theorem ObjM.look {h : Heap} {x dx C : Addr} {mA : Str → Option Value} (I : ObjM h x dx C mA) : ∃ od, PySem.W.InstAt h x (PySem.W.instObj C dx) C (some od) ∧ ∀ name, PySem.W.lookIn name od = some (mA name) :=
  let ⟨od, ho, hl⟩ := lookIn_ns I.ns
  ⟨od, ⟨I.obj, rfl, rfl, ho⟩, hl⟩

section
variable {prog : Program} {w : World} {A : Around} {E : Value → Shared → Prop} {s : Shared} {K : PySem.W.Frag} {x dx C f : Addr} {mA : Str → Option Value} {name : Str} {v : Value}

end


section
variable {P : Program} {w : World} {H H' : Hp} {h h' : Heap} {a C dx : Addr} {fs fs' : List (Str × V)}
theorem ins_get (hok : HOk P w H h) (e : H a = some (.ins C dx fs)) : ∃ mA, ObjM h a dx C mA ∧ (∀ f, RelO (fs.lookup f) (mA f)) ∧ PySem.Within mA (fs.map (·.1)) ∧ fs.length ≤ 1000 ∧ H dx = some (.own a) := by
  obtain ⟨d, z, ne, ob, mA, n, r, q⟩ := (show ObjOk P w H h a (.ins C dx fs) from hok a _ e)
  exact ⟨mA, ⟨ob, n, ne⟩, r, q, z, d⟩
end


structure Cls (K : PySem.W.Frag) (C : Addr) : Prop where
  pg : PySem.W.plainGet K C Str.empty = true
  hd : PySem.W.hasDictIn K C = true
  po : PySem.W.plainOver K C = true
  sa : PySem.W.findIn K (.ref C) "__setattr__" = some (some (.builtin "object.__setattr__"))
theorem Cls.get {K : PySem.W.Frag} {C : Addr} (c : Cls K C) (f : Str) : PySem.W.plainGet K C f = true := c.pg

structure Con (K : PySem.W.Frag) (C : Addr) (f : Str) (v : V) (u : Value) : Prop where
  at_ : PySem.W.findIn K (.ref C) f = some (some u)
  rel : RelV v u
  get : PySem.W.specialIn K u "__get__" = some none
  cp : PySem.W.copiedNames.contains f = false

structure Meth (K : PySem.W.Frag) (C : Addr) (m : Str) (f : Addr) : Prop where
  at_ : PySem.W.findIn K (.ref C) m = some (some (.ref f))
  fn : PySem.W.isFn K (.ref f) = true
  kp : PySem.W.keepIn K (.ref f) = true

section
variable {X : Cx} {pins : List (Addr × Obj)} {σ : St} {H : Hp} {s : Shared} {a C dx : Addr} {fs : List (Str × V)} {f : Str} {v : V} {A : Around} {E : Value → Shared → Prop}

end



section
variable {X : Cx} {o e value : Expr} {f : Str} {pos pos' tpos : Pos} {ta tv : TE}
end


section
variable {X : Cx} {pins : List (Addr × Obj)} {σ : St} {H : Hp} {s : Shared} {A : Around} {E : Value → Shared → Prop} {Q : Value → Shared → Prop} {c : Value} {b : Bool}

inductive TyOf (K : PySem.W.Frag) (H : Hp) : V → Value → Prop where
  | non : TyOf K H .non (.type "NoneType")
  | bl (x : Bool) : TyOf K H (.bl x) (.type "bool")
  | int (i : Int) : TyOf K H (.int i) (.type "int")
  | str (x : Str) : TyOf K H (.str x) (.type "str")
  | flt (x : UInt64) : TyOf K H (.flt x) (.type "float")
  | lst {a : Addr} {xs : List V} (e : H a = some (.lst xs)) : TyOf K H (.ref a) (.type "list")
  | frz {a : Addr} {o : Obj} {xs : List V} (e : H a = some (.frz o (.lst xs))) : TyOf K H (.ref a) (.type "list")
  | tup {a : Addr} {xs : List V} (e : H a = some (.tup xs)) : TyOf K H (.ref a) (.type "tuple")
  | dK {a : Addr} {kvs : List (Key × V)} (e : H a = some (.dK kvs)) : TyOf K H (.ref a) (.type "dict")
  | dT {a : Addr} {kvs : List (List Key × V)} (e : H a = some (.dT kvs)) : TyOf K H (.ref a) (.type "dict")
  | ins {a C dx : Addr} {fs : List (Str × V)} (e : H a = some (.ins C dx fs)) (cl : Cls K C) (ha : PySem.W.findIn K (.ref C) "__class__" = some (some (.builtin "object.__class__")))
      (hn : PySem.W.specialIn K (.builtin "object.__class__") "__get__" = some (some (.builtin "getset_descriptor.__get__"))) (htk : PySem.W.takesIn K (.builtin "object.__class__") = some true)
      (hm : PySem.W.mroIn K C (.type "object") = some true) : TyOf K H (.ref a) (.ref C)

theorem isinst_ok {x : V} {u t : Value} (I : Inv X pins σ H s) (rx : RelV x u) (ty : TyOf X.K H x t) (e : PySem.W.kitOne X.K t c = some b) (h : ∀ tk, Q (.bool b) { s with toks := tk }) :
    wpAny (model X.prog X.w) A (call (.builtin "isinstance") [u, c]) Q E s := by
  cases ty with
  | non => cases (show u = Value.none from rx); exact PySem.W.kia_one PySem.W.kitx_none I.kIn True.intro e (fun z => nomatch z) h
  | bl y => cases (show u = Value.bool y from rx); exact PySem.W.kia_one PySem.W.kitx_bool I.kIn True.intro e (fun z => nomatch z) h
  | int i => obtain ⟨t, q⟩ := (show ∃ t, u = Value.int i t from rx); cases q; exact PySem.W.kia_one PySem.W.kitx_int I.kIn True.intro e (fun z => nomatch z) h
  | str y => obtain ⟨t, q⟩ := (show ∃ t, u = Value.str y t from rx); cases q; exact PySem.W.kia_one PySem.W.kitx_str I.kIn True.intro e (fun z => nomatch z) h
  | flt y => obtain ⟨t, q⟩ := (show ∃ t, u = Value.float y t from rx); cases q; exact PySem.W.kia_one PySem.W.kitx_float I.kIn True.intro e (fun z => nomatch z) h
  | @lst a xs ea =>
    cases (show u = Value.ref a from rx)
    obtain ⟨_, _, n, _, h1⟩ := (show ObjOk X.prog X.w H s.heap a (.lst xs) from I.hok a _ ea)
    exact PySem.W.kia_one PySem.W.kitx_list I.kIn ⟨_, h1, rfl⟩ e (fun z => nomatch z) h
  | @frz a ob xs ea =>
    cases (show u = Value.ref a from rx)
    obtain ⟨_, _, _, n, _, h1⟩ := (show ObjOk X.prog X.w H s.heap a (.frz ob (.lst xs)) from I.hok a _ ea)
    exact PySem.W.kia_one PySem.W.kitx_list I.kIn ⟨_, h1, rfl⟩ e (fun z => nomatch z) h
  | @tup a xs ea =>
    cases (show u = Value.ref a from rx)
    obtain ⟨_, _, _, p⟩ := (show ObjOk X.prog X.w H s.heap a (.tup xs) from I.hok a _ ea)
    obtain ⟨o, h1, h2, _⟩ := p
    exact PySem.W.kia_one PySem.W.kitx_tuple I.kIn ⟨o, h1, h2⟩ e (fun z => nomatch z) h
  | @dK a kvs ea =>
    cases (show u = Value.ref a from rx)
    obtain ⟨_, _, vs, _, p⟩ := (show ObjOk X.prog X.w H s.heap a (.dK kvs) from I.hok a _ ea)
    obtain ⟨o, es, ep, h1, h2, _⟩ := p
    exact PySem.W.kia_one PySem.W.kitx_dict I.kIn ⟨o, h1, h2.1⟩ e (fun z => nomatch z) h
  | @dT a kvs ea =>
    cases (show u = Value.ref a from rx)
    obtain ⟨_, _, xs, _, o, es, ep, h1, h2, _⟩ := (show ObjOk X.prog X.w H s.heap a (.dT kvs) from I.hok a _ ea)
    exact PySem.W.kia_one PySem.W.kitx_dict I.kIn ⟨o, h1, h2.1⟩ e (fun z => nomatch z) h
  | @ins a C dx fs ea cl ha hn htk hm =>
    cases (show u = Value.ref a from rx)
    obtain ⟨mA, O, _⟩ := ins_get I.hok ea
    obtain ⟨od, J, _⟩ := O.look
    exact PySem.W.kia_one (PySem.W.kitx_own (cl.get _) cl.hd ha hn htk hm) I.kIn J e (fun z => nomatch z) h
end
end L2

namespace L2
open PySem PySem.Spec PyProof.Rows


structure Room (k : Nat) (A : Around) : Prop where
  hd : A.handled = none
  dp : A.depth + 3 * k + 5 < recursionLimit
  un : A.units + 16 * k + 200 < cLine
theorem Room.mono {j k : Nat} {A : Around} (r : Room k A) (h : j ≤ k) : Room j A := ⟨r.hd, by have := r.dp; omega, by have := r.un; omega⟩
theorem Room.deeper {k : Nat} {A : Around} (r : Room (k + 1) A) (env : Env) : Room k (A.deeper env) :=
  ⟨r.hd, by have := r.dp; show A.depth + 1 + 3 * k + 5 < _; omega, by have := r.un; show A.units + 3 + 16 * k + 200 < _; omega⟩
theorem Room.in1 {k : Nat} {A : Around} (r : Room (k + 1) A) : Room k A.in1 :=
  ⟨r.hd, by have := r.dp; show A.depth + 3 * k + 5 < _; omega, by have := r.un; show A.units + 1 + 16 * k + 200 < _; omega⟩
theorem Room.depth {k : Nat} {A : Around} (r : Room k A) : A.depth < recursionLimit := by have := r.dp; omega
theorem Room.units {k : Nat} {A : Around} (r : Room k A) : A.units + 64 < cLine := by have := r.un; omega
def tNil : TA := fun _ H Q => Q [] H
def tCons (ta : TE) (tr : TA) : TA := fun σ H Q => ta σ H fun x H1 => tr σ H1 fun xs H2 => Q (x :: xs) H2
section
variable {X : Cx} {e : Expr} {es : List Expr} {te : TE} {t : TA} {pos : Pos}
theorem pa_nil : PA X [] tNil := fun _ _ _ _ H Q I h => Calls.spliced_nil ⟨[], H, I, .nil, h⟩
theorem pa_cons (ha : PE X e te) (hr : PA X es t) (hs : starEach (e :: es) X.env = (false, eval e X.env) :: starEach es X.env := by rfl) : PA X (e :: es) (tCons te t) := by
  intro pos pins s σ H Q I h
  rw [hs]
  show wpAny _ _ (spliced ((false, eval e X.env) :: backTo pos (starEach es X.env))) _ _ s
  refine Calls.spliced_cons (thn (ha pins s σ H _ I h) fun u s1 ⟨x, H1, I1, r1, q1⟩ => ?_)
  exact thn (hr pos pins s1 σ H1 _ I1 q1) fun us s2 ⟨xs, H2, I2, r2, q2⟩ => ⟨x :: xs, H2, I2, .cons r1 r2, q2⟩


def tTup (t : TA) : TE := fun σ H Q => t σ H fun xs H1 => xs.length ≤ sizeLine ∧ ∀ p, H1 p = none → Q (.ref p) (upd H1 p (.tup xs))
def tLst (t : TA) : TE := fun σ H Q => t σ H fun xs H1 => xs.length ≤ sizeLine ∧ ∀ p, H1 p = none → Q (.ref p) (upd H1 p (.lst xs))
theorem pe_tup {x1} (h : PA X es t) : PE X (.Tuple es x1 pos) (tTup t) := by
  intro pins s σ H Q I hq
  refine wpAny_Tuple_spliced (thn (h pos pins s σ H _ I hq) fun us s1 ⟨xs, H1, I1, r, z, q⟩ => ⟨by rw [← r.length]; exact z, ?_⟩)
  have hf : H1 s1.heap.objs.size = none := I1.hok.fresh (Nat.le_refl _)
  refine ⟨.ref s1.heap.objs.size, upd H1 s1.heap.objs.size (.tup xs), I1.laid (t' := s1.toks) (fun b u e => Heap.get?_push_of_some _ e) (Nat.le_refl _) ?_, rfl, q _ hf⟩
  exact ⟨z, us, r, ⟨_, Heap.get?_push_size _ rfl, rfl, _, rfl⟩⟩
theorem pe_lst (h : PA X es t) : PE X (.List es pos) (tLst t) := by
  intro pins s σ H Q I hq
  refine wpAny_List_spliced (thn (h pos pins s σ H _ I hq) fun us s1 ⟨xs, H1, I1, r, z, q⟩ => ⟨by rw [← r.length]; exact z, ?_⟩)
  have hf : H1 s1.heap.objs.size = none := I1.hok.fresh (Nat.le_refl _)
  refine ⟨.ref s1.heap.objs.size, upd H1 s1.heap.objs.size (.lst xs), I1.laid (t' := s1.toks) (fun b u e => Heap.get?_push_of_some _ e) (Nat.le_refl _) ?_, rfl, q _ hf⟩
  exact ⟨z, us, 0, r, Heap.get?_push_size _ rfl⟩
end



abbrev Sp := List V → Hp → VK → XK → Prop

abbrev CXT := List Env → Hp → Shared → XK → Value → Shared → Prop


structure Env0 (P : Program) (w : World) (K : PySem.W.Frag) (mg : Str → Option Value) (base : Heap) (A : Around) (outer : List Env) (s : Shared) (H : Hp) : Prop where
  frames : A.frames = some outer
  mod : Mod K mg base
  bs : ∀ b o, base.get? b = some o → s.heap.get? b = some o ∧ H b = none
  bsz : base.objs.size ≤ s.heap.objs.size
  funs : s.heap.FunFrames base outer
  frf : ∀ b ∈ frs outer, H b = none
  hok : HOk P w H s.heap
  bare : AllBare s.gens

def CE (outer : List Env) (P : Program) (w : World) (H : Hp) (s : Shared) (Q : VK) (u : Value) (s' : Shared) : Prop :=
  ∃ v H', s'.os = s.os ∧ AllBare s'.gens ∧ Un (frs outer) [] H H' s.heap s'.heap ∧ HOk P w H' s'.heap ∧ RelV v u ∧ Q v H'
def CR (CX : CXT) (outer : List Env) (P : Program) (w : World) (H : Hp) (s : Shared) (Q : VK) (E : XK) (r : Result) (s' : Shared) : Prop :=
  match r with
  | .ok (.ret u) => CE outer P w H s Q u s'
  | .ok _ => False
  | .error e => CX outer H s E e s'
structure FnOk (P : Program) (w : World) (K : PySem.W.Frag) (mg : Str → Option Value) (base : Heap) (CX : CXT) (k : Nat) (f : Addr) (fd : FuncData) (ps : List Str) (sp : Sp) : Prop where
  len : ∀ vs H Q E, sp vs H Q E → vs.length = ps.length
  run : ∀ (A : Around) (outer : List Env) (s : Shared) (H : Hp) (args : Args) (us : List Value) (vs : List V) (Q : VK) (E : XK), Room k A → Env0 P w K mg base A outer s H → BindsTo s fd args (ps.zip us) → Vals vs us → sp vs H Q E →
    codeAny (model P w) A (.call (.ref f) args) (CR CX outer P w H s Q E) s
theorem Env0.in1 {P : Program} {w : World} {K : PySem.W.Frag} {mg : Str → Option Value} {base : Heap} {A : Around} {outer : List Env} {s : Shared} {H : Hp} (e : Env0 P w K mg base A outer s H) :
    Env0 P w K mg base A.in1 outer s H := ⟨e.frames, e.mod, e.bs, e.bsz, e.funs, e.frf, e.hok, e.bare⟩

section
variable {X : Cx} {pins : List (Addr × Obj)} {σ : St} {H : Hp} {s s' : Shared}

theorem Inv.env0 (I : Inv X pins σ H s) : Env0 X.prog X.w X.K X.mg X.base X.A X.stack s H :=
  ⟨I.ok.frames, I.ok.mod, I.bs, Nat.le_trans I.ok.bsz I.sz, I.stack, I.stkFree, I.hok, I.bare⟩

theorem Inv.after {Q : VK} {u : Value} (I : Inv X pins σ H s) (h : CE X.stack X.prog X.w H s Q u s') : EP X pins σ Q u s' := by
  obtain ⟨v, H', os, bare, un, hok, r, q⟩ := h
  obtain ⟨hh, g, d, t, os'⟩ := s'
  obtain rfl : os' = s.os := os
  exact ⟨v, H', I.call (h' := hh) (g' := g) (d' := d) (t' := t) (ch := []) un hok bare (fun b z => absurd z (by simp)), r, q⟩
end



def tCall (sp : Sp) (dvs : List V) (E : XK) (t : TA) : TE := fun σ H Q => t σ H fun vs H1 => sp (vs ++ dvs) H1 Q E

def Binds (K : PySem.W.Frag) (fd : FuncData) (ps : List Str) (ds : List Value) : Prop :=
  ∀ (s : Shared) (us : List Value), K.In s.heap → (us ++ ds).length = ps.length → BindsTo s fd ⟨us, []⟩ (ps.zip (us ++ ds))

theorem Binds.all {K : PySem.W.Frag} {fd : FuncData} {ps : List Str} (h : ∀ us : List Value, us.length = ps.length → bindArgs fd ⟨us, []⟩ = pure (ps.zip us)) : Binds K fd ps [] := fun s us _ hl => by
  rw [List.append_nil] at hl ⊢
  exact .of_eq (h us hl)


def Passes (CX : CXT) (X : Cx) (E : XK) : Prop := ∀ (pins : List (Addr × Obj)) (σ : St) (H : Hp) (s : Shared) (e : Value) (s' : Shared), Inv X pins σ H s → CX X.stack H s E e s' → X.xe e s'

section
variable {X : Cx} {CX : CXT} {k : Nat} {f C : Addr} {fd : FuncData} {ps : List Str} {sp : Sp} {dvs : List V} {ds : List Value} {E : XK} {x m : Str} {p pos apos : Pos} {e o : Expr} {es : List Expr} {ta : TE} {t : TA}


theorem run_fn {pins : List (Addr × Obj)} {σ : St} {H : Hp} {s : Shared} {Q : VK} {us : List Value} {vs : List V} (F : FnOk X.prog X.w X.K X.mg X.base CX k f fd ps sp) (hr : Room k X.A) (hb : Binds X.K fd ps ds) (hd : Vals dvs ds) (hx : Passes CX X E)
    (I : Inv X pins σ H s) (r : Vals vs us) (h : sp (vs ++ dvs) H Q E) : wpAny (model X.prog X.w) X.A (call (.ref f) us) (EP X pins σ Q) X.xe s := by
  have r2 : Vals (vs ++ dvs) (us ++ ds) := r.append hd
  have hl : (us ++ ds).length = ps.length := by rw [← r2.length]; exact F.len _ _ _ _ h
  refine wpAny_call (codeAny_mono (F.run X.A X.stack s H ⟨us, []⟩ (us ++ ds) (vs ++ dvs) Q E hr I.env0 (hb s us I.kIn hl) r2 h) fun r s' hq => ?_)
  cases r with
  | error e => exact hx pins σ H s e s' I hq
  | ok fl =>
    cases fl with
    | ret u => exact I.after hq
    | next => exact False.elim hq
    | brk => exact False.elim hq
    | cont => exact False.elim hq

theorem pe_call (F : FnOk X.prog X.w X.K X.mg X.base CX k f fd ps sp) (hr : Room k X.A) (hg : Gl X x) (hm : X.mg x = some (.ref f)) (hk : PySem.W.keepIn X.K (.ref f) = true) (hb : Binds X.K fd ps ds) (hd : Vals dvs ds) (hx : Passes CX X E)
    (ha : PA X (e :: es) t) (hdb : (x == ("__debug__" : Str)) = false := by decide) (he : starEach (e :: es) X.env = (false, eval e X.env) :: starEach es X.env := by rfl) (hpl : (backTo pos (starEach es X.env)).any (·.1) = false := by rfl) :
    PE X (.Call (.Name x p) (e :: es) [] pos) (tCall sp dvs E t) := by
  intro pins s σ H Q I h
  refine wpAny_Call_Name_kw (ld_glob I hg hm ?_ hdb)
  refine PySem.W.callWith_K (h₀ := X.base) I.ok.mod.kin hk (thn (ha pos pins s σ H _ I h) fun us s1 ⟨vs, H1, I1, r, q⟩ => ⟨I1.kIn, ?_⟩) he hpl
  exact run_fn F hr hb hd hx I1 r q
structure Mk (K : PySem.W.Frag) (C f : Addr) : Prop where
  makes : PySem.W.makesIn K C = true
  init : PySem.W.findIn K (.ref C) "__init__" = some (some (.ref f))
  fn : PySem.W.isFn K (.ref f) = true
  kp : PySem.W.keepIn K (.ref C) = true

end



def PK (X : Cx) (kws : List Keyword) (t : TA) : Prop :=
  ∀ (pos : Pos) (pins : List (Addr × Obj)) (s : Shared) (σ : St) (H : Hp) (Q : List V → Hp → Prop), Inv X pins σ H s → t σ H Q → wpAny (model X.prog X.w) X.A (evalAll ((backToKw pos (keywordEach kws X.env)).map (·.2))) (AP X pins σ Q) X.xe s
section
variable {X : Cx} {CX : CXT} {k : Nat} {f C : Addr} {fd : FuncData} {ps ks : List Str} {sp : Sp} {E : XK} {x m : Str} {p pos apos kpos : Pos} {e o : Expr} {es : List Expr} {kws : List Keyword} {te ta : TE} {t tk : TA} {nm : Option Str}
theorem pk_nil : PK X [] tNil := fun _ _ _ _ H Q I h => wpAny_evalAll_nil ⟨[], H, I, .nil, h⟩
theorem pk_cons (ha : PE X e te) (hr : PK X kws t) : PK X (⟨nm, e, kpos⟩ :: kws) (tCons te t) := by
  intro pos pins s σ H Q I h
  show wpAny _ _ (evalAll ((do let v ← eval e X.env; standAt pos; pure v) :: (backToKw pos (keywordEach kws X.env)).map (·.2))) _ _ s
  refine wpAny_evalAll_cons (wpAny_bind (thn (ha pins s σ H _ I h) fun u s1 ⟨x, H1, I1, r1, q1⟩ => wpAny_bind (wpAny_standAt (wpAny_pure ?_))))
  exact thn (hr pos pins s1 σ H1 _ I1 q1) fun us s2 ⟨xs, H2, I2, r2, q2⟩ => ⟨x :: xs, H2, I2, .cons r1 r2, q2⟩


structure KBinds (K : PySem.W.Frag) (fd : FuncData) (ps ks : List Str) (g : List Value → List Value → List Value) (gV : List V → List V → List V) : Prop where
  to : ∀ (s : Shared) (us ws : List Value), K.In s.heap → (g us ws).length = ps.length → BindsTo s fd ⟨us, ks.zip ws⟩ (ps.zip (g us ws))
  rel : ∀ {vs : List V} {us : List Value} {zs : List V} {ws : List Value}, Vals vs us → Vals zs ws → Vals (gV vs zs) (g us ws)
variable {g : List Value → List Value → List Value} {gV : List V → List V → List V}
end



structure FnScope (N P : List Str) (sc : Scope) : Prop where
  kind : sc.kind = .function
  co : sc.isCoroutine = false
  gen : sc.isGenerator = false
  nd : N.Nodup
  pre : N.take P.length = P
  par : ∀ x ∈ P, sc.names.lookup x = some .local ∨ sc.names.lookup x = some .cell
  nofree : ∀ y ∈ sc.names, y.2 ≠ .free

theorem bindL_out {kindOf : Str → Option NameKind} {x : Str} : ∀ {binds : List (Str × Value)} {m : Str → Option Value}, (∀ v, (x, v) ∉ binds) → bindL kindOf binds m x = m x
  | [], _, _ => rfl
  | (n, v) :: r, m, h => by
    unfold bindL
    rw [bindL_out fun w hw => h w (List.mem_cons_of_mem _ hw)]
    split
    · have : x ≠ n := by rintro rfl; exact h v List.mem_cons_self
      simp [this]
    · rfl
theorem bindC_out {kindOf : Str → Option NameKind} {x : Str} : ∀ {binds : List (Str × Value)} {m : Str → Option Value}, (∀ v, (x, v) ∉ binds) → bindC kindOf binds m x = m x
  | [], _, _ => rfl
  | (n, v) :: r, m, h => by
    unfold bindC
    rw [bindC_out fun w hw => h w (List.mem_cons_of_mem _ hw)]
    split
    · rfl
    · have : x ≠ n := by rintro rfl; exact h v List.mem_cons_self
      simp [this]
theorem bindL_get {kindOf : Str → Option NameKind} {x : Str} {v : Value} : ∀ {P : List Str} {vs : List Value} {i : Nat} {m : Str → Option Value}, P.Nodup → P[i]? = some x → vs[i]? = some v → kindOf x = some .local →
    bindL kindOf (P.zip vs) m x = some v
  | [], _, _, _, _, h, _, _ => by simp at h
  | _ :: _, [], _, _, _, _, h, _ => by simp at h
  | p :: P, w :: vs, 0, m, nd, h1, h2, hk => by
    simp at h1 h2; subst h1; subst h2
    show bindL kindOf ((p, w) :: P.zip vs) m p = _
    unfold bindL
    rw [bindL_out fun v hv => (List.nodup_cons.mp nd).1 (List.of_mem_zip hv).1, if_pos hk]
    simp
  | p :: P, w :: vs, i + 1, m, nd, h1, h2, hk => by
    show bindL kindOf ((p, w) :: P.zip vs) m x = _
    unfold bindL
    exact bindL_get (i := i) (List.nodup_cons.mp nd).2 (by simpa using h1) (by simpa using h2) hk
theorem bindC_get {kindOf : Str → Option NameKind} {x : Str} {v : Value} : ∀ {P : List Str} {vs : List Value} {i : Nat} {m : Str → Option Value}, P.Nodup → P[i]? = some x → vs[i]? = some v → kindOf x ≠ some .local →
    bindC kindOf (P.zip vs) m x = some v
  | [], _, _, _, _, h, _, _ => by simp at h
  | _ :: _, [], _, _, _, _, h, _ => by simp at h
  | p :: P, w :: vs, 0, m, nd, h1, h2, hk => by
    simp at h1 h2; subst h1; subst h2
    show bindC kindOf ((p, w) :: P.zip vs) m p = _
    unfold bindC
    rw [bindC_out fun v hv => (List.nodup_cons.mp nd).1 (List.of_mem_zip hv).1, if_neg hk]
    simp
  | p :: P, w :: vs, i + 1, m, nd, h1, h2, hk => by
    show bindC kindOf ((p, w) :: P.zip vs) m x = _
    unfold bindC
    exact bindC_get (i := i) (List.nodup_cons.mp nd).2 (by simpa using h1) (by simpa using h2) hk


def start (N : List Str) (vs : List V) : St := vs.map some ++ List.replicate (N.length - vs.length) none


def cxOf (CX : CXT) (P : Program) (w : World) (K : PySem.W.Frag) (mg : Str → Option Value) (base : Heap) (N : List Str) (qual : Str) (scope : Scope) (f : Addr) (cd : Value) (A : Around) (outer : List Env) (s : Shared) (H : Hp) (E : XK) : Cx where
  prog := P
  w := w
  K := K
  mg := mg
  base := base
  A := A.deeper (envOfC qual scope s.heap.objs.size f cd)
  N := N
  s₀ := s
  H₀ := H
  env := envOfC qual scope s.heap.objs.size f cd
  outer := outer
  stack := envOfC qual scope s.heap.objs.size f cd :: outer
  ex := []
  calm := true
  fn := fun _ => true
  pn := []
  xe := fun e s' => wpAny (model P w) (A.deeper (envOfC qual scope s.heap.objs.size f cd)) (leaving (envOfC qual scope s.heap.objs.size f cd) e) (fun _ s'' => CX outer H s E e s'') (fun e' s'' => CX outer H s E e' s'') s'

theorem cell_has {sc : Scope} {n : Nat} {x : Str} (h : sc.names.lookup x = some .cell) : ∃ c, (cellsFrom n sc.names []).lookup x = some c := by
  have q := PySem.W.cellsFrom_some sc.names n [] (.inl h)
  exact Option.isSome_iff_exists.mp q

theorem inv_start {CX : CXT} {P : Program} {w : World} {K : PySem.W.Frag} {mg : Str → Option Value} {base : Heap} {N ps : List Str} {qual : Str} {scope : Scope} {f : Addr} {cd : Value} {A : Around} {outer : List Env} {s s1 : Shared} {H : Hp} {E : XK} {us : List Value} {vs : List V}
    (S : FnScope N ps scope) (hd : A.handled = none) (e0 : Env0 P w K mg base A outer s H) (hl : vs.length = ps.length) (r : Vals vs us)
    (x : InCallC s s.heap.objs.size (bindL (envOfC qual scope s.heap.objs.size f cd).kindOf (ps.zip us) fun _ => none) (cellsFrom (s.heap.objs.size + 1) scope.names []) (bindC (envOfC qual scope s.heap.objs.size f cd).kindOf (ps.zip us) fun _ => none) s1) :
    Inv (cxOf CX P w K mg base N qual scope f cd A outer s H E) [] (start N vs) H s1 := by
  have hpl : ps.length ≤ N.length := by have := congrArg List.length S.pre; rw [List.length_take] at this; omega
  obtain ⟨h1, tk, rfl, hk⟩ := x.done
  have noA : ∀ b : Addr, b ∉ (cxOf CX P w K mg base N qual scope f cd A outer s H E).ex := fun b z => absurd (show b ∈ ([] : List Addr) from z) (by simp)
  refine ⟨⟨e0.mod, S.kind, rfl, rfl, Nat.le_refl _, fun y z c h1 h2 => ?_, fun y hy => ?_, fun y c _ h => ?_, fun _ => hd, Around.frames_deeper e0.frames, .inr ⟨rfl, rfl⟩, fun b z => absurd z (noA b), e0.bs, e0.bsz, fun b _ _ => noA b, fun b z => absurd z (noA b), e0.funs, e0.frf⟩,
    rfl, e0.bare, Un.kept hk, ⟨_, x.toInCall.ns, fun i y v h1 h2 h3 => ?_⟩, fun y c h => ⟨_, x.cell y c h⟩, e0.hok.fresh (Nat.le_refl _), fun y c h => ?_, fun p hp => absurd (show p ∈ ([] : List (Addr × Obj)) from hp) (by simp), e0.hok.kept hk, ?_⟩
  · exact name_of_addr x.apart (PySem.mem_of_lookup h1) (PySem.mem_of_lookup h2)
  · have hy : scope.names.lookup y = some .cell ∨ scope.names.lookup y = some .free := hy
    rcases hy with hy | hy
    · exact cell_has hy
    · exact absurd rfl (S.nofree _ (PySem.mem_of_lookup hy))
  · exact Nat.le_of_lt (x.above y c (PySem.mem_of_lookup h))
  · have hi : i < vs.length := by
      unfold start at h2
      by_cases hi : i < vs.length
      · exact hi
      · rw [List.getElem?_append_right (by simpa using hi)] at h2
        rw [List.getElem?_replicate] at h2
        split at h2 <;> cases h2
    have ha : vs[i]? = some v := by
      unfold start at h2
      rw [List.getElem?_append_left (by simpa using hi), List.getElem?_map] at h2
      cases e : vs[i]? with
      | none => rw [e] at h2; cases h2
      | some a => rw [e] at h2; cases h2; rfl
    obtain ⟨u, hu, rv⟩ := r.get ha
    have hp : ps[i]? = some y := by
      rw [← S.pre, List.getElem?_take_of_lt (by omega)]; exact h1
    have ndP : ps.Nodup := by rw [← S.pre]; exact S.nd.sublist (List.take_sublist _ _)
    refine ⟨u, rv, ?_⟩
    rcases S.par y (List.mem_of_getElem? hp) with k | k
    · exact .inl ⟨k, bindL_get ndP hp hu k⟩
    · obtain ⟨c, e⟩ := cell_has (n := s.heap.objs.size + 1) k
      refine .inr ⟨.inl k, c, e, ?_⟩
      have q := x.cell y c e
      rw [bindC_get ndP hp hu (by show scope.names.lookup y ≠ _; rw [k]; decide)] at q
      exact q
  · exact e0.hok.fresh (Nat.le_of_lt (x.above y c (PySem.mem_of_lookup h)))
  · unfold start
    show _ = N.length
    rw [List.length_append, List.length_map, List.length_replicate]
    omega


theorem fn_of {CX : CXT} {P : Program} {w : World} {K : PySem.W.Frag} {mg : Str → Option Value} {base : Heap} {k : Nat} {f : Addr} {name qual : Str} {params : Arguments} {body : List Stmt} {scope : Scope} {dV kV doc pm cdv ct oc : Value} {an od : Option Addr}
    {osl : Array (Option Value)} {N ps : List Str} {sp : Sp} (lk : K.lookup f = some ⟨oc, od, .func (PySem.W.fnOf name qual params body scope dV kV doc pm an cdv ct), osl⟩) (hcd : PySem.W.codeIn K cdv qual = true) (S : FnScope N ps scope)
    (len : ∀ vs H Q E, sp vs H Q E → vs.length = ps.length)
    (hbody : ∀ (A : Around) (outer : List Env) (s : Shared) (H : Hp) (vs : List V) (Q : VK) (E : XK), Room k (A.deeper (envOfC qual scope s.heap.objs.size f cdv)) → sp vs H Q E →
      ∃ t, PSs (cxOf CX P w K mg base N qual scope f cdv A outer s H E) body t ∧ t { nx := fun _ H' => Q .non H', rt := Q } (start N vs) H) :
    FnOk P w K mg base CX (k + 1) f (PySem.W.fnOf name qual params body scope dV kV doc pm an cdv ct) ps sp := by
  refine ⟨len, fun A outer s H args us vs Q E hr e0 hb r hsp => ?_⟩
  have hl := len _ _ _ _ hsp
  have KX : K.In s.heap := e0.mod.kin.keeps fun b o e => (e0.bs b o e).1
  have lim : s.heap.NoLimit := e0.mod.nolimit.keeps fun b o e => (e0.bs b o e).1
  have hkind : ∀ y ∈ ps.zip us, scope.names.lookup y.1 = some .local ∨ (scope.names.lookup y.1 = some .cell ∧ ((cellsFrom (s.heap.objs.size + 1) scope.names []).lookup y.1).isSome = true) := fun ⟨n, v⟩ hy => by
    rcases S.par n (List.of_mem_zip hy).1 with q | q
    · exact .inl q
    · exact .inr ⟨q, PySem.W.cellsFrom_some _ _ _ (.inl q)⟩
  refine codeAny_call_function hr.depth (KX _ _ lk) rfl S.co S.gen rfl (PySem.W.codeRec_of KX hcd) (hb _ _ _ _ ?_)
  refine wpAny_newFunctionEnv_cells S.kind hkind fun env he s1 x => ?_
  subst he
  refine ⟨lim.keeps x.toInCall.keep, codeAny_func ?_⟩
  obtain ⟨t, ht, hq⟩ := hbody A outer s H vs Q E (hr.deeper _) hsp
  have I : Inv (cxOf CX P w K mg base N qual scope f cdv A outer s H E) [] (start N vs) H s1 := inv_start S hr.hd e0 hl r x
  refine wpAny_mono (ht [] s1 (start N vs) H _ I hq) (fun fl s' hs => ?_) fun e s' hs => hs
  have fin : ∀ {σ' : St} {H' : Hp} {v : V} {u : Value}, Inv (cxOf CX P w K mg base N qual scope f cdv A outer s H E) [] σ' H' s' → RelV v u → Q v H' → CE outer P w H s Q u s' :=
    fun {σ' H' v u} J rv q => ⟨v, H', J.os, J.bare, J.base, J.hok, rv, q⟩
  cases fl with
  | ret u =>
    obtain ⟨v, σ', H', J, rv, q⟩ := hs
    exact fin J rv q
  | next =>
    obtain ⟨σ', H', J, q⟩ := hs
    exact fin (v := V.non) (u := Value.none) J rfl q
  | brk =>
    obtain ⟨_, _, _, q⟩ := hs
    exact False.elim q
  | cont =>
    obtain ⟨_, _, _, q⟩ := hs
    exact False.elim q
end L2

namespace L2
open PySem PySem.Spec PyProof.Rows
section
variable {X : Cx} {x : Str} {p pos : Pos} {e : Expr} {es : List Expr} {t : TA} {id T : String} {r : List V → Hp → VK → Prop}

def tCB (r : List V → Hp → VK → Prop) (t : TA) : TE := fun σ H Q => t σ H fun vs H1 => r vs H1 Q

theorem pe_callB (hc : CallR X (.builtin id) r) (hg : Gl X x) (hm : X.mg x = none) (hv : bootBuiltins x = some (.builtin id)) (ha : PA X (e :: es) t) (hn : x ≠ "__name__" := by decide) (hdb : (x == ("__debug__" : Str)) = false := by decide)
    (he : starEach (e :: es) X.env = (false, eval e X.env) :: starEach es X.env := by rfl) (hpl : (backTo pos (starEach es X.env)).any (·.1) = false := by rfl) : PE X (.Call (.Name x p) (e :: es) [] pos) (tCB r t) := by
  intro pins s σ H Q I h
  refine wpAny_Call_Name_kw (ld_blt I hg hm hv ?_ hn hdb)
  exact PyProof.Rows.callWith_builtin1 (thn (ha pos pins s σ H _ I h) fun us s1 ⟨vs, H1, I1, r1, q1⟩ => hc pins s1 σ H1 vs us Q I1 r1 q1) he hpl

theorem pe_callTy (hc : CallR X (.type T) r) (hg : Gl X x) (hm : X.mg x = none) (hv : bootBuiltins x = some (.type T)) (ha : PA X (e :: es) t) (hn : x ≠ "__name__" := by decide) (hdb : (x == ("__debug__" : Str)) = false := by decide)
    (he : starEach (e :: es) X.env = (false, eval e X.env) :: starEach es X.env := by rfl) (hpl : (backTo pos (starEach es X.env)).any (·.1) = false := by rfl) : PE X (.Call (.Name x p) (e :: es) [] pos) (tCB r t) := by
  intro pins s σ H Q I h
  refine wpAny_Call_Name_kw (ld_blt I hg hm hv ?_ hn hdb)
  exact PyProof.Rows.callWith_type1 (thn (ha pos pins s σ H _ I h) fun us s1 ⟨vs, H1, I1, r1, q1⟩ => hc pins s1 σ H1 vs us Q I1 r1 q1) he hpl

end
end L2

namespace HT
open PySem PyProof.Rows


def lexLt : List Int → List Int → Bool
  | [], [] => false
  | [], _ :: _ => true
  | _ :: _, [] => false
  | x :: xs, y :: ys => if x = y then lexLt xs ys else decide (x < y)
theorem lexLt_cons (x y : Int) (xs ys : List Int) : lexLt (x :: xs) (y :: ys) = if x = y then lexLt xs ys else decide (x < y) := rfl
theorem lexLt_nil_nil : lexLt [] [] = false := rfl
theorem lexLt_nil_cons (y : Int) (ys : List Int) : lexLt [] (y :: ys) = true := rfl
theorem lexLt_cons_nil (x : Int) (xs : List Int) : lexLt (x :: xs) [] = false := rfl

theorem eqAt_int (A : Around) (s : Shared) (a : Int) (t : Tok) (c : Int) (u : Tok) : ∃ e, SeqAt.EqAt A s (.int a t) (.int c u) e ∧ (e = true ↔ a = c) :=
  ⟨(a == c), SeqAt.EqAt.int_int a t c u, by simp⟩
theorem rcLt_int (A : Around) (s : Shared) (a : Int) (t : Tok) (c : Int) (u : Tok) (prog : Program) (w : World) (E : Value → Shared → Prop) (Q : Value → Shared → Prop) (h : Q (.bool (decide (a < c))) s) :
    wpAny (model prog w) A (richCompare .Lt (.int a t) (.int c u)) Q E s :=
  (PyProof.Rows.lt_int h : wpAny (model prog w) A (compareOp .Lt (.int a t) (.int c u)) Q E s)

section
open PySem.SeqAt
open PySem.AutoSeq1 (wpAny_loadPart')
open PySem.MeetsSeq PySem.MeetsSeq2 PySem.MeetsSeq3

theorem tuple_lt_ints (l b : Addr) (items items2 : Array Value) (n n2 : Nat) (dd dd2 : Option Addr) (sl sl2 : Array (Option Value)) (ns ms : List Int) (hi : IntsAre items.toList ns) (hj : IntsAre items2.toList ms) :
    Meets (Builtin.«tuple.__lt__» ⟨[.ref l, .ref b], []⟩)
      (fun _ R s => s.heap.get? l = some { cls := .type "tuple", dict := dd, data := .seq items n, slots := sl } ∧ s.heap.get? b = some { cls := .type "tuple", dict := dd2, data := .seq items2 n2, slots := sl2 } ∧
        R (.ok (.ret (.bool (lexLt ns ms)))) s) :=
  .of_wp fun prog w A R s h => by
    obtain ⟨hp, g, d, tk, os⟩ := s; obtain ⟨hl, hb, h⟩ := h
    have f2 := AutoSeq1.sub_tuple_tuple
    have z1 : items.size = ns.length := by rw [← hi.length]; simp
    have z2 : items2.size = ms.length := by rw [← hj.length]; simp
    wp_walk using wpAny_loadPart' hl, wpAny_loadPart' hb, wpAny_forIn_list _ (fun rest b s' => b.1 = none ∧ s' = ⟨hp, g, d, tk, os⟩ ∧ ∃ (vs ws : List Value) (ns' ms' : List Int), rest = vs.zip ws ∧
      IntsAre vs ns' ∧ IntsAre ws ms' ∧ ns'.length + items2.size = ms'.length + items.size ∧ R (.ok (.ret (.bool (lexLt ns' ms')))) ⟨hp, g, d, tk, os⟩) _
    case turn =>
      rintro ⟨y, x⟩ rest b s' ⟨hb', rfl, vs, ws, ns', ms', hz, hvi, hwi, hlen, hR⟩
      cases hvi with
      | nil => rw [List.zip_nil_left] at hz; cases hz
      | cons a t hvi' =>
        cases hwi with
        | nil => rw [List.zip_nil_right] at hz; cases hz
        | cons c u hwi' =>
          rw [List.zip_cons_cons] at hz
          injection hz with hyx hrest
          injection hyx with hy hx
          subst hy hx
          rw [lexLt_cons] at hR
          simp only [List.length_cons] at hlen
          obtain ⟨e, he, hiff⟩ := eqAt_int A.in1 ⟨hp, g, d, tk, os⟩ a t c u
          refine wpAny_bind (he prog w _ _ ?_)
          cases e with
          | true =>
            rw [if_pos (hiff.mp rfl)] at hR
            wp_walk
            exact ⟨rfl, rfl, _, _, _, _, hrest, hvi', hwi', by omega, hR⟩
          | false =>
            rw [if_neg (fun q => absurd (hiff.mpr q) Bool.false_ne_true)] at hR
            have hri := rcLt_int A.in1 ⟨hp, g, d, tk, os⟩ a t c u prog w
            wp_walk using hri
            exact ⟨_, rfl, by simpa using hR⟩
    case fin =>
      rintro ⟨b1, b2⟩ s' ⟨hb', rfl, vs, ws, ns', ms', hz, hvi, hwi, hlen, hR⟩
      simp only at hb'
      subst hb'
      have hv : lexLt ns' ms' = decide (items.size < items2.size) := by
        cases hvi with
        | nil =>
          cases hwi with
          | nil =>
            simp only [List.length_nil] at hlen
            rw [lexLt_nil_nil]
            exact (decide_eq_false (by omega)).symm
          | cons c u hw =>
            simp only [List.length_nil, List.length_cons] at hlen
            rw [lexLt_nil_cons]
            exact (decide_eq_true (by omega)).symm
        | cons a t hv =>
          cases hwi with
          | nil =>
            simp only [List.length_nil, List.length_cons] at hlen
            rw [lexLt_cons_nil]
            exact (decide_eq_false (by omega)).symm
          | cons c u hw =>
            rw [List.zip_cons_cons] at hz
            cases hz
      rw [hv] at hR
      wp_walk
      exact ⟨_, rfl, by simpa [Builtin.Tuple.tupleCompareSizes] using hR⟩
    case h =>
      exact ⟨rfl, rfl, items.toList, items2.toList, ns, ms, rfl, hi, hj, by omega, h⟩
end

section
variable {prog : Program} {w : World} {A : Around} {E : Value → Shared → Prop} {s : Shared}

theorem lt_tupInts {l b : Addr} {items items2 : Array Value} {ns ms : List Int} {Q : Value → Shared → Prop} (hl : IsTup s.heap l items) (hb : IsTup s.heap b items2) (hi : IntsAre items.toList ns) (hj : IntsAre items2.toList ms)
    (hu : A.units < cLine) (h : Q (.bool (lexLt ns ms)) s) : wpAny (model prog w) A (compareOp .Lt (.ref l) (.ref b)) Q E s := by
  obtain ⟨⟨cls, dd, data, sl⟩, ho, hc, n, hd⟩ := id hl
  obtain ⟨⟨cls2, dd2, data2, sl2⟩, ho2, hc2, n2, hd2⟩ := id hb
  simp only at hc hd hc2 hd2
  subst hc hd hc2 hd2
  exact richCompare_meets_room (op := .Lt) ⟨_, ho, rfl⟩ ⟨_, ho2, rfl⟩ PySem.F.slot_tuple_lt PySem.F.entry_tuple_lt (PySem.F.args_tuple_lt_2 _ _) (tuple_lt_ints l b items items2 n n2 dd dd2 sl sl2 ns ms hi hj)
    ⟨ho, ho2, show Value.bool (lexLt ns ms) ≠ Value.notImplemented ∧ Q (.bool (lexLt ns ms)) s from ⟨(fun x => nomatch x), h⟩⟩ hu


theorem cat_tup {t b : Addr} {vs ws : List Value} {Q : Value → Shared → Prop} (ht : IsTup s.heap t vs.toArray) (hb : IsTup s.heap b ws.toArray) (hv : vs ≠ [])
    (h1 : ws = [] → Q (.ref t) s) (h2 : ws ≠ [] → Q (.ref s.heap.objs.size) { s with heap := s.heap.push { cls := .type "tuple", data := .seq (vs ++ ws).toArray } })
    (hsz : vs.length + ws.length ≤ sizeLine) : wpAny (model prog w) A (binaryOp .Add (.ref t) (.ref b)) Q E s := by
  obtain ⟨⟨cls, dd, data, sl⟩, ho, hc, n, hd⟩ := id ht
  obtain ⟨⟨cls2, dd2, data2, sl2⟩, ho2, hc2, n2, hd2⟩ := id hb
  simp only at hc hd hc2 hd2
  subst hc hd hc2 hd2
  have e : vs.toArray ++ ws.toArray = (vs ++ ws).toArray := by simp
  by_cases hw : ws = []
  · exact concat_meets ⟨_, ho, rfl⟩ ⟨_, ho2, rfl⟩ noFill_tuple_add seq_tuple_add PySem.F.slot_tuple_add PySem.F.entry_tuple_add (PySem.F.args_tuple_add_2 _ _)
      (tuple_addW1 t b vs.toArray ws.toArray n n2 dd dd2 sl sl2 (by simpa using hv) (by simp [hw])) ⟨ho, ho2, h1 hw⟩
  · refine concat_meets ⟨_, ho, rfl⟩ ⟨_, ho2, rfl⟩ noFill_tuple_add seq_tuple_add PySem.F.slot_tuple_add PySem.F.entry_tuple_add (PySem.F.args_tuple_add_2 _ _)
      (tuple_addW2 t b vs.toArray ws.toArray n n2 dd dd2 sl sl2 (by simpa using hv) (by simpa using hw) (by rw [List.size_toArray, List.size_toArray]; exact hsz)) ⟨ho, ho2, ?_⟩
    rw [e]
    exact h2 hw



def sIx (n d : Nat) : Option Int → Nat
  | none => d
  | some v => if v < 0 then (v + (n : Int)).toNat else min v.toNat n
theorem sIx_none (n d : Nat) : sIx n d none = d := rfl
theorem sIx_nat (n d k : Nat) : sIx n d (some (k : Int)) = min k n := by
  show (if (k : Int) < 0 then ((k : Int) + (n : Int)).toNat else min (k : Int).toNat n) = min k n
  rw [if_neg (by omega), Int.toNat_natCast]
theorem sIx_le (n d : Nat) (hd : d ≤ n) (o : Option Int) : sIx n d o ≤ n := by
  cases o with
  | none => exact hd
  | some v =>
    show (if v < 0 then (v + (n : Int)).toNat else min v.toNat n) ≤ n
    by_cases hv : v < 0
    · rw [if_pos hv]; omega
    · rw [if_neg hv]; exact Nat.min_le_right _ _
theorem clip_eq (v : Int) (n d : Nat) : (if v < 0 then max (v + (n : Int)) 0 else min v (n : Int)) = ((sIx n d (some v) : Nat) : Int) := by
  show (if v < 0 then max (v + (n : Int)) 0 else min v (n : Int)) = (((if v < 0 then (v + (n : Int)).toNat else min v.toNat n) : Nat) : Int)
  by_cases hv : v < 0
  · simp only [if_pos hv]; omega
  · simp only [if_neg hv]; omega
theorem adjust_gen (lo hi : Option Int) (n : Nat) : Builtin.Slice.sliceAdjust lo hi 1 (n : Int) = (((sIx n 0 lo : Nat) : Int), ((sIx n n hi : Nat) : Int)) := by
  have h1 : ¬ ((1 : Int) < 0) := by omega
  unfold Builtin.Slice.sliceAdjust
  simp only [h1, if_false]
  refine Prod.ext ?_ ?_
  · cases lo with
    | none => rfl
    | some v => exact clip_eq v n 0
  · cases hi with
    | none => rfl
    | some v => exact clip_eq v n n
theorem places_gen (i j : Nat) : Builtin.Slice.slicePlaces (i : Int) (j : Int) 1 = j - i := by
  unfold Builtin.Slice.slicePlaces
  have h1 : (1 : Int) > 0 := by omega
  simp only [h1, if_true, Int.ediv_one]
  split <;> omega
theorem slicePart_ {v : Value} {o : Option Int} {Q : Option Int → Shared → Prop} (p : IsPart v o) (h : Q o s) : wpAny (model prog w) A (Builtin.Slice.slicePartIndex v) Q E s := by
  cases p with
  | none => exact slicePart_none h
  | int i t => exact slicePart_int h
theorem sliceApplied_gen {sl : Addr} {vl vu : Value} {lo hi : Option Int} {n : Nat} {Q : Int × Int × Nat → Shared → Prop} (hs : s.heap.IsSliceOf sl vl vu .none) (pl : IsPart vl lo) (pu : IsPart vu hi)
    (h : Q (((sIx n 0 lo : Nat) : Int), 1, sIx n n hi - sIx n 0 lo) s) : wpAny (model prog w) A (Builtin.Slice.sliceApplied (.ref sl) (pure (n : Int))) Q E s := by
  obtain ⟨os, hos, hcs, hds⟩ := id hs
  unfold Builtin.Slice.sliceApplied Builtin.Slice.sliceFields
  refine wpAny_bind (wpAny_bind (wpAny_field hos hds (x := vl) rfl (wpAny_bind (wpAny_field hos hds (x := vu) rfl (wpAny_bind (wpAny_field hos hds (x := .none) rfl (wpAny_pure ?_)))))))
  refine wpAny_bind (slicePart_none ?_)
  show wpAny _ _ (if ((1 : Int) == 0) = true then _ else _) _ _ s
  rw [if_neg (by decide)]
  refine wpAny_bind (slicePart_ pl (wpAny_bind (slicePart_ pu (wpAny_bind (wpAny_pure ?_)))))
  show wpAny _ _ (match Builtin.Slice.sliceAdjust lo hi 1 (n : Int) with | (lo, hi) => pure (lo, (1 : Int), Builtin.Slice.slicePlaces lo hi 1)) _ _ s
  rw [adjust_gen lo hi n]
  show wpAny _ _ (pure (((sIx n 0 lo : Nat) : Int), (1 : Int), Builtin.Slice.slicePlaces ((sIx n 0 lo : Nat) : Int) ((sIx n n hi : Nat) : Int) 1)) _ _ s
  rw [places_gen]
  exact wpAny_pure h
theorem pick_gen (xs : Array Value) (i k : Nat) : ((List.range k).filterMap fun (m : Nat) => xs[((i : Int) + (m : Int) * 1).toNat]?).toArray = ((xs.toList.drop i).take k).toArray := by
  have e : (fun (m : Nat) => xs[((i : Int) + (m : Int) * 1).toNat]?) = fun m => xs[i + m]? := by
    funext m
    have : ((i : Int) + (m : Int) * 1).toNat = i + m := by omega
    rw [this]
  rw [e]
  have := pick_run xs i k
  rw [List.filterMap_map] at this
  have e2 : ((fun x => xs[x]?) ∘ fun x => i + x) = fun m => xs[i + m]? := rfl
  rw [e2] at this
  rw [this]

theorem getItem_tuple_cut {t sl : Addr} {items : Array Value} {vl vu : Value} {lo hi : Option Int} {Q : Value → Shared → Prop} (ht : IsTup s.heap t items) (hs : s.heap.IsSliceOf sl vl vu .none) (pl : IsPart vl lo) (pu : IsPart vu hi)
    (hw : ¬ (sIx items.size 0 lo = 0 ∧ sIx items.size items.size hi = items.size))
    (h : Q (.ref s.heap.objs.size) { s with heap := s.heap.push { cls := .type "tuple", data := .seq ((items.toList.drop (sIx items.size 0 lo)).take (sIx items.size items.size hi - sIx items.size 0 lo)).toArray } })
    (hsz : items.size ≤ sizeLine) : wpAny (model prog w) A (getItem (.ref t) (.ref sl)) Q E s := by
  have htake : sizeOk (.seq ((items.toList.drop (sIx items.size 0 lo)).take (sIx items.size items.size hi - sIx items.size 0 lo)).toArray) := by
    show ((items.toList.drop (sIx items.size 0 lo)).take (sIx items.size items.size hi - sIx items.size 0 lo)).toArray.size ≤ sizeLine
    rw [List.size_toArray, List.length_take, List.length_drop, Array.length_toList]
    omega
  have hj : sIx items.size items.size hi ≤ items.size := sIx_le _ _ (Nat.le_refl _) hi
  obtain ⟨os, hos, hcs, hds⟩ := id hs
  have hTs : s.TypeIs (.ref sl) "slice" := ⟨os, hos, hcs⟩
  unfold getItem
  try with_reducible refine wpAny_holding ?_
  first | refine wpAny_bind (wpAny_pure ?_) | skip
  refine wpAny_bind (wpAny_sequenceKey ht.typeIs (by decide) ?_)
  refine wpAny_bind (wpAny_callSpecial?_slot (name := Str.ofString "__getitem__") ht.typeIs PyProof.Rows.slot_tuple_getitem
    (wpAny_call_entry PyProof.Rows.slot_tuple_getitem ht.typeIs entry_tuple_getitem ?_ (args_tuple_getitem _ _)))
  show wpAny _ _ (Builtin.Tuple.tupleItemsOf (.ref t) >>= _) _ _ s
  refine wpAny_bind (tupleItemsOf_ ht ?_)
  refine wpAny_bind (wpAny_typeOf hTs ?_)
  rw [if_pos (by decide)]
  refine wpAny_bind (sliceApplied_gen hs pl pu ?_)
  have hno : ¬ ((((sIx items.size 0 lo : Nat) : Int) == 0 && (1 : Int) == 1 && (sIx items.size items.size hi - sIx items.size 0 lo) == items.size) = true) := by
    intro q
    rw [Bool.and_eq_true, Bool.and_eq_true] at q
    have q1 : ((sIx items.size 0 lo : Nat) : Int) = 0 := eq_of_beq q.1.1
    have q2 : sIx items.size items.size hi - sIx items.size 0 lo = items.size := eq_of_beq q.2
    exact hw ⟨by omega, by omega⟩
  show wpAny _ _ (if (((sIx items.size 0 lo : Nat) : Int) == 0 && (1 : Int) == 1 && (sIx items.size items.size hi - sIx items.size 0 lo) == items.size) = true then _ else _) _ _ s
  rw [if_neg hno, pick_gen]
  first
    | exact wpAny_bind (m := Builtin.Tuple.tupleExact _) (wpAny_newObj_type (wpAny_pure ⟨_, rfl, wpAny_pure h⟩) htake)
    | exact wpAny_bind (m := Builtin.Tuple.tupleExact _) (wpAny_newObj_type (wpAny_bind (wpAny_pure (wpAny_pure ⟨_, rfl, wpAny_pure h⟩))) htake)
    | exact wpAny_bind (wpAny_bind (m := Builtin.Tuple.tupleExact _) (wpAny_newObj_type (wpAny_pure (wpAny_pure ⟨_, rfl, wpAny_pure h⟩)) htake))
    | exact wpAny_bind (wpAny_bind (m := Builtin.Tuple.tupleExact _) (wpAny_newObj_type (wpAny_pure ⟨_, rfl, wpAny_pure h⟩) htake))
end
end HT

namespace L2
open PySem PySem.Spec PyProof.Rows


abbrev TO := St → Hp → (Option Int → Hp → Prop) → Prop

def PO (X : Cx) (e : Option Expr) (t : TO) : Prop :=
  ∀ (pins : List (Addr × Obj)) (s : Shared) (σ : St) (H : Hp) (Q : Option Int → Hp → Prop), Inv X pins σ H s → t σ H Q →
    wpAny (model X.prog X.w) X.A (evalPart e X.env) (fun u s' => ∃ o H', Inv X pins σ H' s' ∧ IsPart u o ∧ Q o H') X.xe s
def tNoPart : TO := fun _ H Q => Q none H
def tPart (t : TE) : TO := fun σ H Q => t σ H fun x H1 => ∃ i, x = .int i ∧ Q (some i) H1

theorem intsAre_of {ns : List Int} : ∀ {us : List Value}, Vals (ns.map V.int) us → IntsAre us ns := by
  induction ns with
  | nil => intro us r; rw [List.map_nil] at r; cases r; exact .nil
  | cons n ns ih =>
    intro us r
    rw [List.map_cons] at r
    cases r with
    | cons r1 r2 =>
      obtain ⟨t, e⟩ := r1
      subst e
      exact .cons n t (ih r2)

section
variable {X : Cx} {e : Expr} {te : TE} {lo hi : Option Expr} {tl th : TO} {pos p2 : Pos}

theorem po_none : PO X none tNoPart := by
  intro pins s σ H Q I h
  rw [evalPart_none]
  exact wpAny_pure ⟨none, H, I, .none, h⟩
theorem po_some (h : PE X e te) : PO X (some e) (tPart te) := by
  intro pins s σ H Q I hw
  rw [evalPart_some]
  refine thn (h pins s σ H _ I hw) fun u s1 ⟨x, H1, I1, r1, q1⟩ => ?_
  obtain ⟨i, rfl, q⟩ := q1
  obtain ⟨t, rfl⟩ := r1
  exact ⟨some i, H1, I1, .int i t, q⟩


def SlR (X : Cx) (r : V → Option Int → Option Int → Hp → VK → Prop) : Prop :=
  ∀ (pins : List (Addr × Obj)) (s : Shared) (σ : St) (H : Hp) (x : V) (v vl vu : Value) (lo hi : Option Int) (sl : Addr) (Q : VK), Inv X pins σ H s → RelV x v → s.heap.IsSliceOf sl vl vu .none → IsPart vl lo → IsPart vu hi → r x lo hi H Q →
    ∃ T id, typeLookup (.type T) "__getitem__" = pure (some (.builtin id)) ∧ s.TypeIs v T ∧ wpAny (model X.prog X.w) X.A (getItem v (.ref sl)) (EP X pins σ Q) X.xe s
def tSl (r : V → Option Int → Option Int → Hp → VK → Prop) (te : TE) (tl th : TO) : TE := fun σ H Q => te σ H fun x H1 => tl σ H1 fun l H2 => th σ H2 fun u H3 => r x l u H3 Q

theorem pe_slice {r : V → Option Int → Option Int → Hp → VK → Prop} (hr : SlR X r) (he : PE X e te) (hl : PO X lo tl) (hu : PO X hi th) : PE X (.Subscript e (.Slice lo hi none p2) pos) (tSl r te tl th) := by
  intro pins s σ H Q I h
  refine Subscript_ (thn (he pins s σ H _ I h) fun v s1 ⟨x, H1, I1, r1, q1⟩ => ?_)
  refine wpAny_Slice (thn (hl pins s1 σ H1 _ I1 q1) fun vl s2 ⟨l, H2, I2, pl, q2⟩ => thn (hu pins s2 σ H2 _ I2 q2) fun vu s3 ⟨u, H3, I3, pu, q3⟩ => ?_)
  rw [evalPart_none]
  refine wpAny_pure ?_
  have I4 : Inv X pins σ H3 { s3 with heap := s3.heap.push { cls := .type "slice", data := .fields #[vl, vu, .none] } } := I3.kept (t' := s3.toks) fun b ob q => Heap.get?_push_of_some _ q
  obtain ⟨T, id, hT, ht, hg⟩ := hr pins { s3 with heap := s3.heap.push { cls := .type "slice", data := .fields #[vl, vu, .none] } } σ H3 x v vl vu l u s3.heap.objs.size Q I4 r1 (Heap.IsSliceOf.new ..) pl pu q3
  show wpAny (model X.prog X.w) X.A (subscriptTail e (.Slice lo hi none p2) v (.ref s3.heap.objs.size)) (EP X pins σ Q) X.xe { s3 with heap := s3.heap.push { cls := .type "slice", data := .fields #[vl, vu, .none] } }
  exact tail_any (ops := [.ref s3.heap.objs.size, v]) ht hT hg (by with_unfolding_all rfl)


def cutV (xs : List V) (lo hi : Option Int) : List V := (xs.drop (HT.sIx xs.length 0 lo)).take (HT.sIx xs.length xs.length hi - HT.sIx xs.length 0 lo)
theorem cutV_length (xs : List V) (lo hi : Option Int) : (cutV xs lo hi).length ≤ xs.length := by
  unfold cutV
  rw [List.length_take, List.length_drop]
  omega

def rSlT (K : PySem.W.Frag) : V → Option Int → Option Int → Hp → VK → Prop := fun x lo hi H Q => ∃ a xs, x = .ref a ∧ SqT K H a xs ∧
  ¬ (HT.sIx xs.length 0 lo = 0 ∧ HT.sIx xs.length xs.length hi = xs.length) ∧ ∀ p, H p = none → Q (.ref p) (upd H p (.tup (cutV xs lo hi)))
theorem sl_tup : SlR X (rSlT X.K) := by
  intro pins s σ H x v vl vu lo hi sl Q I rx hs pl pu h
  obtain ⟨a, xs, rfl, hx, hw, q⟩ := h
  cases rx
  obtain ⟨its, r, ht, hz⟩ := I.tuple hx
  have hlen : its.toArray.size = xs.length := by rw [List.size_toArray]; exact r.length.symm
  refine ⟨"tuple", _, PyProof.Rows.slot_tuple_getitem.lookup, ht.typeIs, ?_⟩
  refine HT.getItem_tuple_cut ht hs pl pu (by rw [hlen]; exact hw) ?_ (by rw [hlen]; exact hz)
  rw [hlen]
  refine ⟨.ref s.heap.objs.size, _, I.laid (t' := s.toks) (o := .tup (cutV xs lo hi)) (fun b ob q => Heap.get?_push_of_some _ q) (Nat.le_refl _) ?_, rfl, q _ (I.hok.fresh (Nat.le_refl _))⟩
  exact ⟨Nat.le_trans (cutV_length xs lo hi) hz, _, (r.drop (HT.sIx xs.length 0 lo)).take (HT.sIx xs.length xs.length hi - HT.sIx xs.length 0 lo), IsTup.new _ _⟩


def rCatT (K : PySem.W.Frag) : R2 := fun x y H Q => ∃ a b xs ys, x = .ref a ∧ y = .ref b ∧ SqT K H a xs ∧ SqT K H b ys ∧ xs ≠ [] ∧ xs.length + ys.length ≤ sizeLine ∧
  (ys = [] → Q (.ref a) H) ∧ (ys ≠ [] → ∀ p, H p = none → Q (.ref p) (upd H p (.tup (xs ++ ys))))
theorem Vals.nil_iff {xs : List V} {us : List Value} (r : Vals xs us) : us = [] ↔ xs = [] := by
  cases r with
  | nil => simp
  | cons _ _ => simp
theorem op_catT : OpR X (binaryOp .Add) (rCatT X.K) := by
  intro pins s σ H x y v u Q I rx ry h
  obtain ⟨a, b, xs, ys, rfl, rfl, ha, hb, hx, hz, q1, q2⟩ := h
  cases rx
  cases ry
  obtain ⟨its, r1, p1, _⟩ := I.tuple ha
  obtain ⟨its2, r2, p2, _⟩ := I.tuple hb
  refine HT.cat_tup p1 p2 (fun z => hx (r1.nil_iff.mp z)) (fun z => ⟨.ref a, H, I, rfl, q1 (r2.nil_iff.mp z)⟩) (fun z => ?_) (by rw [← r1.length, ← r2.length]; exact hz)
  refine ⟨.ref s.heap.objs.size, _, I.laid (t' := s.toks) (o := .tup (xs ++ ys)) (fun b ob q => Heap.get?_push_of_some _ q) (Nat.le_refl _) ?_, rfl, q2 (fun w => z (r2.nil_iff.mpr w)) _ (I.hok.fresh (Nat.le_refl _))⟩
  exact ⟨by rw [List.length_append]; exact hz, _, r1.append r2, IsTup.new _ _⟩

end
end L2

namespace L2
open PySem PySem.Spec PyProof.Rows



def ixN (n : Nat) (i : Int) : Option Nat := if 0 ≤ i then (if i < n then some i.toNat else none) else if -(n : Int) ≤ i then some (i + n).toNat else none
def atI {α : Type} (xs : List α) (i : Int) : Option α := (ixN xs.length i).bind fun j => xs[j]?
theorem ixN_seq {n : Nat} {i : Int} {j : Nat} (h : ixN n i = some j) : seqIndex? i n = some j ∧ j < n ∧ -(n : Int) ≤ i ∧ i < n := by
  unfold ixN at h
  by_cases h0 : 0 ≤ i
  · rw [if_pos h0] at h
    by_cases h1 : i < n
    · rw [if_pos h1] at h
      have e : i.toNat = j := Option.some.inj h
      exact ⟨by rw [seqIndex_of h0 h1, e], by omega, by omega, h1⟩
    · rw [if_neg h1] at h; cases h
  · rw [if_neg h0] at h
    by_cases h1 : -(n : Int) ≤ i
    · rw [if_pos h1] at h
      have e : (i + n).toNat = j := Option.some.inj h
      exact ⟨by rw [seqIndex_neg (by omega) h1, e], by omega, h1, by omega⟩
    · rw [if_neg h1] at h; cases h
theorem atI_get {α : Type} {xs : List α} {i : Int} {v : α} (h : atI xs i = some v) : ∃ j, seqIndex? i xs.length = some j ∧ xs[j]? = some v ∧ j < xs.length ∧ -(xs.length : Int) ≤ i ∧ i < xs.length := by
  unfold atI at h
  cases e : ixN xs.length i with
  | none => rw [e] at h; cases h
  | some j =>
    rw [e] at h
    obtain ⟨h1, h2, h3, h4⟩ := ixN_seq e
    exact ⟨j, h1, h, h2, h3, h4⟩
theorem atI_nat {α : Type} {xs : List α} {j : Nat} {v : α} (h : xs[j]? = some v) : atI xs (j : Int) = some v := by
  have hj : j < xs.length := (List.getElem?_eq_some_iff.mp h).1
  have e : ixN xs.length (j : Int) = some j := by
    unfold ixN
    rw [if_pos (by omega), if_pos (by omega)]; simp
  unfold atI; rw [e]; exact h
def PlainIx (b : Expr) : Prop := ∀ o i, subscripted b false o i = operate [o, i] (getItem o i)

def IxR (X : Cx) (r : R2) : Prop :=
  ∀ (value slice : Expr) (pins : List (Addr × Obj)) (s : Shared) (σ : St) (H : Hp) (x y : V) (v u : Value) (Q : VK), Inv X pins σ H s → RelV x v → RelV y u → r x y H Q →
    subscripted slice false v u = operate [v, u] (getItem v u) → wpAny (model X.prog X.w) X.A (subscriptTail value slice v u) (EP X pins σ Q) X.xe s

def MtR (X : Cx) (id : String) (r : V → List V → Hp → VK → Prop) : Prop :=
  ∀ (pins : List (Addr × Obj)) (s : Shared) (σ : St) (H : Hp) (x : V) (xs : List V) (v : Value) (us : List Value) (Q : VK), Inv X pins σ H s → RelV x v → Vals xs us → r x xs H Q →
    wpAny (model X.prog X.w) X.A (call (.builtin id) (v :: us)) (EP X pins σ Q) X.xe s
section
variable {X : Cx} {a b : Expr} {ta tb : TE} {pos : Pos}
theorem pe_ix {r : R2} (hr : IxR X r) (ha : PE X a ta) (hb : PE X b tb) (hs : PlainIx b) : PE X (.Subscript a b pos) (tOp r ta tb) := by
  intro pins s σ H Q I h
  exact Subscript_ (binT ha hb I h fun v u s2 x y H2 I2 rx ry q => hr a b pins s2 σ H2 x y v u Q I2 rx ry q (hs _ _))

def rIxL (K : PySem.W.Frag) : R2 := fun x y H Q => ∃ p xs i v, x = .ref p ∧ y = .int i ∧ SqL K H p xs ∧ atI xs i = some v ∧ Q v H
def rIxT (K : PySem.W.Frag) : R2 := fun x y H Q => ∃ p xs i v, x = .ref p ∧ y = .int i ∧ SqT K H p xs ∧ atI xs i = some v ∧ Q v H
theorem ix_list : IxR X (rIxL X.K) := by
  intro value slice pins s σ H x y v u Q I rx ry h hs
  obtain ⟨p, xs, i, z, rfl, rfl, hq, he, q⟩ := h
  cases rx
  obtain ⟨t, rfl⟩ := ry
  obtain ⟨its, r, pl, hz⟩ := I.list hq
  obtain ⟨j, h1, h2, h3, h4, h5⟩ := atI_get he
  obtain ⟨w, ew, rw'⟩ := r.get h2
  have hl := r.length
  have hn := line63
  have fin : EP X pins σ Q w s := ⟨z, H, I, rw', q⟩
  by_cases h0 : 0 ≤ i
  · have hj : i.toNat = j := by
      rw [seqIndex_of h0 h5] at h1
      exact Option.some.inj h1
    exact item_listR pl.isList h0 (by omega) (by rw [hj]; simpa using ew) fin hs
  · have hj : (i + (its.toArray.size : Int)).toNat = j := by
      rw [seqIndex_neg (by omega) h4] at h1
      rw [List.size_toArray, ← hl]
      exact Option.some.inj h1
    exact subscriptTail_builtinR (x := w) pl.isList.typeIs slot_list_getitem.lookup
      (wpAny_getItem_list_neg (Q := fun r s' => r = w ∧ EP X pins σ Q r s') pl.isList (by omega) (by rw [List.size_toArray] <;> omega) (by omega) (by rw [hj]; simpa using ew) ⟨rfl, fin⟩) hs
theorem ix_tup : IxR X (rIxT X.K) := by
  intro value slice pins s σ H x y v u Q I rx ry h hs
  obtain ⟨p, xs, i, z, rfl, rfl, hq, he, q⟩ := h
  cases rx
  obtain ⟨t, rfl⟩ := ry
  obtain ⟨its, r, pl, hz⟩ := I.tuple hq
  obtain ⟨j, h1, h2, h3, h4, h5⟩ := atI_get he
  obtain ⟨w, ew, rw'⟩ := r.get h2
  have hl := r.length
  have hn := line63
  have fin : EP X pins σ Q w s := ⟨z, H, I, rw', q⟩
  exact subscriptTail_builtinR (x := w) pl.typeIs slot_tuple_getitem.lookup
    (getItem_tuple (j := j) (Q := fun r s' => r = w ∧ EP X pins σ Q r s') pl (by omega) (by omega) (by rw [List.size_toArray, ← hl]; exact h1) (by simpa using ew) ⟨rfl, fin⟩) hs
theorem slice_bounds (lo hi : Option Int) (n : Nat) : (sliceBounds lo hi none n).1 = ((HT.sIx n 0 lo : Nat) : Int) ∧ (sliceBounds lo hi none n).2.1 = ((HT.sIx n n hi : Nat) : Int) ∧ (sliceBounds lo hi none n).2.2 = 1 := by
  refine ⟨?_, ?_, rfl⟩
  · cases lo with
    | none => simp [sliceBounds, HT.sIx]
    | some i =>
      simp only [sliceBounds, HT.sIx, Option.getD_none, show (1 : Int) > 0 by decide, if_true]
      by_cases h : i < 0
      · simp only [h, if_true] <;> omega
      · simp only [h, if_false] <;> omega
  · cases hi with
    | none => simp [sliceBounds, HT.sIx]
    | some i =>
      simp only [sliceBounds, HT.sIx, Option.getD_none, show (1 : Int) > 0 by decide, if_true]
      by_cases h : i < 0
      · simp only [h, if_true] <;> omega
      · simp only [h, if_false] <;> omega
theorem slicePick_cut (its : List Value) (lo hi : Option Int) : slicePick its.toArray lo hi none = ((its.drop (HT.sIx its.length 0 lo)).take (HT.sIx its.length its.length hi - HT.sIx its.length 0 lo)).toArray := by
  obtain ⟨h1, h2, h3⟩ := slice_bounds lo hi its.toArray.size
  unfold slicePick
  rw [h1, h2, h3]
  simp only [sliceRange_one, pick_run, List.size_toArray] <;> rfl

def rSlL (K : PySem.W.Frag) : V → Option Int → Option Int → Hp → VK → Prop := fun x lo hi H Q => ∃ a xs, x = .ref a ∧ SqL K H a xs ∧ ∀ p, H p = none → Q (.ref p) (upd H p (.lst (cutV xs lo hi)))
theorem sl_list : SlR X (rSlL X.K) := by
  intro pins s σ H x v vl vu lo hi sl Q I rx hs pl pu h
  obtain ⟨a, xs, rfl, hx, q⟩ := h
  cases rx
  obtain ⟨its, r, ht, hz⟩ := I.list hx
  have hlen := r.length
  refine ⟨"list", _, slot_list_getitem.lookup, ht.isList.typeIs, ?_⟩
  refine wpAny_getItem_list_slice ht.isList hs pl pu .none (by simp) ?_ (by rw [List.size_toArray] <;> omega)
  rw [slicePick_cut, ← hlen]
  refine ⟨.ref s.heap.objs.size, _, I.laid (t' := s.toks) (o := .lst (cutV xs lo hi)) (fun b ob q => Heap.get?_push_of_some _ q) (Nat.le_refl _) ?_, rfl, q _ (I.hok.fresh (Nat.le_refl _))⟩
  exact ⟨Nat.le_trans (cutV_length xs lo hi) hz, _, 0, (r.drop (HT.sIx xs.length 0 lo)).take (HT.sIx xs.length xs.length hi - HT.sIx xs.length 0 lo), Heap.get?_push_size _ rfl⟩


def flatV : V → Bool
  | .non => true
  | .bl _ => true
  | .int _ => true
  | .str _ => true
  | _ => false

def eqV : V → V → Bool
  | .non, .non => true
  | .bl a, .bl b => a == b
  | .bl a, .int b => (if a then 1 else 0) == b
  | .int a, .bl b => a == (if b then 1 else 0)
  | .int a, .int b => a == b
  | .str a, .str b => a == b
  | _, _ => false
theorem eqAt_V {A : Around} {s : Shared} {y x : V} {u v : Value} (ry : RelV y u) (rx : RelV x v) (fy : flatV y = true) (fx : flatV x = true) : SeqAt.EqAt A s u v (eqV y x) := by
  cases y with
  | non =>
    cases ry
    cases x with
    | non => cases rx; exact SeqAt.EqAt.same _
    | bl b => cases rx; exact SeqAt.EqAt.none_bool b
    | int b => obtain ⟨t, rfl⟩ := rx; exact SeqAt.EqAt.none_int b t
    | str b => obtain ⟨t, rfl⟩ := rx; exact SeqAt.EqAt.none_str b t
    | _ => exact absurd (show false = true from fx) Bool.false_ne_true
  | bl a =>
    cases ry
    cases x with
    | non => cases rx; exact SeqAt.EqAt.bool_none a
    | bl b => cases rx; exact SeqAt.EqAt.bool_bool a b
    | int b => obtain ⟨t, rfl⟩ := rx; exact SeqAt.EqAt.bool_int a b t
    | str b => obtain ⟨t, rfl⟩ := rx; exact SeqAt.EqAt.bool_str a b t
    | _ => exact absurd (show false = true from fx) Bool.false_ne_true
  | int a =>
    obtain ⟨t', rfl⟩ := ry
    cases x with
    | non => cases rx; exact SeqAt.EqAt.int_none a t'
    | bl b => cases rx; exact SeqAt.EqAt.int_bool a t' b
    | int b => obtain ⟨t, rfl⟩ := rx; exact SeqAt.EqAt.int_int a t' b t
    | str b => obtain ⟨t, rfl⟩ := rx; exact SeqAt.EqAt.int_str a t' b t
    | _ => exact absurd (show false = true from fx) Bool.false_ne_true
  | str a =>
    obtain ⟨t', rfl⟩ := ry
    cases x with
    | non => cases rx; exact SeqAt.EqAt.str_none a t'
    | bl b => cases rx; exact SeqAt.EqAt.str_bool a t' b
    | int b => obtain ⟨t, rfl⟩ := rx; exact SeqAt.EqAt.str_int a t' b t
    | str b => obtain ⟨t, rfl⟩ := rx; exact SeqAt.EqAt.str_str a t' b t
    | _ => exact absurd (show false = true from fx) Bool.false_ne_true
  | _ => exact absurd (show false = true from fy) Bool.false_ne_true

def eqU (x : V) (u : Value) : Bool := match u with
  | .none => eqV .non x
  | .bool b => eqV (.bl b) x
  | .int i _ => eqV (.int i) x
  | .str z _ => eqV (.str z) x
  | _ => false
theorem eqU_of {x y : V} {u : Value} (r : RelV y u) (f : flatV y = true) : eqU x u = eqV y x := by
  cases y with
  | non => cases r; rfl
  | bl b => cases r; rfl
  | int i => obtain ⟨t, rfl⟩ := r; rfl
  | str z => obtain ⟨t, rfl⟩ := r; rfl
  | _ => exact absurd (show false = true from f) Bool.false_ne_true
theorem any_eqU {x : V} : ∀ {xs : List V} {us : List Value}, Vals xs us → xs.all flatV = true → us.any (eqU x) = xs.any fun y => eqV y x
  | _, _, .nil, _ => rfl
  | y :: xs, u :: us, .cons r t, f => by
    rw [List.all_cons, Bool.and_eq_true] at f
    rw [List.any_cons, List.any_cons, eqU_of r f.1, any_eqU t f.2]
theorem mem_eqAt {A : Around} {s : Shared} {x : V} {v : Value} (rx : RelV x v) (fx : flatV x = true) : ∀ {xs : List V} {us : List Value}, Vals xs us → xs.all flatV = true → ∀ u ∈ us, SeqAt.EqAt A s u v (eqU x u)
  | _, _, .nil, _ => fun u hu => by cases hu
  | y :: xs, u :: us, .cons r t, f => fun u' hu => by
    rw [List.all_cons, Bool.and_eq_true] at f
    rcases List.mem_cons.mp hu with rfl | hu
    · rw [eqU_of r f.1]; exact eqAt_V r rx f.1 fx
    · exact mem_eqAt rx fx t f.2 u' hu
def inV (x : V) (xs : List V) : Bool := xs.any fun y => eqV y x

def rIn (K : PySem.W.Frag) (neg : Bool) : R2 := fun x y H Q => ∃ p xs, y = .ref p ∧ (SqL K H p xs ∨ SqT K H p xs) ∧ flatV x = true ∧ xs.all flatV = true ∧ Q (.bl (if neg then !inV x xs else inV x xs)) H
theorem op_in_seq : OpR X (compareOp .In) (rIn X.K false) := by
  intro pins s σ H x y v u Q I rx ry h
  obtain ⟨p, xs, rfl, hq, fx, fs, q⟩ := h
  cases ry
  rcases hq with hq | hq
  · obtain ⟨its, r, pl, hz⟩ := I.list hq
    refine SeqAt.in_listAt (eqU x) pl.isList (fun w hw => mem_eqAt rx fx r fs w (by simpa using hw)) ⟨.bl _, H, I, rfl, ?_⟩
    rw [show its.toArray.any (eqU x) = its.any (eqU x) by simp, any_eqU r fs]
    exact q
  · obtain ⟨its, r, pl, hz⟩ := I.tuple hq
    refine SeqAt.in_tupleAt (eqU x) pl (fun w hw => mem_eqAt rx fx r fs w (by simpa using hw)) ⟨.bl _, H, I, rfl, ?_⟩
    rw [show its.toArray.any (eqU x) = its.any (eqU x) by simp, any_eqU r fs]
    exact q
theorem call_len_seq : CallR X (.builtin "len") (fun xs H Q => ∃ p ys, xs = [.ref p] ∧ (SqL X.K H p ys ∨ SqT X.K H p ys) ∧ Q (.int ys.length) H) := by
  intro pins s σ H xs us Q I r h
  obtain ⟨p, ys, rfl, hq, q⟩ := h
  obtain ⟨u, rfl, rx⟩ := vals1 r
  cases rx
  have hn := line63
  rcases hq with hq | hq
  · obtain ⟨its, r', pl, hz⟩ := I.list hq
    have hlen := r'.length
    exact Calls.call_len_list pl.isList (by simp only [List.size_toArray] <;> omega) ⟨.int ys.length, H, I.tok _, ⟨s.toks + 1, by rw [List.size_toArray, hlen]⟩, q⟩
  · obtain ⟨its, r', pl, hz⟩ := I.tuple hq
    have hlen := r'.length
    exact len_tuple pl (by simp only [List.size_toArray] <;> omega) ⟨.int ys.length, H, I.tok _, ⟨s.toks + 1, by rw [List.size_toArray, hlen]⟩, q⟩
theorem call_tuple_of : CallR X (.type "tuple") (fun xs H Q => ∃ p ys, xs = [.ref p] ∧ ((SqL X.K H p ys ∧ ∀ l, H l = none → Q (.ref l) (upd H l (.tup ys))) ∨ (SqT X.K H p ys ∧ Q (.ref p) H))) := by
  intro pins s σ H xs us Q I r h
  obtain ⟨p, ys, rfl, h⟩ := h
  obtain ⟨u, rfl, rx⟩ := vals1 r
  cases rx
  rcases h with ⟨hq, q⟩ | ⟨hq, q⟩
  · obtain ⟨its, r', pl, hz⟩ := I.list hq
    have hlen := r'.length
    refine call_tuple_list pl.isList (fun h' kp => ?_) (by simp only [List.size_toArray] <;> omega)
    have I1 : Inv X pins σ H { s with heap := h' } := I.kept (t' := s.toks) kp
    have I2 : Inv X pins σ (upd H h'.objs.size (.tup ys)) { s with heap := h'.push { cls := .type "tuple", data := .seq its.toArray } } :=
      I1.laid (t' := s.toks) (fun b o e => Heap.get?_push_of_some _ e) (Nat.le_refl _) (show ObjOk X.prog X.w _ _ _ (.tup ys) from ⟨hz, its, r', IsTup.new _ _⟩)
    exact ⟨.ref h'.objs.size, _, I2, rfl, q _ (I1.hok.fresh (Nat.le_refl _))⟩
  · obtain ⟨its, r', pl, hz⟩ := I.tuple hq
    exact call_tuple_same pl ⟨.ref p, H, I, rfl, q⟩



def tyV (K : PySem.W.Frag) (T : String) (x : V) (H : Hp) : Prop := match x with
  | .str _ => T = "str"
  | .int _ => T = "int"
  | .ref p => (T = "list" ∧ ∃ xs, SqL K H p xs) ∨ (T = "tuple" ∧ ∃ o, K.lookup p = some o ∧ o.cls = .type "tuple" ∧ o.dict = none) ∨
      (T = "dict" ∧ ((∃ kvs, H p = some (.dK kvs)) ∨ ∃ kvs, H p = some (.dT kvs))) ∨ (T = "set" ∧ ∃ S n, H p = some (.set S n))
  | _ => False
theorem tyV_is {pins : List (Addr × Obj)} {σ : St} {H : Hp} {s : Shared} {T : String} {x : V} {v : Value} (I : Inv X pins σ H s) (r : RelV x v) (ty : tyV X.K T x H) :
    s.TypeIs v T ∧ ∀ a, v = .ref a → ∃ ob, s.heap.get? a = some ob ∧ ob.dict = none := by
  cases x with
  | str z =>
    obtain ⟨t, rfl⟩ := r
    cases (show T = "str" from ty)
    exact ⟨typeIs_str s z t, fun _ e => nomatch e⟩
  | int i =>
    obtain ⟨t, rfl⟩ := r
    cases (show T = "int" from ty)
    exact ⟨typeIs_int s i t, fun _ e => nomatch e⟩
  | ref p =>
    cases r
    rcases ty with ⟨rfl, xs, hq⟩ | ⟨rfl, o, hk, hc, hd⟩ | ⟨rfl, hk⟩ | ⟨rfl, S, n, hk⟩
    · obtain ⟨its, _, pl, _⟩ := I.list hq
      refine ⟨pl.isList.typeIs, fun a e => ?_⟩
      cases e
      obtain ⟨o, n, e, c, hd, _⟩ := pl
      exact ⟨o, e, hd⟩
    · refine ⟨⟨o, I.kIn p o hk, hc⟩, fun a e => ?_⟩
      cases e
      exact ⟨o, I.kIn _ o hk, hd⟩
    · have z : ∃ o, s.heap.get? p = some o ∧ o.ExactDict := by
        rcases hk with ⟨kvs, hk⟩ | ⟨kvs, hk⟩
        · obtain ⟨_, _, _, _, o, _, _, e, ex, _⟩ := I.hok p _ hk
          exact ⟨o, e, ex⟩
        · obtain ⟨_, _, _, _, o, _, _, e, ex, _⟩ := I.hok p _ hk
          exact ⟨o, e, ex⟩
      obtain ⟨o, e, ex⟩ := z
      refine ⟨⟨o, e, ex.1⟩, fun a e2 => ?_⟩
      cases e2
      exact ⟨o, e, ex.2.1⟩
    · obtain ⟨o, _, _, _, e, ex, _⟩ := I.hok p _ hk
      refine ⟨⟨o, e, ex.1⟩, fun a e2 => ?_⟩
      cases e2
      exact ⟨o, e, ex.2.1⟩
  | _ => exact False.elim ty
def tBM (K : PySem.W.Frag) (T : String) (r : V → List V → Hp → VK → Prop) (to : TE) (t : TA) : TE := fun σ H Q => to σ H fun x H1 => tyV K T x H1 ∧ t σ H1 fun xs H2 => r x xs H2 Q
variable {o e : Expr} {es : List Expr} {to : TE} {t : TA} {name : Str} {apos cpos : Pos} {T id : String} {r : V → List V → Hp → VK → Prop}
theorem pe_bm (pa : PlainAttrs T) (slot : Slot T name id) (hty : typeOf (.builtin id) = pure (.type "method_descriptor")) (hm : MtR X id r) (ho : PE X o to) (ha : PA X (e :: es) t)
    (hbase : attributeBase o name X.env (eval o X.env) = eval o X.env := by rfl)
    (hfew : ((backTo cpos (starEach (e :: es) X.env)).all (fun x => !x.1) && (backToKw cpos (keywordEach [] X.env)).all (fun x => x.1.isSome)
      && decide ((e :: es).length + ([] : List Keyword).length + (if ([] : List Keyword).isEmpty then 0 else 1) < 30)) = true := by rfl)
    (hline : (apos.endLine == cpos.line) = true := by rfl) (hs : starEach (e :: es) X.env = (false, eval e X.env) :: starEach es X.env := by rfl) (hplain : (backTo cpos (starEach es X.env)).any (·.1) = false := by rfl) :
    PE X (.Call (.Attribute o name apos) (e :: es) [] cpos) (tBM X.K T r to t) := by
  intro pins s σ H Q I h
  refine wpAny_Call_method_late hbase hfew hline rfl (thn (ho pins s σ H _ I h) fun v s1 ⟨x, H1, I1, r1, ty, q1⟩ => ?_)
  obtain ⟨h1, h2⟩ := tyV_is I1 r1 ty
  refine ⟨T, id, pa, slot, hty, h1, h2, ?_⟩
  have hA := ha cpos pins s1 σ H1 _ I1 q1
  rw [hs] at hA ⊢
  refine Calls.callWith_builtin (by show (false || (backTo cpos (starEach es X.env)).any (·.1)) = false; rw [hplain] <;> rfl) (Calls.evalArgs_plain ?_)
  exact thn hA fun us s2 ⟨vs, H2, I2, r2, q2⟩ => hm pins s2 σ H2 x vs v us Q I2 r1 r2 q2

end
end L2

namespace L2
open PySem PySem.Spec PyProof.Rows

def MtM (X : Cx) (id : String) (r : V → List V → Hp → VK → Prop) : Prop :=
  ∀ (pins : List (Addr × Obj)) (s : Shared) (σ : St) (H : Hp) (x : V) (xs : List V) (v : Value) (us : List Value) (Q : VK), Inv X pins σ H s → RelV x v → Vals xs us → r x xs H Q →
    wpAny (model X.prog X.w) X.A (call (.builtin id) (v :: us)) (EP X pins σ Q) X.xe s


theorem Vals.one : ∀ {x : V} {us : List Value}, Vals [x] us → ∃ u, us = [u] ∧ RelV x u
  | _, _, .cons r .nil => ⟨_, rfl, r⟩
theorem Vals.two : ∀ {x y : V} {us : List Value}, Vals [x, y] us → ∃ u v, us = [u, v] ∧ RelV x u ∧ RelV y v
  | _, _, _, .cons r (.cons q .nil) => ⟨_, _, rfl, r, q⟩
section
variable {X : Cx} {pins : List (Addr × Obj)} {σ : St} {H : Hp} {s : Shared} {l b : Addr} {xs ys zs : List V}


theorem Inv.lset {its its' : List Value} {n : Nat} {f : Array Value → Array Value} {t' : Nat} (I : Inv X pins σ H s) (hH : H l = some (.lst xs))
    (e : s.heap.get? l = some { cls := .type "list", data := .seq its.toArray n }) (hf : f its.toArray = its'.toArray) (hv : Vals ys its') (hz : ys.length ≤ sizeLine) :
    Inv X pins σ (upd H l (.lst ys)) { s with heap := s.heap.update l (Obj.mapSeq f), toks := t' } := by
  have q := PySem.IsL.update e f
  rw [hf] at q
  refine I.write (x := l) (e := l) (by rw [hH]; exact trivial) (.inl rfl) (fun b' u hb hu => (Heap.get?_update_other s.heap (Obj.mapSeq f) (Ne.symm hb)).trans hu) ⟨_, q⟩ ?_
  exact ⟨hz, its', _, hv, q⟩
theorem Inv.lnew {its : List Value} {t' : Nat} (I : Inv X pins σ H s) (hv : Vals ys its) (hz : ys.length ≤ sizeLine) :
    Inv X pins σ (upd H s.heap.objs.size (.lst ys)) { s with heap := s.heap.push { cls := .type "list", data := .seq its.toArray }, toks := t' } :=
  I.laid (fun _ _ q => Heap.get?_push_of_some _ q) (Nat.le_refl _) ⟨hz, its, 0, hv, Heap.get?_push_size _ rfl⟩
theorem Inv.fresh (I : Inv X pins σ H s) : H s.heap.objs.size = none := I.hok.fresh (Nat.le_refl _)
theorem Inv.lstM (I : Inv X pins σ H s) (hH : H l = some (.lst xs)) : xs.length ≤ sizeLine ∧ ∃ (its : List Value) (n : Nat), Vals xs its ∧ xs.length = its.length ∧ s.heap.get? l = some { cls := .type "list", data := .seq its.toArray n } := by
  obtain ⟨z, its, n, r, e⟩ := I.hok l _ hH
  exact ⟨z, its, n, r, r.length, e⟩

theorem notLongL {n : Nat} (h : n ≤ sizeLine) : Builtin.List.listTooLong n = false := by
  unfold Builtin.List.listTooLong
  exact decide_eq_false (by omega)
end

section
variable {X : Cx}


def rAppend : V → List V → Hp → VK → Prop := fun x vs H Q => ∃ l xs y, x = .ref l ∧ vs = [y] ∧ H l = some (.lst xs) ∧ xs.length < sizeLine ∧ Q .non (upd H l (.lst (xs ++ [y])))
theorem mt_append : MtM X "list.append" rAppend := by
  intro pins s σ H x vs v us Q I rx rv h
  obtain ⟨l, xs, y, rfl, rfl, hH, hz, q⟩ := h
  cases rx
  obtain ⟨u, rfl, ru⟩ := rv.one
  obtain ⟨z, its, n, r, hl, e⟩ := I.lstM hH
  refine call_meets F.slot_list_append ⟨_, e, rfl⟩ F.entry_list_append (F.args_list_append_2 _ _) (PySem.list_append l its.toArray n u (by rw [List.size_toArray]; omega)) ⟨e, ?_⟩
  refine ⟨.non, _, I.lset (its' := its ++ [u]) hH e (by simp) (r.append (.cons ru .nil)) ?_, rfl, q⟩
  rw [List.length_append, List.length_singleton]
  omega

def rExtend : V → List V → Hp → VK → Prop := fun x vs H Q => ∃ l b xs zs, x = .ref l ∧ vs = [.ref b] ∧ H l = some (.lst xs) ∧ H b = some (.lst zs) ∧ xs.length + zs.length ≤ sizeLine ∧ Q .non (upd H l (.lst (xs ++ zs)))
theorem mt_extend : MtM X "list.extend" rExtend := by
  intro pins s σ H x vs v us Q I rx rv h
  obtain ⟨l, b, xs, zs, rfl, rfl, hH, hB, hz, q⟩ := h
  cases rx
  obtain ⟨u, rfl, ru⟩ := rv.one
  cases ru
  obtain ⟨z, its, n, r, hl, e⟩ := I.lstM hH
  obtain ⟨z2, its2, n2, r2, hl2, e2⟩ := I.lstM hB
  have hsz : its.toArray.size + its2.toArray.size ≤ sizeLine := by rw [List.size_toArray, List.size_toArray]; omega
  have hlong : ¬ (!its.toArray.isEmpty && Builtin.List.listTooLong (its.toArray.size + its2.toArray.size)) = true := by
    rw [notLongL hsz, Bool.and_false]
    exact Bool.false_ne_true
  refine call_meets F.slot_list_extend ⟨_, e, rfl⟩ F.entry_list_extend (F.args_list_extend_2 _ _)
    (AutoSeq1.list_extend_list_list_0 l its.toArray n b its2.toArray n2 hlong (by rw [List.size_toArray]; omega) (by omega)) ⟨e, e2, ?_⟩
  refine ⟨.non, _, I.lset (its' := its ++ its2) hH e (by simp) (r.append r2) ?_, rfl, q⟩
  rw [List.length_append]
  omega

end


section
variable {prog : Program} {w : World} {A : Around} {E : Value → Shared → Prop} {s : Shared}
end

section
variable {X : Cx}

end
end L2

namespace Att
open PySem PySem.W PySem.Calls PyProof.Rows


theorem ints_of_wellAll {P : Params} {h : Heap} : ∀ (ns : List Int) (vs : List Value), WellAll P h vs (ns.map WData.int) → IntsAre vs ns := by
  intro ns
  induction ns with
  | nil =>
    intro vs w
    rw [List.map_nil] at w
    cases w
    exact .nil
  | cons n ns ih =>
    intro vs w
    rw [List.map_cons] at w
    cases w with
    | cons a b =>
      cases a
      exact .cons _ _ (ih _ b)

theorem script_of {l : OpenLaw} {n : Nat} (hn : l.most = some n) {P : Params} {h : Heap} {args : List WData} {vals : List Value}
    (hpre : l.row.toRowW.claim.pre args = true) (hwl : WellAll P h vals args) :
    ∃ a vs ns, vals = [Value.ref a] ∧ args = [WData.list (ns.map WData.int)] ∧ h.get? a = some { cls := .type "list", data := .seq vs.toArray } ∧ IntsAre vs ns ∧ ns.length ≤ n := by
  have hsh : WShape.hasAll [] args [.list .int] = true := (pre_splitW hpre).1
  have hc : l.pre.holds [] { args := args } = true := (pre_splitW hpre).2
  obtain ⟨d, r, rfl, h1, h2⟩ := hasAllW_cons hsh
  obtain rfl := hasAllW_nil h2
  obtain ⟨xs, rfl, h3⟩ := hasW_list h1
  obtain ⟨ns, rfl⟩ := items_int h3
  have hlen : ns.length ≤ n := by
    unfold OpenLaw.pre at hc
    have h4 : (WTm.not (.lt (.lit (.int (n : Int))) (.len (.arg 0)))).holds [] { args := [.list (ns.map .int)] } = true := by
      have h4 := (holds_andW hc).1
      rw [hn] at h4
      exact h4
    have h5 := condW_of h4 (w_not (w_lt w_lit (w_len_list (w_arg rfl))))
    rw [List.length_map] at h5
    refine Nat.le_of_not_lt fun q => ?_
    have q' : (n : Int) < ((ns.length : Nat) : Int) := by omega
    first
      | (rw [decide_eq_true q'] at h5; exact absurd h5 (by decide))
      | (simp at h5; omega)
  cases hwl with
  | cons w1 w2 =>
    cases w2
    cases w1 with
    | list ho hall => exact ⟨_, _, ns, rfl, rfl, ho, ints_of_wellAll ns _ hall, hlen⟩

theorem post_true (l : OpenLaw) (args : List WData) : l.row.toRowW.claim.post args (.bool true) args = true :=
  postW_of (r := l.row.toRowW) (X := (true == true))
    (show WShape.has [] (.bool true) .bool = true by first | rfl | decide | simp [WShape.has, WShape.arms, WShape.armsAll])
    (show (WTm.eq .res (.lit (.bool true))).value [] { args := args, res := some (.bool true), after := args } = some (.bool (true == true)) from w_eq_bool (w_res rfl) w_lit) rfl


theorem attach_call {l : OpenLaw} {n : Nat} {q : Program} {loose : List Str} {XP : (Str → Option Value) → Heap → Prop} {YP : World → Heap → Prop} {d : DefRec}
    (hn : l.most = some n) (hdf : d.params.defaults = [])
    (call : ∀ (w : World) (s₀ s₁ : Shared) (mg mb : Str → Option Value) (fa : Addr) (o : Obj) (pm cd doc : Value) (a : Addr) (vs : List Value) (ns : List Int),
      Ground q loose [] XP w s₀ mg mb s₁.heap → YP w s₁.heap →
      s₁.heap.get? fa = some o → o.data = .func (docDef d.name d.params d.body d.scope pm cd doc) → s₁.heap.CodeRec cd d.name → mg d.name = some (.ref fa) →
      s₁.heap.get? a = some { cls := .type "list", data := .seq vs.toArray } → IntsAre vs ns → ns.length ≤ n → s₁.gens = #[] →
      codeAny (model l.prog w) callerA (.call (.ref fa) ⟨[.ref a], []⟩) (fun r s' => r = .ok (.ret (.bool true)) ∧ OldK s₁.heap s'.heap ∧ s'.os = s₁.os ∧ AllBare s'.gens) s₁) :
    WalkO q loose XP YP l.row.toRowW d [] (fun f vs => PySem.call f vs) := by
  intro w s₀ s₁ mg mb G Y fa o pm cd doc dV kV ho hd hcd hD hmg hg args vals as hpre hlay hrd hwl hlo
  obtain rfl : dV = .none := Dflts.none hD hdf
  obtain rfl : kV = .none := Dflts.noKw hD
  obtain ⟨a, vs, ns, rfl, rfl, hobj, hints, hlen⟩ := script_of hn hpre hwl
  refine enter_call (codeAny_mono (call w s₀ s₁ mg mb fa o pm cd doc a vs ns G Y ho (fd_plain hd) hcd hmg hobj hints hlen hg) fun r s' hq => ?_)
  obtain ⟨rfl, h2, h3, h4⟩ := hq
  exact ⟨.inl ⟨.bool true, .bool true, [], rfl, fun _ => rfl, .bool true, post_true l _, fun _ => ⟨List.Pairwise.nil, fun _ hm => (nomatch hm)⟩⟩, h2, h3, h4⟩


section
variable {prog : Program} {w : World} {A : Around} {E : Value → Shared → Prop} {s : Shared} {K : Frag}


end
end Att

namespace L2
open PySem PySem.Spec PyProof.Rows

theorem vals_ints : ∀ {vs : List Value} {ns : List Int}, IntsAre vs ns → Vals (ns.map V.int) vs
  | _, _, .nil => .nil
  | _, _, .cons n t h => .cons ⟨t, rfl⟩ (vals_ints h)


def Only (H : Hp) : Prop := ∀ b, H b = none ∨ ∃ o xs, H b = some (.frz o (.lst xs))


theorem law_call {P : Program} {w : World} {K : PySem.W.Frag} {mg mb : Str → Option Value} {CX : CXT} {k : Nat} {fa a : Addr} {fd : FuncData} {x : Str} {sp : Sp} {s₁ : Shared} {vs : List Value} {ns : List Int}
    (KX : K.In s₁.heap) (hns : s₁.heap.Ns mainGlobals mg) (hb : s₁.heap.Ns builtinsNs mb) (hbb : ∀ x : Str, x ≠ "__name__" → mb x = bootBuiltins x) (hlim : s₁.heap.NoLimit) (hg : s₁.gens = #[])
    (ha : s₁.heap.get? a = some { cls := .type "list", data := .seq vs.toArray }) (hi : IntsAre vs ns) (hl : ns.length ≤ sizeLine) (hr : Room k callerA)
    (F : ∀ base : Heap, K.In base → base.Ns mainGlobals mg → FnOk P w K mg base CX k fa fd [x] sp) (hbind : ∀ (s : Shared) (u : Value), BindsTo s fd ⟨[u], []⟩ [(x, u)])
    (hsp : ∀ H : Hp, Only H → SqL K H a (ns.map V.int) → sp [.ref a] H (fun v _ => v = .bl true) fun _ _ _ => False)
    (hCX : ∀ H e s', CX [] H s₁ (fun _ _ _ => False) e s' → False) :
    codeAny (model P w) callerA (.call (.ref fa) ⟨[.ref a], []⟩) (fun r s' => r = .ok (.ret (.bool true)) ∧ OldK s₁.heap s'.heap ∧ s'.os = s₁.os ∧ AllBare s'.gens) s₁ := by
  have rv := vals_ints hi
  have lenV := hi.length
  -- from an abstract heap in which nothing but the script may be tracked
  have core : ∀ H : Hp, Only H → SqL K H a (ns.map V.int) → HOk P w H s₁.heap → (∀ b, H b ≠ none → b = a) → (H a ≠ none → K.lookup a = none) →
      codeAny (model P w) callerA (.call (.ref fa) ⟨[.ref a], []⟩) (fun r s' => r = .ok (.ret (.bool true)) ∧ OldK s₁.heap s'.heap ∧ s'.os = s₁.os ∧ AllBare s'.gens) s₁ := by
    intro H hO hS hok hA hK
    have base_of : ∀ {b : Addr} {o : Obj}, s₁.heap.get? b = some o → H b = none → (hidT s₁.heap H).get? b = some o := fun e n => hidT_get e n
    have noA : ∀ {b : Addr} {o : Obj} {es : Array DictEntry} {ep : Nat}, s₁.heap.get? b = some o → o.data = .dict es ep → H b = none := fun {b o es ep} e d => by
      cases q : H b with
      | none => rfl
      | some u =>
        have e' : b = a := hA b (by rw [q]; simp)
        subst e'
        rw [ha] at e; cases e
        have d' : Data.seq vs.toArray _ = Data.dict es ep := d
        cases d'
    have nsK : ∀ {b : Addr} {m : Str → Option Value}, s₁.heap.Ns b m → (hidT s₁.heap H).Ns b m := fun {b m} ⟨o, es, ep, e, d, r⟩ => ⟨o, es, ep, base_of e (noA e d), d, r⟩
    have hKb : K.In (hidT s₁.heap H) := fun b o e => base_of (KX b o e) (by
      cases q : H b with
      | none => rfl
      | some u =>
        have e' : b = a := hA b (by rw [q]; simp)
        subst e'
        rw [hK (by rw [q]; simp)] at e; cases e)
    have hM : Mod K mg (hidT s₁.heap H) := ⟨hKb, nsK hns, ⟨mb, nsK hb, hbb⟩, let ⟨mc, h1, h2⟩ := hlim; ⟨mc, nsK h1, h2⟩⟩
    have e0 : Env0 P w K mg (hidT s₁.heap H) callerA [] s₁ H := ⟨rfl, hM, fun b o e => of_hidT e, Nat.le_of_eq (hidT_size _ _), trivial, fun b hb => absurd (show b ∈ ([] : List Addr) from hb) (by simp), hok, .of_eq hg⟩
    refine codeAny_mono ((F _ hKb (nsK hns)).run callerA [] s₁ H ⟨[.ref a], []⟩ [.ref a] [.ref a] _ _ hr e0 (hbind s₁ (.ref a)) (.cons rfl .nil) (hsp H hO hS)) fun r s' h => ?_
    cases r with
    | error e => exact (hCX H e s' h).elim
    | ok fl =>
      cases fl with
      | next => exact False.elim h
      | brk => exact False.elim h
      | cont => exact False.elim h
      | ret u =>
        obtain ⟨v, H', os, bare, un, hok', r', q⟩ := h
        have q' : v = .bl true := q
        subst q'
        obtain rfl : u = Value.bool true := r'
        refine ⟨rfl, OldK.of_keep fun b o e => ?_, os, bare⟩
        cases q : H b with
        | none => exact un.keep b o e q (by intro z; exact absurd (show b ∈ ([] : List Addr) from z) (by simp)) (by simp)
        | some u =>
          rcases hO b with z | ⟨ob, xs, z⟩
          · rw [q] at z; cases z
          · have z2 := un.frzs b ob _ z
            obtain ⟨e1, _⟩ := hok b _ z
            obtain ⟨e2, _⟩ := hok' b _ z2
            rw [e] at e1; cases e1
            exact e2
  cases hk : K.lookup a with
  | some o =>
    -- the script is one of the module's own objects
    have e := KX a o hk
    rw [ha] at e
    cases e
    refine core (fun _ => none) (fun _ => .inl rfl) (.inr ⟨_, vs.toArray, _, hk, rfl, rfl, rfl, by rw [List.size_toArray, lenV]; exact hl, by simpa using rv⟩) (fun b u z => by have z' : (none : Option HO) = some u := z; cases z') (fun b z => absurd rfl z) fun z => absurd rfl z
  | none =>
    refine core (fun b => if b = a then some (.frz { cls := .type "list", data := .seq vs.toArray } (.lst (ns.map V.int))) else none) (fun b => ?_) (.inl (.inr ⟨{ cls := .type "list", data := .seq vs.toArray }, if_pos rfl⟩)) (fun b u z => ?_) (fun b z => ?_) fun _ => hk
    · by_cases hb : b = a
      · exact .inr ⟨_, _, if_pos hb⟩
      · exact .inl (if_neg hb)
    · by_cases hb : b = a
      · have z' := (if_pos hb).symm.trans z
        cases z'
        subst hb
        exact ⟨ha, by rw [List.length_map]; exact hl, vs, _, rv, ha⟩
      · have z' := (if_neg hb).symm.trans z
        cases z'
    · by_cases hb : b = a
      · exact hb
      · exact absurd (if_neg hb) z
end L2

namespace L2
open PySem PySem.Spec PyProof.Rows

theorem walk_of {l : PySem.W.OpenLaw} {n k : Nat} {q : Program} {loose : List Str} {XP : (Str → Option Value) → Heap → Prop} {YP : World → Heap → Prop} {d : DefRec} {K : Params → PySem.W.Frag} {CX : World → CXT} {sp : World → Sp} {x : Str}
    (hn : l.most = some n) (hn2 : n ≤ sizeLine) (hdf : d.params.defaults = []) (hr : Room k callerA)
    (hY : ∀ (w : World) (h : Heap), YP w h → (K w.params).In h)
    (F : ∀ (w : World) (mg : Str → Option Value) (fa : Addr) (h : Heap), (K w.params).In h → h.Ns mainGlobals mg → mg d.name = some (.ref fa) →
      ∃ fd : FuncData, (∀ (s : Shared) (u : Value), BindsTo s fd ⟨[u], []⟩ [(x, u)]) ∧
        ∀ base : Heap, (K w.params).In base → base.Ns mainGlobals mg → FnOk l.prog w (K w.params) mg base (CX w) k fa fd [x] (sp w))
    (hsp : ∀ (w : World) (H : Hp) (a : Addr) (ns : List Int), ns.length ≤ n → Only H → SqL (K w.params) H a (ns.map V.int) → sp w [.ref a] H (fun v _ => v = .bl true) fun _ _ _ => False)
    (hCX : ∀ (w : World) (H : Hp) (s : Shared) (e : Value) (s' : Shared), CX w [] H s (fun _ _ _ => False) e s' → False) :
    PySem.W.WalkO q loose XP YP l.row.toRowW d [] (fun f vs => PySem.call f vs) := by
  refine Att.attach_call hn hdf fun w s₀ s₁ mg mb fa o pm cd doc a vs ns G Y ho hd hcd hmg hobj hints hlen hg => ?_
  have KX := hY w _ Y
  obtain ⟨fd, hb, hF⟩ := F w mg fa _ KX G.T.g hmg
  exact law_call KX G.T.g G.T.b G.T.builtins G.T.nolimit hg hobj hints (Nat.le_trans hlen hn2) hr hF hb (fun H hO hS => hsp w H a ns hlen hO hS) fun H e s' => hCX w H s₁ e s'

end L2




namespace L2
open PySem PySem.Spec PyProof.Rows





abbrev CX0 : CXT := fun _ _ _ _ _ _ => False
abbrev E0 : XK := fun _ _ _ => False
theorem pass0 {X : Cx} : Passes CX0 X E0 := fun _ _ _ _ _ _ _ h => h.elim


structure Fun (K : PySem.W.Frag) (x qual : Str) (st : Stmt) (f : Addr) (fd : FuncData) : Prop where
  ex : ∃ (oc : Value) (od : Option Addr) (kV doc pm : Value) (an : Option Addr) (cdv ct : Value) (osl : Array (Option Value)),
    fd = PySem.W.fnOf x qual (defArgs st) (defBody st) (defScope st) .none kV doc pm an cdv ct ∧ K.lookup f = some ⟨oc, od, .func fd, osl⟩ ∧ PySem.W.codeIn K cdv qual = true
  kp : PySem.W.keepIn K (.ref f) = true
section
variable {P : Program} {w : World} {K : PySem.W.Frag} {mg : Str → Option Value} {base : Heap}

theorem Fun.ok {x qual : Str} {st : Stmt} {f : Addr} {fd : FuncData} {N ps : List Str} {k : Nat} {sp : Sp} (F : Fun K x qual st f fd) (S : FnScope N ps (defScope st)) (len : ∀ vs H Q E, sp vs H Q E → vs.length = ps.length)
    (hbody : ∀ (cdv : Value) (A : Around) (outer : List Env) (s : Shared) (H : Hp) (vs : List V) (Q : VK) (E : XK), Room k (A.deeper (envOfC qual (defScope st) s.heap.objs.size f cdv)) → sp vs H Q E →
      ∃ t, PSs (cxOf CX0 P w K mg base N qual (defScope st) f cdv A outer s H E).nox (defBody st) t ∧ t { nx := fun _ H' => Q .non H', rt := Q } (start N vs) H) : FnOk P w K mg base CX0 (k + 1) f fd ps sp := by
  obtain ⟨oc, od, kV, doc, pm, an, cdv, ct, osl, rfl, lk, hcd⟩ := F.ex
  refine fn_of lk hcd S len fun A outer s H vs Q E hr hsp => ?_
  obtain ⟨t, h, q⟩ := hbody cdv A outer s H vs Q E hr hsp
  exact ⟨t, h.nox, q⟩

theorem Fun.binds {x qual : Str} {st : Stmt} {f : Addr} {fd : FuncData} {ps : List Str} (F : Fun K x qual st f fd)
    (h : ∀ (kV doc pm : Value) (an : Option Addr) (cdv ct : Value) (us : List Value), us.length = ps.length → bindArgs (PySem.W.fnOf x qual (defArgs st) (defBody st) (defScope st) .none kV doc pm an cdv ct) ⟨us, []⟩ = pure (ps.zip us)) : Binds K fd ps [] := by
  obtain ⟨oc, od, kV, doc, pm, an, cdv, ct, osl, rfl, lk, hcd⟩ := F.ex
  exact .all (h kV doc pm an cdv ct)
theorem fun_mk {x qual : Str} {st : Stmt} {f : Addr} {oc : Value} {od an : Option Addr} {osl : Array (Option Value)} {kV doc pm cdv ct : Value} (l : K.lookup f = some ⟨oc, od, .func (PySem.W.fnOf x qual (defArgs st) (defBody st) (defScope st) .none kV doc pm an cdv ct), osl⟩)
    (c : PySem.W.codeIn K cdv qual = true) (k : PySem.W.keepIn K (.ref f) = true) : Fun K x qual st f (PySem.W.fnOf x qual (defArgs st) (defBody st) (defScope st) .none kV doc pm an cdv ct) := ⟨⟨oc, od, kV, doc, pm, an, cdv, ct, osl, rfl, l, c⟩, k⟩
end
theorem small1000 {n : Nat} (h : n ≤ 1000) : n < sizeLine := Nat.lt_of_le_of_lt h (by decide)


section
variable {X : Cx}
theorem pv (i : Nat) {x : Str} {pos : Pos} (hN : X.N[i]? = some x := by rfl) (hv : Vis X.env.scope x := by first | exact Or.inl rfl | exact Or.inr (Or.inl rfl) | exact Or.inr (Or.inr rfl)) (hd : (x == ("__debug__" : Str)) = false := by decide)
    (hcd : (x == ("__classdict__" : Str)) = false := by decide) : PE X (.Name x pos) (tVar i) := pe_var hN hv hd hcd
end


theorem iteF {A B : Prop} (h : B) : if false = true then A else B := by
  rw [if_neg Bool.false_ne_true]
  exact h
theorem iteT {A B : Prop} (h : A) : if true = true then A else B := by
  rw [if_pos rfl]
  exact h
theorem ite2 {c A B : Prop} [Decidable c] (h1 : c → A) (h2 : ¬ c → B) : if c then A else B := by
  by_cases h : c
  · rw [if_pos h]
    exact h1 h
  · rw [if_neg h]
    exact h2 h
def Same (H H' : Hp) : Prop := ∀ b o, H b = some o → H' b = some o
theorem Same.refl (H : Hp) : Same H H := fun _ _ h => h
theorem Same.trans {H H1 H2 : Hp} (a : Same H H1) (b : Same H1 H2) : Same H H2 := fun c o h => b c o (a c o h)
theorem Same.free {H H' : Hp} (e : Same H H') {l : Addr} (h : H' l = Option.none) : H l = Option.none := by
  cases q : H l with
  | none => rfl
  | some o =>
    rw [e l o q] at h
    cases h
theorem Same.seq {K : PySem.W.Frag} {H H' : Hp} {a : Addr} {xs : List V} (e : Same H H') (h : SqL K H a xs) : SqL K H' a xs := by
  rcases h with (h | ⟨o, h⟩) | h
  · exact .inl (.inl (e _ _ h))
  · exact .inl (.inr ⟨o, e _ _ h⟩)
  · exact .inr h

end L2
set_option maxHeartbeats 4000000
namespace SO
open PySem PyProof PyProof.Rows

section
variable {M : Model} {A : Around} {E : Value → Shared → Prop} {s : Shared} {O : KeyOrd} {ky : Keyed → O.α} {κ : SortKind} {a₀ : Array Keyed}
def Cmp (M : Model) (A : Around) (s : Shared) (O : KeyOrd) (ky : Keyed → O.α) (κ : SortKind) (a₀ : Array Keyed) : Prop := ∀ x ∈ a₀.toList, ∀ y ∈ a₀.toList, ∀ (Q : Bool → Shared → Prop) (E : Value → Shared → Prop), Q (O.blt (ky x) (ky y)) s → wpAny M A (keyLt' κ x.1 y.1) Q E s
def dK : Keyed := (Value.none, Value.none)
def kk (ky : Keyed → O.α) (xs : Array Keyed) (i : Nat) : O.α := ky (xs[i]?.getD dK)
structure SB (κ : SortKind) (a₀ : Array Keyed) (st : SortSt) : Prop where
  perm : (arrOf st).Perm a₀
  kind : kindOf st = κ
  failed : failedOf st = none
theorem SB.size {st : SortSt} (h : SB κ a₀ st) : (arrOf st).size = a₀.size := h.perm.size_eq
theorem SB.set {st : SortSt} (h : SB κ a₀ st) {xs : Array Keyed} (hp : xs.Perm (arrOf st)) : SB κ a₀ (setArr st xs) := ⟨hp.trans h.perm, h.kind, h.failed⟩
theorem SB.mem {st : SortSt} (h : SB κ a₀ st) {x : Keyed} (hx : x ∈ (arrOf st).toList) : x ∈ a₀.toList := (Array.perm_iff_toList_perm.mp h.perm).mem_iff.mp hx
theorem SB.at {st : SortSt} (h : SB κ a₀ st) {i : Nat} (hi : i < a₀.size) : ∃ x, (arrOf st)[i]? = some x ∧ x ∈ a₀.toList ∧ kk ky (arrOf st) i = ky x := by
  have hi' : i < (arrOf st).size := by rw [h.size]; exact hi
  have e : (arrOf st)[i]? = some (arrOf st)[i] := getElem?_pos _ i hi'
  refine ⟨_, e, h.mem (by simp), ?_⟩
  unfold kk
  rw [e]
  rfl
theorem wpS_lt {st : SortSt} {x y : Keyed} {Q : Option Bool → SortSt → Prop} (hC : Cmp M A s O ky κ a₀) (hx : x ∈ a₀.toList) (hy : y ∈ a₀.toList) (hk : kindOf st = κ) (h : Q (some (O.blt (ky x) (ky y))) st) : wpS M A E s (lt' x y) Q st := by
  rw [lt'_eq]
  refine wpS_bind (wpS_get ?_)
  rw [hk]
  refine wpS_bind (wpS_lift (wpAny_attempt (hC x hx y hy _ _ ⟨rfl, ?_⟩)))
  exact wpS_pure h
theorem wpS_elem {st : SortSt} {arr : Array Keyed} {i : Nat} {x : Keyed} {Q : Keyed → SortSt → Prop} (hi : arr[i]? = some x) (h : Q x st) : wpS M A E s (elem' arr i) Q st := by
  rw [elem'_eq, hi]
  exact wpS_pure h
theorem wpS_ltA {st : SortSt} {i j : Nat} {Q : Option Bool → SortSt → Prop} (hC : Cmp M A s O ky κ a₀) (hB : SB κ a₀ st) (hi : i < a₀.size) (hj : j < a₀.size) (h : Q (some (O.blt (kk ky (arrOf st) i) (kk ky (arrOf st) j))) st) : wpS M A E s (ltAt' i j) Q st := by
  obtain ⟨x, e1, hx, k1⟩ := hB.at (ky := ky) hi
  obtain ⟨y, e2, hy, k2⟩ := hB.at (ky := ky) hj
  rw [k1, k2] at h
  rw [ltAt'_eq]
  refine wpS_bind (wpS_get ?_)
  exact wpS_bind (wpS_elem e1 (wpS_bind (wpS_elem e2 (wpS_lt hC hx hy hB.kind h))))
theorem kk_congr {xs ys : Array Keyed} {i j : Nat} (h : xs[i]? = ys[j]?) : kk ky xs i = kk ky ys j := by unfold kk; rw [h]
theorem kk_bubble {xs : Array Keyed} {src d : Nat} (hs : src < xs.size) (hd : d ≤ src) (k : Nat) : kk ky (bubble xs src d) k = if k = src - d then kk ky xs src else if src - d < k ∧ k ≤ src then kk ky xs (k - 1) else kk ky xs k := by
  have e := getElem?_bubble hs d hd k
  by_cases h1 : k = src - d
  · rw [if_pos h1] at e ⊢; exact kk_congr e
  · rw [if_neg h1] at e ⊢
    by_cases h2 : src - d < k ∧ k ≤ src
    · rw [if_pos h2] at e ⊢; exact kk_congr e
    · rw [if_neg h2] at e ⊢; exact kk_congr e
theorem kk_mirror {xs : Array Keyed} {i j : Nat} (hj : j ≤ xs.size) (k : Nat) : kk ky (mirror xs i j ((j - i) / 2)) k = if i ≤ k ∧ k < j then kk ky xs (i + j - 1 - k) else kk ky xs k := by
  have e := getElem?_mirror_all (i := i) hj k
  by_cases h1 : i ≤ k ∧ k < j
  · rw [if_pos h1] at e ⊢; exact kk_congr e
  · rw [if_neg h1] at e ⊢; exact kk_congr e
theorem kk_mirror_equal {xs : Array Keyed} {i j : Nat} (hj : j ≤ xs.size) (heq : ∀ k, i ≤ k → k < j → kk ky xs k = kk ky xs (j - 1)) (k : Nat) : kk ky (mirror xs i j ((j - i) / 2)) k = kk ky xs k := by
  rw [kk_mirror hj]
  split
  · rw [heq _ (by omega) (by omega), heq k (by omega) (by omega)]
  · rfl

def Ag (xs ys : Array Keyed) (lo hi : Nat) : Prop := ∀ k, k < lo ∨ hi ≤ k → ys[k]? = xs[k]?
theorem Ag.refl (xs : Array Keyed) (lo hi : Nat) : Ag xs xs lo hi := fun _ _ => rfl
theorem Ag.trans {xs ys zs : Array Keyed} {lo hi : Nat} (a : Ag xs ys lo hi) (b : Ag ys zs lo hi) : Ag xs zs lo hi := fun k h => (b k h).trans (a k h)
theorem Ag.mirror {xs : Array Keyed} {i j lo hi : Nat} (hj : j ≤ xs.size) (h1 : lo ≤ i) (h2 : j ≤ hi) : Ag xs (mirror xs i j ((j - i) / 2)) lo hi := fun k h => by
  rw [getElem?_mirror_all hj, if_neg (by omega)]
theorem Ag.bubble {xs : Array Keyed} {src d lo hi : Nat} (hs : src < xs.size) (hd : d ≤ src) (h1 : lo ≤ src - d) (h2 : src < hi) : Ag xs (bubble xs src d) lo hi := fun k h => by
  rw [getElem?_bubble hs d hd, if_neg (by omega), if_neg (by omega)]
def Up (ky : Keyed → O.α) (xs : Array Keyed) (lo n : Nat) : Prop := ∀ i j, i ≤ j → j < n → O.kle (kk ky xs (lo + i)) (kk ky xs (lo + j))
def Dn (ky : Keyed → O.α) (xs : Array Keyed) (lo n : Nat) : Prop := ∀ i j, i ≤ j → j < n → O.kle (kk ky xs (lo + j)) (kk ky xs (lo + i))

def ascL (lo a nrem : Nat) : StateT SortSt Sem AscSt :=
  forIn [a:nrem] ((none, a) : AscSt) fun _ __s => do
    let __x ← ltAt' (lo + __s.snd) (lo + __s.snd - 1)
    match __x with
    | some smaller => if smaller = true then pure (ForInStep.done (none, __s.snd)) else pure (ForInStep.yield (none, __s.snd + 1))
    | _ => pure (ForInStep.done (some none, __s.snd))
def tailL (lo n nrem : Nat) : StateT SortSt Sem (Option Nat) := do
  reverseSlice' lo (lo + n)
  let __s ← ascL lo n nrem
  match __s.fst with
  | some r => pure r
  | none => pure (some __s.snd)
def descL (lo n nrem : Nat) : StateT SortSt Sem DescSt :=
  forIn [n:nrem] ((none, n, 0) : DescSt) fun _ __s => do
    let __x ← ltAt' (lo + __s.snd.fst) (lo + __s.snd.fst - 1)
    match __x with
    | some smaller =>
      if smaller = true then
        if __s.snd.snd > 0 then do
          reverseSlice' (lo + __s.snd.fst - (__s.snd.snd + 1)) (lo + __s.snd.fst)
          pure (ForInStep.yield (none, __s.snd.fst + 1, 0))
        else pure (ForInStep.yield (none, __s.snd.fst + 1, 0))
      else do
        let __x ← ltAt' (lo + __s.snd.fst - 1) (lo + __s.snd.fst)
        match __x with
        | some larger =>
          if larger = true then pure (ForInStep.done (none, __s.snd.fst, __s.snd.snd))
          else pure (ForInStep.yield (none, __s.snd.fst + 1, __s.snd.snd + 1))
        | _ => pure (ForInStep.done (some none, __s.snd.fst, __s.snd.snd))
    | _ => pure (ForInStep.done (some none, __s.snd.fst, __s.snd.snd))
def partL (lo n nrem : Nat) : StateT SortSt Sem (Option Nat) := do
  liftM (rule "list.sort.descending-run")
  let __s ← descL lo (n + 1) nrem
  match __s.fst with
  | some r => pure r
  | none =>
    if __s.snd.snd > 0 then do
      reverseSlice' (lo + __s.snd.fst - (__s.snd.snd + 1)) (lo + __s.snd.fst)
      tailL lo __s.snd.fst nrem
    else tailL lo __s.snd.fst nrem
theorem bcong {α β : Type} {m m' : StateT SortSt Sem α} {f g : α → StateT SortSt Sem β} (h : m = m') (h' : ∀ x, f x = g x) : (m >>= f) = (m' >>= g) := by rw [h, show f = g from funext h']
theorem tailL_eq (lo n nrem : Nat) : tailL lo n nrem = (do
    reverseSlice' lo (lo + n)
    let mut n := n
    for _ in [n:nrem] do
      let some smaller ← ltAt' (lo + n) (lo + n - 1) | return none
      if smaller then break
      n := n + 1
    return some n) := by
  unfold tailL ascL
  refine bcong rfl fun _ => bcong rfl fun s3 => ?_
  obtain ⟨r3, n3⟩ := s3
  cases r3 <;> rfl
theorem partL_eq (lo n nrem : Nat) : partL lo n nrem = (do
  let mut n := n
  rule "list.sort.descending-run"
  n := n + 1
  let mut neq := 0
  for _ in [n:nrem] do
    let some smaller ← ltAt' (lo + n) (lo + n - 1) | return none
    if smaller then
      if neq > 0 then reverseSlice' (lo + n - (neq + 1)) (lo + n)
      neq := 0
    else
      let some larger ← ltAt' (lo + n - 1) (lo + n) | return none
      if larger then break
      neq := neq + 1
    n := n + 1
  if neq > 0 then reverseSlice' (lo + n - (neq + 1)) (lo + n)
  tailL lo n nrem) := by
  unfold partL descL
  refine bcong rfl fun _ => bcong rfl fun s3 => ?_
  obtain ⟨r3, n3, q3⟩ := s3
  cases r3 <;> rfl
theorem countL_eq (lo nrem : Nat) : countRun' lo nrem = (do
    let __s ← ascL lo 1 nrem
    match __s.fst with
    | some r => pure r
    | none =>
      if (__s.snd == nrem) = true then pure (some __s.snd)
      else if __s.snd > 1 then do
        let __x ← ltAt' lo (lo + __s.snd - 1)
        match __x with
        | some rose => if rose = true then pure (some __s.snd) else do
            reverseSlice' lo (lo + __s.snd)
            partL lo __s.snd nrem
        | _ => pure none
      else partL lo __s.snd nrem) := by
  rw [countRun'_eq]
  refine bcong (by unfold ascL; rfl) fun __s => ?_
  obtain ⟨r, n⟩ := __s
  cases r with
  | some r => rfl
  | none =>
    dsimp only
    split
    · rfl
    · split
      · refine bcong rfl fun x => ?_
        cases x with
        | none => rfl
        | some rose =>
          dsimp only
          split
          · rfl
          · refine bcong rfl fun _ => ?_
            rw [partL_eq]
            simp only [tailL_eq]
            rfl
      · rw [partL_eq]
        simp only [tailL_eq]
        rfl
end
end SO
namespace SO
open PySem PyProof PyProof.Rows
section
variable {M : Model} {A : Around} {E : Value → Shared → Prop} {s : Shared} {O : KeyOrd} {ky : Keyed → O.α} {κ : SortKind} {a₀ : Array Keyed}
theorem wpS_rev {st : SortSt} {i j : Nat} {Q : Unit → SortSt → Prop} (h : Q () (setArr st (mirror (arrOf st) i j ((j - i) / 2)))) : wpS M A E s (reverseSlice' i j) Q st := by
  rw [reverseSlice'_eq]; exact wpS_modify h

structure Kp (κ : SortKind) (a₀ : Array Keyed) (lo hi : Nat) (st st' : SortSt) : Prop where
  sb : SB κ a₀ st'
  ag : Ag (arrOf st) (arrOf st') lo hi
  pend : pendingOf st' = pendingOf st
theorem Kp.refl {lo hi : Nat} {st : SortSt} (h : SB κ a₀ st) : Kp κ a₀ lo hi st st := ⟨h, Ag.refl _ _ _, rfl⟩
theorem Kp.trans {lo hi : Nat} {st st' st'' : SortSt} (a : Kp κ a₀ lo hi st st') (b : Kp κ a₀ lo hi st' st'') : Kp κ a₀ lo hi st st'' := ⟨b.sb, a.ag.trans b.ag, b.pend.trans a.pend⟩
theorem Kp.mirror {lo hi i j : Nat} {st st' : SortSt} (a : Kp κ a₀ lo hi st st') (hj : j ≤ a₀.size) (h1 : lo ≤ i) (h2 : j ≤ hi) : Kp κ a₀ lo hi st (setArr st' (mirror (arrOf st') i j ((j - i) / 2))) :=
  a.trans ⟨a.sb.set (mirror_perm _ _ _ _), Ag.mirror (by rw [a.sb.size]; exact hj) h1 h2, rfl⟩
theorem wpS_ascL {st : SortSt} {lo a nrem : Nat} {Q : AscSt → SortSt → Prop} (hC : Cmp M A s O ky κ a₀) (hn : lo + nrem ≤ a₀.size) (ha : 1 ≤ a) (han : a ≤ nrem) (hB : SB κ a₀ st) (hs : Up ky (arrOf st) lo a)
    (h : ∀ n, a ≤ n → n ≤ nrem → Up ky (arrOf st) lo n → (n = nrem ∨ O.klt (kk ky (arrOf st) (lo + n)) (kk ky (arrOf st) (lo + n - 1))) → Q (none, n) st) : wpS M A E s (ascL lo a nrem) Q st := by
  unfold ascL
  refine wpS_forRange (I := fun x c st' => st' = st ∧ c = (none, x) ∧ Up ky (arrOf st) lo x) ?step ?fin ⟨rfl, rfl, hs⟩
  case fin =>
    rintro c st' ⟨rfl, rfl, hs'⟩
    rw [show max a nrem = nrem by omega] at hs' ⊢
    exact h nrem han (Nat.le_refl _) hs' (.inl rfl)
  case step =>
    rintro x c st' hax hxn ⟨rfl, rfl, hs'⟩
    dsimp only
    refine wpS_bind (wpS_ltA (ky := ky) hC hB (by omega) (by omega) ?_)
    cases hless : O.blt (kk ky (arrOf st') (lo + x)) (kk ky (arrOf st') (lo + x - 1))
    case true =>
      simp only [if_true]
      exact wpS_pure (h x hax (by omega) hs' (.inr hless))
    case false =>
      simp only [Bool.false_eq_true, if_false]
      refine wpS_pure ⟨rfl, rfl, fun i j hij hj => ?_⟩
      by_cases hjx : j < x
      · exact hs' i j hij hjx
      · have hj' : j = x := by omega
        subst hj'
        by_cases hi' : i = j
        · subst hi'; exact KeyOrd.kle_refl _
        · refine KeyOrd.kle_trans (hs' i (j - 1) (by omega) (by omega)) ?_
          rw [show lo + (j - 1) = lo + j - 1 by omega]
          exact hless
theorem wpS_tailL {st₀ st : SortSt} {lo n nrem : Nat} {Q : Option Nat → SortSt → Prop} (hC : Cmp M A s O ky κ a₀) (hn : lo + nrem ≤ a₀.size) (h1 : 1 ≤ n) (hnn : n ≤ nrem) (hB : Kp κ a₀ lo (lo + nrem) st₀ st) (hs : Dn ky (arrOf st) lo n)
    (h : ∀ m st', Kp κ a₀ lo (lo + nrem) st₀ st' → 1 ≤ m → m ≤ nrem → Up ky (arrOf st') lo m → Q (some m) st') : wpS M A E s (tailL lo n nrem) Q st := by
  unfold tailL
  have hsz : lo + n ≤ (arrOf st).size := by rw [hB.sb.size]; omega
  refine wpS_bind (wpS_rev ?_)
  have hB' := hB.mirror (i := lo) (j := lo + n) (by omega) (by omega) (by omega)
  refine wpS_bind (wpS_ascL hC hn h1 hnn hB'.sb ?_ fun m hm1 hm2 hsm _ => wpS_pure (h m _ hB' (by omega) hm2 hsm))
  intro i j hij hj
  show O.kle (kk ky (mirror (arrOf st) lo (lo + n) ((lo + n - lo) / 2)) (lo + i)) (kk ky (mirror (arrOf st) lo (lo + n) ((lo + n - lo) / 2)) (lo + j))
  rw [kk_mirror hsz, kk_mirror hsz, if_pos (by omega), if_pos (by omega)]
  have := hs (n - 1 - j) (n - 1 - i) (by omega) (by omega)
  rw [show lo + (n - 1 - i) = lo + (lo + n) - 1 - (lo + i) by omega, show lo + (n - 1 - j) = lo + (lo + n) - 1 - (lo + j) by omega] at this
  exact this
theorem wpS_descL {st₀ st : SortSt} {lo n nrem : Nat} {Q : DescSt → SortSt → Prop} (hC : Cmp M A s O ky κ a₀) (hn : lo + nrem ≤ a₀.size) (h1 : 1 ≤ n) (hnn : n ≤ nrem) (hB : Kp κ a₀ lo (lo + nrem) st₀ st) (hs : Dn ky (arrOf st) lo n)
    (h : ∀ m neq st', Kp κ a₀ lo (lo + nrem) st₀ st' → n ≤ m → m ≤ nrem → Dn ky (arrOf st') lo m → neq + 1 ≤ m → (∀ i, lo + m - (neq + 1) ≤ i → i < lo + m → kk ky (arrOf st') i = kk ky (arrOf st') (lo + m - 1)) → Q (none, m, neq) st') : wpS M A E s (descL lo n nrem) Q st := by
  unfold descL
  refine wpS_forRange (I := fun x c st' => ∃ neq, c = (none, x, neq) ∧ Kp κ a₀ lo (lo + nrem) st₀ st' ∧ Dn ky (arrOf st') lo x ∧ neq + 1 ≤ x ∧
      (∀ i, lo + x - (neq + 1) ≤ i → i < lo + x → kk ky (arrOf st') i = kk ky (arrOf st') (lo + x - 1))) ?step ?fin ⟨0, rfl, hB, hs, by omega, fun i h1 h2 => by congr 1; omega⟩
  case fin =>
    rintro c st' ⟨neq, rfl, hB', hs', hq, he⟩
    rw [show max n nrem = nrem by omega] at hs' hq he ⊢
    exact h nrem neq st' hB' hnn (Nat.le_refl _) hs' hq he
  case step =>
    rintro x c st' hax hxn ⟨neq, rfl, hB', hs', hq, he⟩
    dsimp only
    have hsz : lo + x ≤ (arrOf st').size := by rw [hB'.sb.size]; omega
    refine wpS_bind (wpS_ltA (ky := ky) hC hB'.sb (by omega) (by omega) ?_)
    cases hless : O.blt (kk ky (arrOf st') (lo + x)) (kk ky (arrOf st') (lo + x - 1))
    case true =>
      simp only [if_true]
      have step1 : ∀ xs : Array Keyed, (∀ k, kk ky xs k = kk ky (arrOf st') k) → Dn ky xs lo (x + 1) := by
        intro xs hk i j hij hj
        rw [hk, hk]
        by_cases hjx : j < x
        · exact hs' i j hij hjx
        · have hj' : j = x := by omega
          subst hj'
          by_cases hi' : i = j
          · subst hi'; exact KeyOrd.kle_refl _
          · refine KeyOrd.kle_trans (KeyOrd.kle_of_klt hless) ?_
            rw [show lo + j - 1 = lo + (j - 1) by omega]
            exact hs' i (j - 1) (by omega) (by omega)
      by_cases hneq : neq > 0
      · rw [if_pos hneq]
        refine wpS_bind (wpS_rev (wpS_pure ⟨0, rfl, hB'.mirror (by omega) (by omega) (by omega), step1 _ (kk_mirror_equal hsz he), by omega, fun i h1 h2 => by congr 1; omega⟩))
      · rw [if_neg hneq]
        exact wpS_pure ⟨0, rfl, hB', step1 _ (fun _ => rfl), by omega, fun i h1 h2 => by congr 1; omega⟩
    case false =>
      simp only [Bool.false_eq_true, if_false]
      refine wpS_bind (wpS_ltA (ky := ky) hC hB'.sb (by omega) (by omega) ?_)
      cases hlarger : O.blt (kk ky (arrOf st') (lo + x - 1)) (kk ky (arrOf st') (lo + x))
      case true =>
        simp only [if_true]
        exact wpS_pure (h x neq st' hB' hax (by omega) hs' hq he)
      case false =>
        simp only [Bool.false_eq_true, if_false]
        have heqx : kk ky (arrOf st') (lo + x) = kk ky (arrOf st') (lo + x - 1) := KeyOrd.kle_antisymm hlarger hless
        refine wpS_pure ⟨neq + 1, rfl, hB', fun i j hij hj => ?_, by omega, fun i h1 h2 => ?_⟩
        · by_cases hjx : j < x
          · exact hs' i j hij hjx
          · have hj' : j = x := by omega
            subst hj'
            by_cases hi' : i = j
            · subst hi'; exact KeyOrd.kle_refl _
            · rw [heqx, show lo + j - 1 = lo + (j - 1) by omega]; exact hs' i (j - 1) (by omega) (by omega)
        · rw [show lo + (x + 1) - 1 = lo + x by omega]
          by_cases hix : i = lo + x
          · subst hix; rfl
          · rw [heqx]; exact he i (by omega) (by omega)
theorem wpS_partL {st₀ st : SortSt} {lo n nrem : Nat} {Q : Option Nat → SortSt → Prop} (hC : Cmp M A s O ky κ a₀) (hn : lo + nrem ≤ a₀.size) (hnn : n + 1 ≤ nrem) (hB : Kp κ a₀ lo (lo + nrem) st₀ st) (hs : Dn ky (arrOf st) lo (n + 1))
    (h : ∀ m st', Kp κ a₀ lo (lo + nrem) st₀ st' → 1 ≤ m → m ≤ nrem → Up ky (arrOf st') lo m → Q (some m) st') : wpS M A E s (partL lo n nrem) Q st := by
  unfold partL
  refine wpS_bind (wpS_lift (wpAny_rule ⟨rfl, ?_⟩))
  refine wpS_bind (wpS_descL hC hn (by omega) hnn hB hs fun m neq st' hB' hm1 hm2 hs' hq he => ?_)
  dsimp only
  have hsz : lo + m ≤ (arrOf st').size := by rw [hB'.sb.size]; omega
  by_cases hneq : neq > 0
  · rw [if_pos hneq]
    refine wpS_bind (wpS_rev (wpS_tailL hC hn (by omega) hm2 (hB'.mirror (by omega) (by omega) (by omega)) ?_ h))
    intro i j hij hj
    show O.kle (kk ky (mirror (arrOf st') _ _ _) (lo + j)) (kk ky (mirror (arrOf st') _ _ _) (lo + i))
    rw [kk_mirror_equal hsz he, kk_mirror_equal hsz he]
    exact hs' i j hij hj
  · rw [if_neg hneq]
    exact wpS_tailL hC hn (by omega) hm2 hB' hs' h
theorem wpS_count {st : SortSt} {lo nrem : Nat} {Q : Option Nat → SortSt → Prop} (hC : Cmp M A s O ky κ a₀) (hn : lo + nrem ≤ a₀.size) (h1 : 1 ≤ nrem) (hB : SB κ a₀ st)
    (h : ∀ m st', Kp κ a₀ lo (lo + nrem) st st' → 1 ≤ m → m ≤ nrem → Up ky (arrOf st') lo m → Q (some m) st') : wpS M A E s (countRun' lo nrem) Q st := by
  rw [countL_eq]
  have hK : Kp κ a₀ lo (lo + nrem) st st := Kp.refl hB
  refine wpS_bind (wpS_ascL hC hn (Nat.le_refl 1) h1 hB (fun i j hij hj => by have : i = j := (by omega); subst this; exact KeyOrd.kle_refl _) fun n hn1 hn2 hsn hor => ?_)
  dsimp only
  by_cases hnn : n = nrem
  · rw [if_pos (by simpa using hnn)]
    exact wpS_pure (h n st hK hn1 hn2 hsn)
  · rw [if_neg (by simpa using hnn)]
    have hlt : O.klt (kk ky (arrOf st) (lo + n)) (kk ky (arrOf st) (lo + n - 1)) := hor.resolve_left hnn
    by_cases hgt : n > 1
    · rw [if_pos hgt]
      refine wpS_bind (wpS_ltA (ky := ky) hC hB (by omega) (by omega) ?_)
      cases hrose : O.blt (kk ky (arrOf st) lo) (kk ky (arrOf st) (lo + n - 1))
      case true =>
        simp only [if_true]
        exact wpS_pure (h n st hK hn1 hn2 hsn)
      case false =>
        simp only [Bool.false_eq_true, if_false]
        have hsz : lo + n ≤ (arrOf st).size := by rw [hB.size]; omega
        have hall : ∀ k, lo ≤ k → k < lo + n → kk ky (arrOf st) k = kk ky (arrOf st) (lo + n - 1) := by
          intro k hk0 hk
          have a1 := hsn 0 (k - lo) (by omega) (by omega)
          have a2 := hsn (k - lo) (n - 1) (by omega) (by omega)
          rw [show lo + (k - lo) = k by omega] at a1 a2
          rw [show lo + (n - 1) = lo + n - 1 by omega] at a2
          rw [Nat.add_zero] at a1
          exact KeyOrd.kle_antisymm a2 (KeyOrd.kle_trans hrose a1)
        refine wpS_bind (wpS_rev (wpS_partL hC hn (by omega) (hK.mirror (by omega) (by omega) (by omega)) ?_ h))
        intro i j hij hj
        show O.kle (kk ky (mirror (arrOf st) _ _ _) (lo + j)) (kk ky (mirror (arrOf st) _ _ _) (lo + i))
        rw [kk_mirror_equal hsz hall, kk_mirror_equal hsz hall]
        by_cases hjn : j < n
        · rw [hall (lo + i) (by omega) (by omega), hall (lo + j) (by omega) (by omega)]; exact KeyOrd.kle_refl _
        · have hj' : j = n := by omega
          subst hj'
          by_cases hi' : i = j
          · subst hi'; exact KeyOrd.kle_refl _
          · rw [hall (lo + i) (by omega) (by omega)]; exact KeyOrd.kle_of_klt hlt
    · rw [if_neg hgt]
      have hn1' : n = 1 := by omega
      subst hn1'
      refine wpS_partL hC hn (by omega) hK ?_ h
      intro i j hij hj
      by_cases hi' : i = j
      · subst hi'; exact KeyOrd.kle_refl _
      · have hi0 : i = 0 := by omega
        have hj1 : j = 1 := by omega
        subst hi0; subst hj1
        exact KeyOrd.kle_of_klt hlt
theorem wpS_bin {st : SortSt} {lo n ok : Nat} {Q : Bool → SortSt → Prop} (hC : Cmp M A s O ky κ a₀) (hn : lo + n ≤ a₀.size) (hok : ok ≤ n) (hB : SB κ a₀ st) (hs : Up ky (arrOf st) lo ok)
    (h : ∀ st', Kp κ a₀ lo (lo + n) st st' → Up ky (arrOf st') lo n → Q true st') : wpS M A E s (binarySort' lo n ok) Q st := by
  rw [binarySort'_eq]
  refine wpS_bind (wpS_mono (wpS_forRange (I := fun k c st' => c = (none, ()) ∧ Kp κ a₀ lo (lo + n) st st' ∧ Up ky (arrOf st') lo (min k n))
    (Q := fun c st' => c = (none, ()) ∧ Kp κ a₀ lo (lo + n) st st' ∧ Up ky (arrOf st') lo n) ?step ?fin ?init) ?post)
  case post =>
    rintro c st' ⟨rfl, hB', hs'⟩
    exact wpS_pure (h st' hB' hs')
  case init =>
    refine ⟨rfl, Kp.refl hB, fun i j hij hj => ?_⟩
    by_cases h1 : ok = 0
    · have : i = j := by omega
      subst this; exact KeyOrd.kle_refl _
    · exact hs i j hij (by omega)
  case fin =>
    rintro c st' ⟨hc, hB', hs'⟩
    refine ⟨hc, hB', ?_⟩
    rwa [show min (max (max ok 1) n) n = n by omega] at hs'
  case step =>
    rintro k c st' hak hkn ⟨rfl, hB', hs'⟩
    rw [show min k n = k by omega] at hs'
    have hk : lo + k < a₀.size := by omega
    refine wpS_bind (wpS_mono (wpS_forRange (I := fun x c st'' => st'' = st' ∧ ∃ l r, c = (none, l, r) ∧ l ≤ r ∧ r ≤ k ∧ r - l ≤ k - x ∧
        (∀ i, i < l → O.kle (kk ky (arrOf st') (lo + i)) (kk ky (arrOf st') (lo + k))) ∧ (∀ i, r ≤ i → i < k → O.klt (kk ky (arrOf st') (lo + k)) (kk ky (arrOf st') (lo + i))))
      (Q := fun c st'' => st'' = st' ∧ ∃ l r, c = (none, l, r) ∧ l ≤ k ∧
        (∀ i, i < l → O.kle (kk ky (arrOf st') (lo + i)) (kk ky (arrOf st') (lo + k))) ∧ (∀ i, l ≤ i → i < k → O.klt (kk ky (arrOf st') (lo + k)) (kk ky (arrOf st') (lo + i)))) ?istep ?ifin ?iinit) ?ipost)
    case iinit => exact ⟨rfl, 0, k, rfl, by omega, by omega, by omega, fun i hi => by omega, fun i h1 h2 => by omega⟩
    case ifin =>
      rintro c st'' ⟨rfl, l, r, rfl, hlr, hrk, hm, hlo, hhi⟩
      have : l = r := by omega
      subst this
      exact ⟨rfl, l, l, rfl, hrk, hlo, hhi⟩
    case istep =>
      rintro x c st'' _ hxk ⟨rfl, l, r, rfl, hlr, hrk, hm, hlo, hhi⟩
      dsimp only
      by_cases hge : l ≥ r
      · rw [if_pos hge]
        have : l = r := by omega
        subst this
        exact wpS_pure ⟨rfl, l, l, rfl, hrk, hlo, hhi⟩
      · rw [if_neg hge]
        refine wpS_bind (wpS_ltA (ky := ky) hC hB'.sb hk (by omega) ?_)
        cases hless : O.blt (kk ky (arrOf st'') (lo + k)) (kk ky (arrOf st'') (lo + (l + r) / 2))
        case true =>
          simp only [if_true]
          refine wpS_pure ⟨rfl, l, (l + r) / 2, rfl, by omega, by omega, by omega, hlo, fun i h1 h2 => ?_⟩
          exact KeyOrd.klt_of_klt_of_kle hless (hs' _ _ h1 h2)
        case false =>
          simp only [Bool.false_eq_true, if_false]
          refine wpS_pure ⟨rfl, (l + r) / 2 + 1, r, rfl, by omega, by omega, by omega, fun i h1 => ?_, hhi⟩
          exact KeyOrd.kle_trans (hs' i ((l + r) / 2) (by omega) (by omega)) (show O.kle _ _ from hless)
    case ipost =>
      rintro c st'' ⟨rfl, l, r, rfl, hlk, hlo, hhi⟩
      show wpS _ _ _ _ (do moveDown' (lo + k) (lo + l); pure (ForInStep.yield (none, ()))) _ _
      rw [moveDown'_eq]
      have hks : lo + k < (arrOf st'').size := by rw [hB'.sb.size]; exact hk
      refine wpS_bind (wpS_modify (wpS_pure ⟨rfl, hB'.trans ⟨hB'.sb.set (bubble_perm _ _ _), Ag.bubble hks (by omega) (by omega) (by omega), rfl⟩, ?_⟩))
      rw [show min (k + 1) n = k + 1 by omega]
      intro i j hij hj
      show O.kle (kk ky (bubble (arrOf st'') (lo + k) (lo + k - (lo + l))) (lo + i)) (kk ky (bubble (arrOf st'') (lo + k) (lo + k - (lo + l))) (lo + j))
      rw [kk_bubble hks (by omega), kk_bubble hks (by omega), show lo + k - (lo + k - (lo + l)) = lo + l by omega]
      have e1 : ∀ i, lo + l < lo + i → lo + i - 1 = lo + (i - 1) := fun i h => by omega
      repeat' split
      all_goals first
        | (exfalso; omega)
        | exact KeyOrd.kle_refl _
        | exact hlo _ (by omega)
        | (rw [e1 _ (by omega)]; exact KeyOrd.kle_of_klt (hhi _ (by omega) (by omega)))
        | exact hs' _ _ (by omega) (by omega)
        | (rw [e1 _ (by omega)]; exact hs' _ _ (by omega) (by omega))
        | (rw [e1 i (by omega), e1 j (by omega)]; exact hs' _ _ (by omega) (by omega))
end
end SO
namespace SO
open PySem PyProof PyProof.Rows
section
variable {M : Model} {A : Around} {E : Value → Shared → Prop} {s : Shared} {O : KeyOrd} {ky : Keyed → O.α} {κ : SortKind} {a₀ : Array Keyed}
def gallop' : Bool → Keyed → Array Keyed → Nat → Nat → Nat → StateT SortSt Sem (Option Nat) := sortPriv% PySem.Builtin.gallop
def bey (left : Bool) (key : Keyed) (arr : Array Keyed) (base i : Nat) : StateT SortSt Sem (Option Bool) := do
  let x ← elem' arr (base + i)
  if left then lt' x key else return (← lt' key x).map (!·)
def galU (beyond : Nat → StateT SortSt Sem (Option Bool)) (n hint : Nat) : StateT SortSt Sem (Option (Option Nat) × Nat × Nat) :=
  forIn [0:n] ((none, 0, 1) : Option (Option Nat) × Nat × Nat) fun _ c => do
    if c.2.2 ≥ n - hint then pure (ForInStep.done (none, c.2.1, c.2.2))
    else do
      let x ← beyond (hint + c.2.2)
      match x with
      | some more => if (!more) = true then pure (ForInStep.done (none, c.2.1, c.2.2)) else pure (ForInStep.yield (none, c.2.2, 2 * c.2.2 + 1))
      | _ => pure (ForInStep.done (some none, c.2.1, c.2.2))
def galD (beyond : Nat → StateT SortSt Sem (Option Bool)) (n hint : Nat) : StateT SortSt Sem (Option (Option Nat) × Nat × Nat) :=
  forIn [0:n] ((none, 0, 1) : Option (Option Nat) × Nat × Nat) fun _ c => do
    if c.2.2 ≥ hint + 1 then pure (ForInStep.done (none, c.2.1, c.2.2))
    else do
      let x ← beyond (hint - c.2.2)
      match x with
      | some found => if found = true then pure (ForInStep.done (none, c.2.1, c.2.2)) else pure (ForInStep.yield (none, c.2.2, 2 * c.2.2 + 1))
      | _ => pure (ForInStep.done (some none, c.2.1, c.2.2))
def galB (beyond : Nat → StateT SortSt Sem (Option Bool)) (n lo hi : Nat) : StateT SortSt Sem (Option Nat) := do
  let c ← forIn [0:n] ((none, lo, hi) : Option (Option Nat) × Nat × Nat) fun _ c => do
    if c.2.1 ≥ c.2.2 then pure (ForInStep.done (none, c.2.1, c.2.2))
    else do
      let x ← beyond (c.2.1 + (c.2.2 - c.2.1) / 2)
      match x with
      | some more => if more = true then pure (ForInStep.yield (none, c.2.1 + (c.2.2 - c.2.1) / 2 + 1, c.2.2)) else pure (ForInStep.yield (none, c.2.1, c.2.1 + (c.2.2 - c.2.1) / 2))
      | _ => pure (ForInStep.done (some none, c.2.1, c.2.2))
  match c.1 with
  | some r => pure r
  | none => pure (some c.2.2)
theorem gallop'_eq (left : Bool) (key : Keyed) (arr : Array Keyed) (base n hint : Nat) : gallop' left key arr base n hint = (do
    let x ← bey left key arr base hint
    match x with
    | some right =>
      if right = true then do
        let c ← galU (bey left key arr base) n hint
        match c.1 with
        | some r => pure r
        | none => galB (bey left key arr base) n (hint + c.2.1 + 1) (hint + min c.2.2 (n - hint))
      else do
        let c ← galD (bey left key arr base) n hint
        match c.1 with
        | some r => pure r
        | none => galB (bey left key arr base) n (hint + 1 - min c.2.2 (hint + 1)) (hint - c.2.1)
    | _ => pure none) := by
  refine bcong rfl fun x => ?_
  cases x with
  | none => rfl
  | some right =>
    cases right
    · refine bcong rfl fun c => ?_
      obtain ⟨r, l, o⟩ := c
      cases r with
      | some r => rfl
      | none =>
        unfold galB
        refine bcong rfl fun c => ?_
        obtain ⟨r, l, o⟩ := c
        cases r <;> rfl
    · refine bcong rfl fun c => ?_
      obtain ⟨r, l, o⟩ := c
      cases r with
      | some r => rfl
      | none =>
        unfold galB
        refine bcong rfl fun c => ?_
        obtain ⟨r, l, o⟩ := c
        cases r <;> rfl

structure Bd (P : Nat → Bool) (n k : Nat) : Prop where
  le : k ≤ n
  lo : ∀ i, i < k → P i = true
  hi : ∀ i, k ≤ i → i < n → P i = false
def Fal (P : Nat → Bool) (n : Nat) : Prop := ∀ i j, i ≤ j → j < n → P j = true → P i = true
def Asks (M : Model) (A : Around) (E : Value → Shared → Prop) (s : Shared) (st : SortSt) (b : Nat → StateT SortSt Sem (Option Bool)) (P : Nat → Bool) (n : Nat) : Prop := ∀ i, i < n → ∀ Q : Option Bool → SortSt → Prop, Q (some (P i)) st → wpS M A E s (b i) Q st
theorem wpS_galB {st : SortSt} {b : Nat → StateT SortSt Sem (Option Bool)} {P : Nat → Bool} {n lo hi : Nat} {Q : Option Nat → SortSt → Prop} (hb : Asks M A E s st b P n) (hF : Fal P n) (h1 : lo ≤ hi) (h2 : hi ≤ n) (hlo : ∀ i, i < lo → P i = true) (hhi : ∀ i, hi ≤ i → i < n → P i = false) (h : ∀ k, Bd P n k → Q (some k) st) : wpS M A E s (galB b n lo hi) Q st := by
  unfold galB
  refine wpS_bind (wpS_mono (wpS_forRange (I := fun x c st' => st' = st ∧ ∃ l r, c = (none, l, r) ∧ l ≤ r ∧ r ≤ n ∧ r - l ≤ n - x ∧ (∀ i, i < l → P i = true) ∧ (∀ i, r ≤ i → i < n → P i = false))
    (Q := fun c st' => st' = st ∧ ∃ l r, c = (none, l, r) ∧ Bd P n r) ?istep ?ifin ⟨rfl, lo, hi, rfl, h1, h2, by omega, hlo, hhi⟩) ?post)
  case post =>
    rintro c st' ⟨rfl, l, r, rfl, hB⟩
    exact wpS_pure (h r hB)
  case ifin =>
    rintro c st' ⟨rfl, l, r, rfl, a1, a2, a3, a4, a5⟩
    have : l = r := by omega
    subst this
    exact ⟨rfl, l, l, rfl, a2, a4, a5⟩
  case istep =>
    rintro x c st' _ hxn ⟨rfl, l, r, rfl, a1, a2, a3, a4, a5⟩
    dsimp only
    by_cases hge : l ≥ r
    · rw [if_pos hge]
      have : l = r := by omega
      subst this
      exact wpS_pure ⟨rfl, l, l, rfl, a2, a4, a5⟩
    · rw [if_neg hge]
      refine wpS_bind (hb _ (by omega) _ ?_)
      cases hp : P (l + (r - l) / 2)
      case true =>
        simp only [if_true]
        exact wpS_pure ⟨rfl, _, _, rfl, by omega, by omega, by omega, fun i hi => hF i _ (by omega) (by omega) hp, a5⟩
      case false =>
        simp only [Bool.false_eq_true, if_false]
        refine wpS_pure ⟨rfl, _, _, rfl, by omega, by omega, by omega, a4, fun i hi hn => ?_⟩
        cases hq : P i
        · rfl
        · rw [hF _ i hi hn hq] at hp; cases hp
theorem wpS_galU {st : SortSt} {b : Nat → StateT SortSt Sem (Option Bool)} {P : Nat → Bool} {n hint : Nat} {Q : Option (Option Nat) × Nat × Nat → SortSt → Prop} (hb : Asks M A E s st b P n) (hh : hint < n) (h0 : P hint = true) (h : ∀ l o, l < o → hint + l < n → P (hint + l) = true → (hint + o < n → P (hint + o) = false) → Q (none, l, o) st) : wpS M A E s (galU b n hint) Q st := by
  unfold galU
  refine wpS_forRange (I := fun x c st' => st' = st ∧ ∃ l o, c = (none, l, o) ∧ l < o ∧ x + 1 ≤ o ∧ hint + l < n ∧ P (hint + l) = true) ?istep ?ifin ⟨rfl, 0, 1, rfl, by omega, by omega, by omega, h0⟩
  case ifin =>
    rintro c st' ⟨rfl, l, o, rfl, a1, a2, a3, a4⟩
    exact h l o a1 a3 a4 (fun hn => by omega)
  case istep =>
    rintro x c st' _ hxn ⟨rfl, l, o, rfl, a1, a2, a3, a4⟩
    dsimp only
    by_cases hge : o ≥ n - hint
    · rw [if_pos hge]
      exact wpS_pure (h l o a1 a3 a4 (fun hn => by omega))
    · rw [if_neg hge]
      refine wpS_bind (hb _ (by omega) _ ?_)
      cases hp : P (hint + o)
      case true =>
        simp only [Bool.not_true, Bool.false_eq_true, if_false]
        exact wpS_pure ⟨rfl, _, _, rfl, by omega, by omega, by omega, hp⟩
      case false =>
        simp only [Bool.not_false, if_true]
        exact wpS_pure (h l o a1 a3 a4 (fun _ => hp))
theorem wpS_galD {st : SortSt} {b : Nat → StateT SortSt Sem (Option Bool)} {P : Nat → Bool} {n hint : Nat} {Q : Option (Option Nat) × Nat × Nat → SortSt → Prop} (hb : Asks M A E s st b P n) (hh : hint < n) (h0 : P hint = false) (h : ∀ l o, l < o → l ≤ hint → P (hint - l) = false → (o ≤ hint → P (hint - o) = true) → Q (none, l, o) st) : wpS M A E s (galD b n hint) Q st := by
  unfold galD
  refine wpS_forRange (I := fun x c st' => st' = st ∧ ∃ l o, c = (none, l, o) ∧ l < o ∧ x + 1 ≤ o ∧ l ≤ hint ∧ P (hint - l) = false) ?istep ?ifin ⟨rfl, 0, 1, rfl, by omega, by omega, by omega, h0⟩
  case ifin =>
    rintro c st' ⟨rfl, l, o, rfl, a1, a2, a3, a4⟩
    exact h l o a1 a3 a4 (fun hn => by omega)
  case istep =>
    rintro x c st' _ hxn ⟨rfl, l, o, rfl, a1, a2, a3, a4⟩
    dsimp only
    by_cases hge : o ≥ hint + 1
    · rw [if_pos hge]
      exact wpS_pure (h l o a1 a3 a4 (fun hn => by omega))
    · rw [if_neg hge]
      refine wpS_bind (hb _ (by omega) _ ?_)
      cases hp : P (hint - o)
      case false =>
        simp only [Bool.false_eq_true, if_false]
        exact wpS_pure ⟨rfl, _, _, rfl, by omega, by omega, by omega, hp⟩
      case true =>
        simp only [if_true]
        exact wpS_pure (h l o a1 a3 a4 (fun _ => hp))
theorem wpS_gal {st : SortSt} {left : Bool} {key : Keyed} {arr : Array Keyed} {base : Nat} {P : Nat → Bool} {n hint : Nat} {Q : Option Nat → SortSt → Prop} (hb : Asks M A E s st (bey left key arr base) P n) (hF : Fal P n) (hh : hint < n) (h : ∀ k, Bd P n k → Q (some k) st) : wpS M A E s (gallop' left key arr base n hint) Q st := by
  have no : ∀ i j, i ≤ j → j < n → P i = false → P j = false := fun i j a1 a2 a3 => by
    cases hq : P j
    · rfl
    · rw [hF i j a1 a2 hq] at a3; cases a3
  rw [gallop'_eq]
  refine wpS_bind (hb _ hh _ ?_)
  cases hp : P hint
  case true =>
    simp only [if_true]
    refine wpS_bind (wpS_galU hb hh hp fun l o a1 a2 a3 a4 => ?_)
    refine wpS_galB hb hF ?_ ?_ ?_ ?_ h
    · show hint + l + 1 ≤ hint + min o (n - hint)
      omega
    · show hint + min o (n - hint) ≤ n
      omega
    · exact fun i hi => hF i _ (by have : i < hint + l + 1 := hi; omega) a2 a3
    · intro i hi hn
      have hi' : hint + min o (n - hint) ≤ i := hi
      exact no (hint + o) i (by omega) hn (a4 (by omega))
  case false =>
    simp only [Bool.false_eq_true, if_false]
    refine wpS_bind (wpS_galD hb hh hp fun l o a1 a2 a3 a4 => ?_)
    refine wpS_galB hb hF ?_ ?_ ?_ ?_ h
    · show hint + 1 - min o (hint + 1) ≤ hint - l
      omega
    · show hint - l ≤ n
      omega
    · intro i hi
      have hi' : i < hint + 1 - min o (hint + 1) := hi
      exact hF i (hint - o) (by omega) (by omega) (a4 (by omega))
    · intro i hi hn
      have hi' : hint - l ≤ i := hi
      exact no _ i hi' hn a3

theorem wpS_galR {st : SortSt} {key : Keyed} {arr : Array Keyed} {base n hint : Nat} {Q : Option Nat → SortSt → Prop} (hC : Cmp M A s O ky κ a₀) (hk : kindOf st = κ) (hkey : key ∈ a₀.toList) (hm : ∀ i, i < n → ∃ x, arr[base + i]? = some x ∧ x ∈ a₀.toList) (hU : Up ky arr base n) (hh : hint < n) (h : ∀ k, k ≤ n → (∀ i, i < k → O.kle (kk ky arr (base + i)) (ky key)) → (∀ i, k ≤ i → i < n → O.klt (ky key) (kk ky arr (base + i))) → Q (some k) st) : wpS M A E s (gallop' false key arr base n hint) Q st := by
  refine wpS_gal (P := fun i => !(O.blt (ky key) (kk ky arr (base + i)))) ?_ ?_ hh fun k hB => h k hB.le (fun i hi => ?_) fun i hi hn => ?_
  · intro i hi Q' hQ
    obtain ⟨x, e, hx⟩ := hm i hi
    unfold bey
    have ek : kk ky arr (base + i) = ky x := by unfold kk; rw [e]; rfl
    dsimp only at hQ
    rw [ek] at hQ
    refine wpS_bind (wpS_elem e ?_)
    simp only [Bool.false_eq_true, if_false]
    exact wpS_bind (wpS_lt hC hkey hx hk (wpS_pure hQ))
  · intro i j hij hj hp
    have hp' : O.blt (ky key) (kk ky arr (base + j)) = false := by simpa using hp
    have : O.blt (ky key) (kk ky arr (base + i)) = false := KeyOrd.kle_trans (hU i j hij hj) hp'
    simp [this]
  · have := hB.lo i hi
    show O.blt _ _ = false
    simpa using this
  · have := hB.hi i hi hn
    show O.blt _ _ = true
    simpa using this
theorem wpS_galL {st : SortSt} {key : Keyed} {arr : Array Keyed} {base n hint : Nat} {Q : Option Nat → SortSt → Prop} (hC : Cmp M A s O ky κ a₀) (hk : kindOf st = κ) (hkey : key ∈ a₀.toList) (hm : ∀ i, i < n → ∃ x, arr[base + i]? = some x ∧ x ∈ a₀.toList) (hU : Up ky arr base n) (hh : hint < n) (h : ∀ k, k ≤ n → (∀ i, i < k → O.klt (kk ky arr (base + i)) (ky key)) → (∀ i, k ≤ i → i < n → O.kle (ky key) (kk ky arr (base + i))) → Q (some k) st) : wpS M A E s (gallop' true key arr base n hint) Q st := by
  refine wpS_gal (P := fun i => O.blt (kk ky arr (base + i)) (ky key)) ?_ ?_ hh fun k hB => h k hB.le (fun i hi => hB.lo i hi) fun i hi hn => hB.hi i hi hn
  · intro i hi Q' hQ
    obtain ⟨x, e, hx⟩ := hm i hi
    unfold bey
    have ek : kk ky arr (base + i) = ky x := by unfold kk; rw [e]; rfl
    dsimp only at hQ
    rw [ek] at hQ
    refine wpS_bind (wpS_elem e ?_)
    simp only [if_true]
    exact wpS_lt hC hx hkey hk hQ
  · intro i j hij hj hp
    exact KeyOrd.klt_of_kle_of_klt (hU i j hij hj) hp
end
end SO
namespace SO
open PySem PyProof PyProof.Rows
section
variable {M : Model} {A : Around} {E : Value → Shared → Prop} {s : Shared} {O : KeyOrd} {ky : Keyed → O.α} {κ : SortKind} {a₀ : Array Keyed}
def setMinGallop' : Nat → StateT SortSt Sem Unit := sortPriv% PySem.Builtin.setMinGallop
def mergeLo' : Array Keyed → Array Keyed → StateT SortSt Sem (Array Keyed) := sortPriv% PySem.Builtin.mergeLo
def mergeHi' : Array Keyed → Array Keyed → StateT SortSt Sem (Array Keyed) := sortPriv% PySem.Builtin.mergeHi
theorem setMinGallop'_eq (g : Nat) : setMinGallop' g = modify fun st => SortSt.mk' (kindOf st) (arrOf st) (pendingOf st) g (failedOf st) := rfl
theorem mergeLo'_eq (a b : Array Keyed) : mergeLo' a b = (do
  rule "list.sort.merge-lo"
  let total := a.size + b.size
  let done (out : Array Keyed) (ia ib : Nat) := out ++ a.extract ia a.size ++ b.extract ib b.size
  let lastOfA (out : Array Keyed) (ia ib : Nat) := out ++ b.extract ib b.size ++ a.extract ia a.size
  let mut out : Array Keyed := #[← elem' b 0]
  let mut ia := 0
  let mut ib := 1
  if ib == b.size then return done out ia ib
  if ia + 1 == a.size then return lastOfA out ia ib
  let mut minGallop := gallopOf (← get)
  for _ in [0:total] do
    let mut acount := 0
    let mut bcount := 0
    for _ in [0:total] do
      let some bWins ← lt' (← elem' b ib) (← elem' a ia) | return done out ia ib
      if bWins then
        out := out.push (← elem' b ib); ib := ib + 1; bcount := bcount + 1; acount := 0
        if ib == b.size then return done out ia ib
        if bcount ≥ minGallop then break
      else
        out := out.push (← elem' a ia); ia := ia + 1; acount := acount + 1; bcount := 0
        if ia + 1 == a.size then return lastOfA out ia ib
        if acount ≥ minGallop then break
    rule "list.sort.gallop"
    minGallop := minGallop + 1
    for _ in [0:total] do
      if minGallop > 1 then minGallop := minGallop - 1
      setMinGallop' minGallop
      let some k ← gallop' false (← elem' b ib) a ia (a.size - ia) 0 | return done out ia ib
      acount := k
      if k > 0 then
        out := out ++ a.extract ia (ia + k); ia := ia + k
        if ia + 1 == a.size then return lastOfA out ia ib
        if ia == a.size then return done out ia ib
      out := out.push (← elem' b ib); ib := ib + 1
      if ib == b.size then return done out ia ib
      let some k ← gallop' true (← elem' a ia) b ib (b.size - ib) 0 | return done out ia ib
      bcount := k
      if k > 0 then
        out := out ++ b.extract ib (ib + k); ib := ib + k
        if ib == b.size then return done out ia ib
      out := out.push (← elem' a ia); ia := ia + 1
      if ia + 1 == a.size then return lastOfA out ia ib
      if acount < 7 && bcount < 7 then break
    minGallop := minGallop + 1
    setMinGallop' minGallop
  unsupported "internal:list.sort.merge-bound") := rfl
theorem mergeHi'_eq (a b : Array Keyed) : mergeHi' a b = (do
  rule "list.sort.merge-hi"
  let total := a.size + b.size
  let done (out : Array Keyed) (na nb : Nat) := a.extract 0 na ++ b.extract 0 nb ++ out.reverse
  let firstOfB (out : Array Keyed) (na nb : Nat) := b.extract 0 nb ++ a.extract 0 na ++ out.reverse
  let mut na := a.size - 1
  let mut nb := b.size
  let mut out : Array Keyed := #[← elem' a na]
  if na == 0 then return done out na nb
  if nb == 1 then return firstOfB out na nb
  let mut minGallop := gallopOf (← get)
  for _ in [0:total] do
    let mut acount := 0
    let mut bcount := 0
    for _ in [0:total] do
      let some aWins ← lt' (← elem' b (nb - 1)) (← elem' a (na - 1)) | return done out na nb
      if aWins then
        na := na - 1; out := out.push (← elem' a na); acount := acount + 1; bcount := 0
        if na == 0 then return done out na nb
        if acount ≥ minGallop then break
      else
        nb := nb - 1; out := out.push (← elem' b nb); bcount := bcount + 1; acount := 0
        if nb == 1 then return firstOfB out na nb
        if bcount ≥ minGallop then break
    rule "list.sort.gallop"
    minGallop := minGallop + 1
    for _ in [0:total] do
      if minGallop > 1 then minGallop := minGallop - 1
      setMinGallop' minGallop
      let some at_ ← gallop' false (← elem' b (nb - 1)) a 0 na (na - 1) | return done out na nb
      let k := na - at_
      acount := k
      if k > 0 then
        out := out ++ (a.extract at_ na).reverse; na := at_
        if na == 0 then return done out na nb
      nb := nb - 1; out := out.push (← elem' b nb)
      if nb == 1 then return firstOfB out na nb
      let some at_ ← gallop' true (← elem' a (na - 1)) b 0 nb (nb - 1) | return done out na nb
      let k := nb - at_
      bcount := k
      if k > 0 then
        out := out ++ (b.extract at_ nb).reverse; nb := at_
        if nb == 1 then return firstOfB out na nb
        if nb == 0 then return done out na nb
      na := na - 1; out := out.push (← elem' a na)
      if na == 0 then return done out na nb
      if acount < 7 && bcount < 7 then break
    minGallop := minGallop + 1
    setMinGallop' minGallop
  unsupported "internal:list.sort.merge-bound") := rfl

def SL (ky : Keyed → O.α) (l : List Keyed) : Prop := l.Pairwise fun x y => O.kle (ky x) (ky y)
theorem mem_d {a : Array Keyed} {i : Nat} {x : Keyed} (h : x ∈ a.toList.drop i) : ∃ j, i ≤ j ∧ j < a.size ∧ a[j]? = some x := by
  obtain ⟨k, hk, e⟩ := List.mem_iff_getElem.mp h
  rw [List.getElem_drop] at e
  rw [List.length_drop, Array.length_toList] at hk
  exact ⟨i + k, by omega, by omega, by rw [getElem?_pos a (i + k) (by omega)]; exact congrArg some e⟩
theorem mem_dt {a : Array Keyed} {i k : Nat} {x : Keyed} (h : x ∈ (a.toList.drop i).take k) : ∃ j, i ≤ j ∧ j < i + k ∧ j < a.size ∧ a[j]? = some x := by
  obtain ⟨m, hk, e⟩ := List.mem_iff_getElem.mp h
  rw [List.getElem_take, List.getElem_drop] at e
  rw [List.length_take, List.length_drop, Array.length_toList] at hk
  exact ⟨i + m, by omega, by omega, by omega, by rw [getElem?_pos a (i + m) (by omega)]; exact congrArg some e⟩
theorem kk_some {a : Array Keyed} {i : Nat} {x : Keyed} (e : a[i]? = some x) : kk ky a i = ky x := by unfold kk; rw [e]; rfl
theorem SL.up {a : Array Keyed} {base n : Nat} (h : SL ky a.toList) (hn : base + n ≤ a.size) : Up ky a base n := by
  intro i j hij hj
  have h1 : a[base + i]? = some (a[base + i]'(by omega)) := getElem?_pos _ _ _
  have h2 : a[base + j]? = some (a[base + j]'(by omega)) := getElem?_pos _ _ _
  rw [kk_some h1, kk_some h2]
  by_cases e : i = j
  · subst e; exact KeyOrd.kle_refl _
  · exact List.pairwise_iff_getElem.mp h (base + i) (base + j) (by simp; omega) (by simp; omega) (by omega)
theorem up_SL {a : Array Keyed} (h : Up ky a 0 a.size) : SL ky a.toList := by
  refine List.pairwise_iff_getElem.mpr fun i j hi hj hij => ?_
  have hi' : i < a.size := by simpa using hi
  have hj' : j < a.size := by simpa using hj
  have := h i j (by omega) hj'
  rw [Nat.zero_add, Nat.zero_add, kk_some (getElem?_pos a i hi'), kk_some (getElem?_pos a j hj')] at this
  exact this
structure MI (ky : Keyed → O.α) (a b out : Array Keyed) (ia ib : Nat) : Prop where
  ha : ia ≤ a.size
  hb : ib ≤ b.size
  perm : (out.toList ++ (a.toList.drop ia ++ b.toList.drop ib)).Perm (a.toList ++ b.toList)
  srt : SL ky out.toList
  le : ∀ x ∈ out.toList, ∀ y ∈ a.toList.drop ia ++ b.toList.drop ib, O.kle (ky x) (ky y)
def Res (ky : Keyed → O.α) (a b r : Array Keyed) : Prop := r.toList.Perm (a.toList ++ b.toList) ∧ SL ky r.toList
theorem drop_split {l : List Keyed} (i k : Nat) : l.drop i = (l.drop i).take k ++ l.drop (i + k) := by
  rw [← List.drop_drop]; exact (List.take_append_drop k _).symm
theorem toList_ext {a : Array Keyed} {i k : Nat} : (a.extract i (i + k)).toList = (a.toList.drop i).take k := by
  rw [Array.toList_extract, List.extract_eq_drop_take]; congr 1; omega
theorem toList_rest {a : Array Keyed} {i : Nat} : (a.extract i a.size).toList = a.toList.drop i := by
  rw [Array.toList_extract, List.extract_eq_drop_take]; rw [List.take_of_length_le]; simp
theorem mv_lists {P A' B' out T : List Keyed} (hp : (out ++ ((P ++ A') ++ B')).Perm T) (hs : SL ky out) (hle : ∀ x ∈ out, ∀ y ∈ (P ++ A') ++ B', O.kle (ky x) (ky y)) (sA : SL ky (P ++ A')) (hPB : ∀ x ∈ P, ∀ y ∈ B', O.kle (ky x) (ky y)) :
    ((out ++ P) ++ (A' ++ B')).Perm T ∧ SL ky (out ++ P) ∧ (∀ x ∈ out ++ P, ∀ y ∈ A' ++ B', O.kle (ky x) (ky y)) := by
  have sA' := List.pairwise_append.mp sA
  refine ⟨?_, List.pairwise_append.mpr ⟨hs, sA'.1, fun x hx y hy => hle x hx y (by simp [hy])⟩, ?_⟩
  · rw [List.append_assoc, ← List.append_assoc P]; exact hp
  · intro x hx y hy
    rcases List.mem_append.mp hx with hx | hx
    · refine hle x hx y ?_
      rcases List.mem_append.mp hy with hy | hy <;> simp [hy]
    · rcases List.mem_append.mp hy with hy | hy
      · exact sA'.2.2 x hx y hy
      · exact hPB x hx y hy
theorem SL.drop {l : List Keyed} (h : SL ky l) (i : Nat) : SL ky (l.drop i) := List.Pairwise.sublist (List.drop_sublist _ _) h
theorem SL.take {l : List Keyed} (h : SL ky l) (i : Nat) : SL ky (l.take i) := List.Pairwise.sublist (List.take_sublist _ _) h
theorem MI.mvA {a b out : Array Keyed} {ia ib k : Nat} (h : MI ky a b out ia ib) (sa : SL ky a.toList) (hk : ia + k ≤ a.size) (hle : ∀ x ∈ (a.toList.drop ia).take k, ∀ y ∈ b.toList.drop ib, O.kle (ky x) (ky y)) : MI ky a b (out ++ a.extract ia (ia + k)) (ia + k) ib := by
  have p := h.perm
  have l := h.le
  have s := sa.drop ia
  rw [drop_split (l := a.toList) ia k] at p l s
  obtain ⟨q1, q2, q3⟩ := mv_lists p h.srt l s hle
  refine ⟨hk, h.hb, ?_, ?_, ?_⟩
  · rw [Array.toList_append, toList_ext]; exact q1
  · rw [Array.toList_append, toList_ext]; exact q2
  · rw [Array.toList_append, toList_ext]; exact q3
theorem MI.mvB {a b out : Array Keyed} {ia ib k : Nat} (h : MI ky a b out ia ib) (sb : SL ky b.toList) (hk : ib + k ≤ b.size) (hle : ∀ y ∈ (b.toList.drop ib).take k, ∀ x ∈ a.toList.drop ia, O.kle (ky y) (ky x)) : MI ky a b (out ++ b.extract ib (ib + k)) ia (ib + k) := by
  have p : (out.toList ++ (b.toList.drop ib ++ a.toList.drop ia)).Perm (a.toList ++ b.toList) := (List.Perm.append_left _ List.perm_append_comm).trans h.perm
  have l : ∀ x ∈ out.toList, ∀ y ∈ b.toList.drop ib ++ a.toList.drop ia, O.kle (ky x) (ky y) := fun x hx y hy => h.le x hx y (by rcases List.mem_append.mp hy with hy | hy <;> simp [hy])
  have s := sb.drop ib
  rw [drop_split (l := b.toList) ib k] at p l s
  obtain ⟨q1, q2, q3⟩ := mv_lists p h.srt l s hle
  refine ⟨h.ha, hk, ?_, ?_, ?_⟩
  · rw [Array.toList_append, toList_ext]; exact (List.Perm.append_left _ List.perm_append_comm).trans q1
  · rw [Array.toList_append, toList_ext]; exact q2
  · rw [Array.toList_append, toList_ext]; exact fun x hx y hy => q3 x hx y (by rcases List.mem_append.mp hy with hy | hy <;> simp [hy])
theorem ext_one {a : Array Keyed} {i : Nat} {x : Keyed} (e : a[i]? = some x) (out : Array Keyed) : out.push x = out ++ a.extract i (i + 1) := by
  obtain ⟨hi, e2⟩ := Array.getElem?_eq_some_iff.mp e
  apply Array.ext'
  rw [Array.toList_push, Array.toList_append, toList_ext]
  rw [List.drop_eq_getElem_cons (by simpa using hi)]
  simp [e2]
theorem take_one {a : Array Keyed} {i : Nat} {x : Keyed} (e : a[i]? = some x) : (a.toList.drop i).take 1 = [x] := by
  obtain ⟨hi, e2⟩ := Array.getElem?_eq_some_iff.mp e
  rw [List.drop_eq_getElem_cons (by simpa using hi)]
  simp [e2]
theorem MI.done {a b out : Array Keyed} {ia ib : Nat} (h : MI ky a b out ia ib) (sa : SL ky a.toList) (sb : SL ky b.toList) (he : ia = a.size ∨ ib = b.size) : Res ky a b (out ++ a.extract ia a.size ++ b.extract ib b.size) := by
  unfold Res
  rw [Array.toList_append, Array.toList_append, toList_rest, toList_rest, List.append_assoc]
  refine ⟨h.perm, List.pairwise_append.mpr ⟨h.srt, List.pairwise_append.mpr ⟨sa.drop ia, sb.drop ib, fun x hx y hy => ?_⟩, h.le⟩⟩
  rcases he with e | e
  · subst e; rw [List.drop_of_length_le (by simp)] at hx; cases hx
  · subst e; rw [List.drop_of_length_le (by simp)] at hy; cases hy
theorem MI.last {a b out : Array Keyed} {ia ib : Nat} (h : MI ky a b out ia ib) (sa : SL ky a.toList) (sb : SL ky b.toList) (he : ia + 1 = a.size) (hl : ∀ y ∈ b.toList, ∀ x, a[a.size - 1]? = some x → O.kle (ky y) (ky x)) : Res ky a b (out ++ b.extract ib b.size ++ a.extract ia a.size) := by
  unfold Res
  rw [Array.toList_append, Array.toList_append, toList_rest, toList_rest, List.append_assoc]
  refine ⟨(List.Perm.append_left _ List.perm_append_comm).trans h.perm, List.pairwise_append.mpr ⟨h.srt, List.pairwise_append.mpr ⟨sb.drop ib, sa.drop ia, fun x hx y hy => ?_⟩, fun x hx y hy => h.le x hx y (by rcases List.mem_append.mp hy with hy | hy <;> simp [hy])⟩⟩
  obtain ⟨j, j1, j2, j3⟩ := mem_d hy
  have : j = a.size - 1 := by omega
  subst this
  exact hl x (List.mem_of_mem_drop hx) y j3
theorem MI.size {a b out : Array Keyed} {ia ib : Nat} (h : MI ky a b out ia ib) : out.size + (a.size - ia) + (b.size - ib) = a.size + b.size := by
  have := h.perm.length_eq
  simp at this
  omega
end
end SO
namespace SO
open PySem PyProof PyProof.Rows
section
variable {M : Model} {A : Around} {E : Value → Shared → Prop} {s : Shared} {O : KeyOrd} {ky : Keyed → O.α} {κ : SortKind} {a₀ a b : Array Keyed} {st₀ : SortSt}
structure MC (ky : Keyed → O.α) (a₀ a b : Array Keyed) : Prop where
  ma : ∀ x ∈ a.toList, x ∈ a₀.toList
  mb : ∀ x ∈ b.toList, x ∈ a₀.toList
  sa : SL ky a.toList
  sb : SL ky b.toList
  na : 1 ≤ a.size
  nb : 1 ≤ b.size
  hl : ∀ y ∈ b.toList, ∀ x, a[a.size - 1]? = some x → O.kle (ky y) (ky x)
  hf : ∀ x ∈ a.toList, ∀ y, b[0]? = some y → O.kle (ky y) (ky x)
structure Sm (st st' : SortSt) : Prop where
  kind : kindOf st' = kindOf st
  arr : arrOf st' = arrOf st
  pend : pendingOf st' = pendingOf st
  failed : failedOf st' = failedOf st
theorem Sm.refl (st : SortSt) : Sm st st := ⟨rfl, rfl, rfl, rfl⟩
theorem Sm.trans {st st' st'' : SortSt} (x : Sm st st') (y : Sm st' st'') : Sm st st'' := ⟨y.kind.trans x.kind, y.arr.trans x.arr, y.pend.trans x.pend, y.failed.trans x.failed⟩
theorem wpS_smg {st : SortSt} {g : Nat} {Q : Unit → SortSt → Prop} (h : ∀ st', Sm st st' → Q () st') : wpS M A E s (setMinGallop' g) Q st := by
  rw [setMinGallop'_eq]
  exact wpS_modify (h _ ⟨rfl, rfl, rfl, rfl⟩)
theorem at_lt {a : Array Keyed} {i : Nat} (h : i < a.size) : ∃ x, a[i]? = some x ∧ x ∈ a.toList := ⟨a[i], getElem?_pos a i h, by simp⟩
theorem mem_at {a : Array Keyed} {i : Nat} {x : Keyed} (e : a[i]? = some x) : x ∈ a.toList := by
  obtain ⟨hi, e2⟩ := Array.getElem?_eq_some_iff.mp e
  rw [← e2]; simp

theorem SL.at {a : Array Keyed} {i j : Nat} {x y : Keyed} (h : SL ky a.toList) (hij : i ≤ j) (e1 : a[i]? = some x) (e2 : a[j]? = some y) : O.kle (ky x) (ky y) := by
  obtain ⟨hi, _⟩ := Array.getElem?_eq_some_iff.mp e1
  obtain ⟨hj, _⟩ := Array.getElem?_eq_some_iff.mp e2
  have := h.up (base := 0) (n := a.size) (by omega) i j hij hj
  rw [Nat.zero_add, Nat.zero_add, kk_some e1, kk_some e2] at this
  exact this
abbrev R2 : Type := Option (Array Keyed) × Array Keyed × Nat × Nat × Nat × Nat × Nat
def Inv2 (ky : Keyed → O.α) (a b : Array Keyed) (st₀ : SortSt) (N : Nat) (c : R2) (st' : SortSt) : Prop := ∃ out ia ib mg ac bc, c = (none, out, ia, ib, mg, ac, bc) ∧ Sm st₀ st' ∧ MI ky a b out ia ib ∧ ia + 2 ≤ a.size ∧ ib + 1 ≤ b.size ∧ N ≤ out.size
def Post2 (ky : Keyed → O.α) (a b : Array Keyed) (st₀ : SortSt) (N : Nat) (c : R2) (st' : SortSt) : Prop := Inv2 ky a b st₀ N c st' ∨ ∃ r rest, c = (some r, rest) ∧ Sm st₀ st' ∧ Res ky a b r
abbrev Out2 (ky : Keyed → O.α) (a b : Array Keyed) (st₀ : SortSt) (N : Nat) (r : ForInStep R2) (st' : SortSt) : Prop := match r with | .done c => Post2 ky a b st₀ N c st' | .yield c => Inv2 ky a b st₀ N c st'
def loP3 (a b out : Array Keyed) (ia ib mg ac bc : Nat) : StateT SortSt Sem (ForInStep R2) := do
  let x ← elem' a ia
  if (ia + 1 + 1 == a.size) = true then pure (ForInStep.done (some (out.push x ++ b.extract ib b.size ++ a.extract (ia + 1) a.size), out.push x, ia + 1, ib, mg, ac, bc))
  else if (decide (ac < 7) && decide (bc < 7)) = true then pure (ForInStep.done (none, out.push x, ia + 1, ib, mg, ac, bc))
  else pure (ForInStep.yield (none, out.push x, ia + 1, ib, mg, ac, bc))
theorem wpS_loP3 {st : SortSt} {out : Array Keyed} {ia ib mg ac bc N : Nat} (X : MC ky a₀ a b) (hS : Sm st₀ st) (hI : MI ky a b out ia ib) (h1 : ia + 2 ≤ a.size) (h2 : ib + 1 ≤ b.size) (hN : N ≤ out.size) (hx : ∀ x, a[ia]? = some x → ∀ y ∈ b.toList.drop ib, O.kle (ky x) (ky y)) : wpS M A E s (loP3 a b out ia ib mg ac bc) (Out2 ky a b st₀ N) st := by
  unfold loP3
  obtain ⟨x, e, hm⟩ := at_lt (a := a) (i := ia) (by omega)
  refine wpS_bind (wpS_elem e ?_)
  have hI' := hI.mvA (k := 1) X.sa (by omega) (fun z hz y hy => by rw [take_one e] at hz; rw [List.mem_singleton.mp hz]; exact hx x e y hy)
  rw [← ext_one e] at hI'
  have hN' : N ≤ (out.push x).size := by rw [Array.size_push]; omega
  by_cases c1 : ia + 1 + 1 = a.size
  · rw [if_pos (by simpa using c1)]
    exact wpS_pure (.inr ⟨_, _, rfl, hS, hI'.last X.sa X.sb c1 X.hl⟩)
  · rw [if_neg (by simpa using c1)]
    have hV : Inv2 ky a b st₀ N (none, out.push x, ia + 1, ib, mg, ac, bc) st := ⟨_, _, _, _, _, _, rfl, hS, hI', by omega, h2, hN'⟩
    split
    · exact wpS_pure (.inl hV)
    · exact wpS_pure hV
def loP2 (a b out : Array Keyed) (ia ib mg ac bc : Nat) : StateT SortSt Sem (ForInStep R2) := do
  let y ← elem' b ib
  if (ib + 1 == b.size) = true then pure (ForInStep.done (some (out.push y ++ a.extract ia a.size ++ b.extract (ib + 1) b.size), out.push y, ia, ib + 1, mg, ac, bc))
  else do
    let x ← elem' a ia
    let r ← gallop' true x b (ib + 1) (b.size - (ib + 1)) 0
    match r with
    | some k =>
      if k > 0 then
        if (ib + 1 + k == b.size) = true then pure (ForInStep.done (some (out.push y ++ b.extract (ib + 1) (ib + 1 + k) ++ a.extract ia a.size ++ b.extract (ib + 1 + k) b.size), out.push y ++ b.extract (ib + 1) (ib + 1 + k), ia, ib + 1 + k, mg, ac, k))
        else loP3 a b (out.push y ++ b.extract (ib + 1) (ib + 1 + k)) ia (ib + 1 + k) mg ac k
      else loP3 a b (out.push y) ia (ib + 1) mg ac k
    | _ => pure (ForInStep.done (some (out.push y ++ a.extract ia a.size ++ b.extract (ib + 1) b.size), out.push y, ia, ib + 1, mg, ac, bc))
theorem wpS_loP2 {st : SortSt} {out : Array Keyed} {ia ib mg ac bc N : Nat} (hC : Cmp M A s O ky κ a₀) (hk : kindOf st = κ) (X : MC ky a₀ a b) (hS : Sm st₀ st) (hI : MI ky a b out ia ib) (h1 : ia + 2 ≤ a.size) (h2 : ib + 1 ≤ b.size) (hN : N ≤ out.size) (hy : ∀ y, b[ib]? = some y → ∀ x ∈ a.toList.drop ia, O.kle (ky y) (ky x)) : wpS M A E s (loP2 a b out ia ib mg ac bc) (Out2 ky a b st₀ N) st := by
  unfold loP2
  obtain ⟨y, e, hm⟩ := at_lt (a := b) (i := ib) (by omega)
  refine wpS_bind (wpS_elem e ?_)
  have hI' := hI.mvB (k := 1) X.sb (by omega) (fun z hz x hx => by rw [take_one e] at hz; rw [List.mem_singleton.mp hz]; exact hy y e x hx)
  rw [← ext_one e] at hI'
  have hN' : N ≤ (out.push y).size := by rw [Array.size_push]; omega
  by_cases c1 : ib + 1 = b.size
  · rw [if_pos (by simpa using c1)]
    exact wpS_pure (.inr ⟨_, _, rfl, hS, hI'.done X.sa X.sb (.inr c1)⟩)
  · rw [if_neg (by simpa using c1)]
    obtain ⟨x, ex, hmx⟩ := at_lt (a := a) (i := ia) (by omega)
    refine wpS_bind (wpS_elem ex ?_)
    refine wpS_bind (wpS_galL hC hk (X.ma x hmx) (fun i hi => (at_lt (a := b) (i := ib + 1 + i) (by omega)).imp fun z hz => ⟨hz.1, X.mb z hz.2⟩) (X.sb.up (by omega)) (by omega) fun k k1 k2 k3 => ?_)
    dsimp only
    have hrest : ∀ x', a[ia]? = some x' → ∀ z ∈ b.toList.drop (ib + 1 + k), O.kle (ky x') (ky z) := by
      intro x' ex' z hz
      rw [ex] at ex'; cases ex'
      obtain ⟨j, j1, j2, j3⟩ := mem_d hz
      have := k3 (j - (ib + 1)) (by omega) (by omega)
      rw [show ib + 1 + (j - (ib + 1)) = j by omega, kk_some j3] at this
      exact this
    by_cases c2 : k > 0
    · rw [if_pos c2]
      have hI2 := hI'.mvB (k := k) X.sb (by omega) (fun z hz x' hx' => by
        obtain ⟨j, j1, j2, j3, j4⟩ := mem_dt hz
        have := k2 (j - (ib + 1)) (by omega)
        rw [show ib + 1 + (j - (ib + 1)) = j by omega, kk_some j4] at this
        obtain ⟨m, m1, m2, m3⟩ := mem_d hx'
        exact KeyOrd.kle_trans (KeyOrd.kle_of_klt this) (X.sa.at m1 ex m3))
      by_cases c3 : ib + 1 + k = b.size
      · rw [if_pos (by simpa using c3)]
        exact wpS_pure (.inr ⟨_, _, rfl, hS, hI2.done X.sa X.sb (.inr c3)⟩)
      · rw [if_neg (by simpa using c3)]
        exact wpS_loP3 X hS hI2 h1 (by omega) (by rw [Array.size_append]; omega) hrest
    · rw [if_neg c2]
      have : k = 0 := by omega
      subst this
      exact wpS_loP3 X hS hI' h1 (by omega) hN' hrest
def loP1 (a b out : Array Keyed) (ia ib mg ac bc : Nat) : StateT SortSt Sem (ForInStep R2) := do
  setMinGallop' mg
  let y ← elem' b ib
  let r ← gallop' false y a ia (a.size - ia) 0
  match r with
  | some k =>
    if k > 0 then
      if (ia + k + 1 == a.size) = true then pure (ForInStep.done (some (out ++ a.extract ia (ia + k) ++ b.extract ib b.size ++ a.extract (ia + k) a.size), out ++ a.extract ia (ia + k), ia + k, ib, mg, k, bc))
      else if (ia + k == a.size) = true then pure (ForInStep.done (some (out ++ a.extract ia (ia + k) ++ a.extract (ia + k) a.size ++ b.extract ib b.size), out ++ a.extract ia (ia + k), ia + k, ib, mg, k, bc))
      else loP2 a b (out ++ a.extract ia (ia + k)) (ia + k) ib mg k bc
    else loP2 a b out ia ib mg k bc
  | _ => pure (ForInStep.done (some (out ++ a.extract ia a.size ++ b.extract ib b.size), out, ia, ib, mg, ac, bc))
theorem wpS_loP1 {st : SortSt} {out : Array Keyed} {ia ib mg ac bc N : Nat} (hC : Cmp M A s O ky κ a₀) (hk : kindOf st₀ = κ) (X : MC ky a₀ a b) (hS : Sm st₀ st) (hI : MI ky a b out ia ib) (h1 : ia + 2 ≤ a.size) (h2 : ib + 1 ≤ b.size) (hN : N ≤ out.size) : wpS M A E s (loP1 a b out ia ib mg ac bc) (Out2 ky a b st₀ N) st := by
  unfold loP1
  refine wpS_bind (wpS_smg fun st' hS1 => ?_)
  have hS' := hS.trans hS1
  have hk' : kindOf st' = κ := hS'.kind.trans hk
  obtain ⟨y, e, hm⟩ := at_lt (a := b) (i := ib) (by omega)
  refine wpS_bind (wpS_elem e ?_)
  refine wpS_bind (wpS_galR hC hk' (X.mb y hm) (fun i hi => (at_lt (a := a) (i := ia + i) (by omega)).imp fun z hz => ⟨hz.1, X.ma z hz.2⟩) (X.sa.up (by omega)) (by omega) fun k k1 k2 k3 => ?_)
  dsimp only
  have hrest : ∀ y', b[ib]? = some y' → ∀ z ∈ a.toList.drop (ia + k), O.kle (ky y') (ky z) := by
    intro y' ey' z hz
    rw [e] at ey'; cases ey'
    obtain ⟨j, j1, j2, j3⟩ := mem_d hz
    have := k3 (j - ia) (by omega) (by omega)
    rw [show ia + (j - ia) = j by omega, kk_some j3] at this
    exact KeyOrd.kle_of_klt this
  by_cases c2 : k > 0
  · rw [if_pos c2]
    have hI2 := hI.mvA (k := k) X.sa (by omega) (fun z hz x' hx' => by
      obtain ⟨j, j1, j2, j3, j4⟩ := mem_dt hz
      have := k2 (j - ia) (by omega)
      rw [show ia + (j - ia) = j by omega, kk_some j4] at this
      obtain ⟨m, m1, m2, m3⟩ := mem_d hx'
      exact KeyOrd.kle_trans this (X.sb.at m1 e m3))
    have hN2 : N ≤ (out ++ a.extract ia (ia + k)).size := by rw [Array.size_append]; omega
    by_cases c3 : ia + k + 1 = a.size
    · rw [if_pos (by simpa using c3)]
      exact wpS_pure (.inr ⟨_, _, rfl, hS', hI2.last X.sa X.sb c3 X.hl⟩)
    · rw [if_neg (by simpa using c3)]
      by_cases c4 : ia + k = a.size
      · rw [if_pos (by simpa using c4)]
        exact wpS_pure (.inr ⟨_, _, rfl, hS', hI2.done X.sa X.sb (.inl c4)⟩)
      · rw [if_neg (by simpa using c4)]
        exact wpS_loP2 hC hk' X hS' hI2 (by omega) h2 hN2 hrest
  · rw [if_neg c2]
    have : k = 0 := by omega
    subst this
    exact wpS_loP2 hC hk' X hS' hI h1 h2 hN hrest
abbrev R1 : Type := Option (Array Keyed) × Array Keyed × Nat × Nat × Nat × Nat
def Inv1 (ky : Keyed → O.α) (a b : Array Keyed) (st₀ : SortSt) (N : Nat) (c : R1) (st' : SortSt) : Prop := ∃ out ia ib ac bc, c = (none, out, ia, ib, ac, bc) ∧ Sm st₀ st' ∧ MI ky a b out ia ib ∧ ia + 2 ≤ a.size ∧ ib + 1 ≤ b.size ∧ N ≤ out.size
def Post1 (ky : Keyed → O.α) (a b : Array Keyed) (st₀ : SortSt) (N : Nat) (c : R1) (st' : SortSt) : Prop := Inv1 ky a b st₀ N c st' ∨ ∃ r rest, c = (some r, rest) ∧ Sm st₀ st' ∧ Res ky a b r
def loO (a b out : Array Keyed) (ia ib mg ac bc : Nat) : StateT SortSt Sem (ForInStep R1) := do
  let y ← elem' b ib
  let x ← elem' a ia
  let r ← lt' y x
  match r with
  | some bWins =>
    if bWins = true then do
      let y ← elem' b ib
      if (ib + 1 == b.size) = true then pure (ForInStep.done (some (out.push y ++ a.extract ia a.size ++ b.extract (ib + 1) b.size), out.push y, ia, ib + 1, 0, bc + 1))
      else if bc + 1 ≥ mg then pure (ForInStep.done (none, out.push y, ia, ib + 1, 0, bc + 1))
      else pure (ForInStep.yield (none, out.push y, ia, ib + 1, 0, bc + 1))
    else do
      let x ← elem' a ia
      if (ia + 1 + 1 == a.size) = true then pure (ForInStep.done (some (out.push x ++ b.extract ib b.size ++ a.extract (ia + 1) a.size), out.push x, ia + 1, ib, ac + 1, 0))
      else if ac + 1 ≥ mg then pure (ForInStep.done (none, out.push x, ia + 1, ib, ac + 1, 0))
      else pure (ForInStep.yield (none, out.push x, ia + 1, ib, ac + 1, 0))
  | _ => pure (ForInStep.done (some (out ++ a.extract ia a.size ++ b.extract ib b.size), out, ia, ib, ac, bc))
theorem wpS_loO {st : SortSt} {out : Array Keyed} {ia ib mg ac bc N : Nat} (hC : Cmp M A s O ky κ a₀) (hk : kindOf st₀ = κ) (X : MC ky a₀ a b) (hS : Sm st₀ st) (hI : MI ky a b out ia ib) (h1 : ia + 2 ≤ a.size) (h2 : ib + 1 ≤ b.size) (hN : N ≤ out.size) : wpS M A E s (loO a b out ia ib mg ac bc) (fun r st' => match r with | .done c => Post1 ky a b st₀ (N + 1) c st' | .yield c => Inv1 ky a b st₀ (N + 1) c st') st := by
  unfold loO
  obtain ⟨y, e, hm⟩ := at_lt (a := b) (i := ib) (by omega)
  obtain ⟨x, ex, hmx⟩ := at_lt (a := a) (i := ia) (by omega)
  refine wpS_bind (wpS_elem e (wpS_bind (wpS_elem ex ?_)))
  refine wpS_bind (wpS_lt hC (X.mb y hm) (X.ma x hmx) (hS.kind.trans hk) ?_)
  cases hw : O.blt (ky y) (ky x)
  case true =>
    simp only [if_true]
    refine wpS_bind (wpS_elem e ?_)
    have hI' := hI.mvB (k := 1) X.sb (by omega) (fun z hz x' hx' => by
      rw [take_one e] at hz; rw [List.mem_singleton.mp hz]
      obtain ⟨m, m1, m2, m3⟩ := mem_d hx'
      exact KeyOrd.kle_trans (KeyOrd.kle_of_klt hw) (X.sa.at m1 ex m3))
    rw [← ext_one e] at hI'
    have hN' : N + 1 ≤ (out.push y).size := by rw [Array.size_push]; omega
    by_cases c1 : ib + 1 = b.size
    · rw [if_pos (by simpa using c1)]
      exact wpS_pure (.inr ⟨_, _, rfl, hS, hI'.done X.sa X.sb (.inr c1)⟩)
    · rw [if_neg (by simpa using c1)]
      have hV : Inv1 ky a b st₀ (N + 1) (none, out.push y, ia, ib + 1, 0, bc + 1) st := ⟨_, _, _, _, _, rfl, hS, hI', h1, by omega, hN'⟩
      split
      · exact wpS_pure (.inl hV)
      · exact wpS_pure hV
  case false =>
    simp only [Bool.false_eq_true, if_false]
    refine wpS_bind (wpS_elem ex ?_)
    have hI' := hI.mvA (k := 1) X.sa (by omega) (fun z hz x' hx' => by
      rw [take_one ex] at hz; rw [List.mem_singleton.mp hz]
      obtain ⟨m, m1, m2, m3⟩ := mem_d hx'
      exact KeyOrd.kle_trans (show O.kle _ _ from hw) (X.sb.at m1 e m3))
    rw [← ext_one ex] at hI'
    have hN' : N + 1 ≤ (out.push x).size := by rw [Array.size_push]; omega
    by_cases c1 : ia + 1 + 1 = a.size
    · rw [if_pos (by simpa using c1)]
      exact wpS_pure (.inr ⟨_, _, rfl, hS, hI'.last X.sa X.sb c1 X.hl⟩)
    · rw [if_neg (by simpa using c1)]
      have hV : Inv1 ky a b st₀ (N + 1) (none, out.push x, ia + 1, ib, ac + 1, 0) st := ⟨_, _, _, _, _, rfl, hS, hI', by omega, h2, hN'⟩
      split
      · exact wpS_pure (.inl hV)
      · exact wpS_pure hV
end
end SO
namespace SO
open PySem PyProof PyProof.Rows
section
variable {M : Model} {A : Around} {E : Value → Shared → Prop} {s : Shared} {O : KeyOrd} {ky : Keyed → O.α} {κ : SortKind} {a₀ a b : Array Keyed} {st₀ : SortSt}
theorem Inv1.mono {N N' : Nat} {c : R1} {st : SortSt} (h : Inv1 ky a b st₀ N c st) (hN : N' ≤ N) : Inv1 ky a b st₀ N' c st := by
  obtain ⟨out, ia, ib, ac, bc, e, h1, h2, h3, h4, h5⟩ := h
  exact ⟨out, ia, ib, ac, bc, e, h1, h2, h3, h4, by omega⟩
theorem Post1.mono {N N' : Nat} {c : R1} {st : SortSt} (h : Post1 ky a b st₀ N c st) (hN : N' ≤ N) : Post1 ky a b st₀ N' c st := h.imp (fun h => h.mono hN) id
abbrev R0 : Type := Option (Array Keyed) × Array Keyed × Nat × Nat × Nat
def Inv0 (ky : Keyed → O.α) (a b : Array Keyed) (st₀ : SortSt) (N : Nat) (c : R0) (st' : SortSt) : Prop := ∃ out ia ib mg, c = (none, out, ia, ib, mg) ∧ Sm st₀ st' ∧ MI ky a b out ia ib ∧ ia + 2 ≤ a.size ∧ ib + 1 ≤ b.size ∧ N ≤ out.size
def Post0 (ky : Keyed → O.α) (a b : Array Keyed) (st₀ : SortSt) (c : R0) (st' : SortSt) : Prop := ∃ r rest, c = (some r, rest) ∧ Sm st₀ st' ∧ Res ky a b r
theorem MI.start (ky : Keyed → O.α) (a b : Array Keyed) : MI ky a b #[] 0 0 := ⟨Nat.zero_le _, Nat.zero_le _, by simp, List.Pairwise.nil, fun x hx => by cases hx⟩
theorem wpS_mergeLo {st : SortSt} {Q : Array Keyed → SortSt → Prop} (hC : Cmp M A s O ky κ a₀) (hk : kindOf st = κ) (X : MC ky a₀ a b) (h : ∀ r st', Sm st st' → Res ky a b r → Q r st') : wpS M A E s (mergeLo' a b) Q st := by
  rw [mergeLo'_eq]
  refine wpS_bind (wpS_lift (wpAny_rule ⟨rfl, ?_⟩))
  have hna := X.na
  have hnb := X.nb
  obtain ⟨y, e, hm⟩ := at_lt (a := b) (i := 0) (by omega)
  refine wpS_bind (wpS_elem e ?_)
  dsimp only
  have hI := (MI.start ky a b).mvB (k := 1) X.sb (by omega) (fun z hz x' hx' => by
    rw [take_one e] at hz; rw [List.mem_singleton.mp hz]
    exact X.hf x' (List.mem_of_mem_drop hx') y e)
  rw [← ext_one e] at hI
  have hI : MI ky a b #[y] 0 1 := hI
  by_cases c1 : 1 = b.size
  · rw [if_pos (by simpa using c1)]
    exact wpS_pure (h _ _ (Sm.refl _) (hI.done X.sa X.sb (.inr c1)))
  rw [if_neg (by simpa using c1)]
  by_cases c2 : 0 + 1 = a.size
  · rw [if_pos (by simpa using c2)]
    exact wpS_pure (h _ _ (Sm.refl _) (hI.last X.sa X.sb c2 X.hl))
  rw [if_neg (by simpa using c2)]
  refine wpS_bind (wpS_get ?_)
  refine wpS_bind (wpS_mono (wpS_forRange (I := fun x c st' => Inv0 ky a b st (x + 1) c st') (Q := Post0 ky a b st) ?step ?fin ⟨_, _, _, _, rfl, Sm.refl _, hI, by omega, by omega, by simp⟩) ?post)
  case post =>
    rintro c st' ⟨r, rest, rfl, hS, hR⟩
    exact wpS_pure (h r st' hS hR)
  case fin =>
    rintro c st' ⟨out, ia, ib, mg, rfl, hS, hI, h1, h2, hN⟩
    have := hI.size
    exact absurd hN (by omega)
  case step =>
    rintro x c st' _ hx ⟨out, ia, ib, mg, rfl, hS, hI, h1, h2, hN⟩
    refine wpS_bind (wpS_mono (wpS_forRange (I := fun j c st' => Inv1 ky a b st (x + 1 + j) c st') (Q := Post1 ky a b st (x + 2)) ?s1 ?f1 ⟨_, _, _, _, _, rfl, hS, hI, h1, h2, by omega⟩) ?p1)
    case f1 =>
      intro c st' hc
      exact .inl (hc.mono (by omega))
    case s1 =>
      rintro j c st' _ hj ⟨out, ia, ib, ac, bc, rfl, hS, hI, h1, h2, hN⟩
      refine wpS_mono (wpS_loO (mg := mg) (ac := ac) (bc := bc) hC hk X hS hI h1 h2 hN) fun r st' hr => ?_
      cases r with
      | done c => exact Post1.mono hr (by omega)
      | yield c => exact Inv1.mono hr (by omega)
    case p1 =>
      rintro c st' (⟨out, ia, ib, ac, bc, rfl, hS, hI, h1, h2, hN⟩ | ⟨r, rest, rfl, hS, hR⟩)
      · dsimp only
        refine wpS_bind (wpS_lift (wpAny_rule ⟨rfl, ?_⟩))
        refine wpS_bind (wpS_mono (wpS_forRange (I := fun _ c st' => Inv2 ky a b st (x + 2) c st') (Q := Post2 ky a b st (x + 2)) ?s2 ?f2 ⟨_, _, _, _, _, _, rfl, hS, hI, h1, h2, hN⟩) ?p2)
        case f2 => exact fun c st' hc => .inl hc
        case s2 =>
          rintro j c st' _ hj ⟨out, ia, ib, mg, ac, bc, rfl, hS, hI, h1, h2, hN⟩
          by_cases c3 : mg > 1
          · dsimp only
            rw [if_pos c3]
            refine wpS_mono (wpS_loP1 (mg := mg - 1) (ac := ac) (bc := bc) hC hk X hS hI h1 h2 hN) fun r st' hr => ?_
            cases r with
            | done c => exact hr
            | yield c => exact hr
          · dsimp only
            rw [if_neg c3]
            refine wpS_mono (wpS_loP1 (mg := mg) (ac := ac) (bc := bc) hC hk X hS hI h1 h2 hN) fun r st' hr => ?_
            cases r with
            | done c => exact hr
            | yield c => exact hr
        case p2 =>
          rintro c st' (⟨out, ia, ib, mg, ac, bc, rfl, hS, hI, h1, h2, hN⟩ | ⟨r, rest, rfl, hS, hR⟩)
          · dsimp only
            exact wpS_bind (wpS_smg fun st' hS1 => wpS_pure ⟨_, _, _, _, rfl, hS.trans hS1, hI, h1, h2, by omega⟩)
          · exact wpS_pure ⟨_, _, rfl, hS, hR⟩
      · exact wpS_pure ⟨_, _, rfl, hS, hR⟩
end
end SO
namespace SO
open PySem PyProof PyProof.Rows
section
variable {M : Model} {A : Around} {E : Value → Shared → Prop} {s : Shared} {O : KeyOrd} {ky : Keyed → O.α} {κ : SortKind} {a₀ a b : Array Keyed} {st₀ : SortSt}
theorem mem_t {a : Array Keyed} {n : Nat} {x : Keyed} (h : x ∈ a.toList.take n) : ∃ j, j < n ∧ j < a.size ∧ a[j]? = some x := by
  obtain ⟨k, hk, e⟩ := List.mem_iff_getElem.mp h
  rw [List.getElem_take] at e
  rw [List.length_take, Array.length_toList] at hk
  exact ⟨k, by omega, by omega, by rw [getElem?_pos a k (by omega)]; exact congrArg some e⟩
structure MH (ky : Keyed → O.α) (a b : Array Keyed) (na nb : Nat) (out : Array Keyed) : Prop where
  ha : na ≤ a.size
  hb : nb ≤ b.size
  perm : (a.toList.take na ++ (b.toList.take nb ++ out.toList.reverse)).Perm (a.toList ++ b.toList)
  srt : SL ky out.toList.reverse
  le : ∀ x ∈ a.toList.take na ++ b.toList.take nb, ∀ y ∈ out.toList.reverse, O.kle (ky x) (ky y)
theorem mvh_lists {A' P B' R T : List Keyed} (hp : ((A' ++ P) ++ (B' ++ R)).Perm T) (hs : SL ky R) (hle : ∀ x ∈ (A' ++ P) ++ B', ∀ y ∈ R, O.kle (ky x) (ky y)) (sA : SL ky (A' ++ P)) (hPB : ∀ x ∈ P, ∀ y ∈ B', O.kle (ky y) (ky x)) :
    (A' ++ (B' ++ (P ++ R))).Perm T ∧ SL ky (P ++ R) ∧ (∀ x ∈ A' ++ B', ∀ y ∈ P ++ R, O.kle (ky x) (ky y)) := by
  have sA' := List.pairwise_append.mp sA
  refine ⟨?_, List.pairwise_append.mpr ⟨sA'.2.1, hs, fun x hx y hy => hle x (by simp [hx]) y hy⟩, ?_⟩
  · refine List.Perm.trans ?_ hp
    rw [List.append_assoc]
    refine List.Perm.append_left _ ?_
    rw [← List.append_assoc, ← List.append_assoc]
    exact List.Perm.append_right _ List.perm_append_comm
  · intro x hx y hy
    rcases List.mem_append.mp hy with hy | hy
    · rcases List.mem_append.mp hx with hx | hx
      · exact sA'.2.2 x hx y hy
      · exact hPB y hy x hx
    · refine hle x ?_ y hy
      rcases List.mem_append.mp hx with hx | hx <;> simp [hx]
theorem rev_out {out P : Array Keyed} : (out ++ P.reverse).toList.reverse = P.toList ++ out.toList.reverse := by simp
theorem MH.mvA {out : Array Keyed} {m k nb : Nat} (h : MH ky a b (m + k) nb out) (sa : SL ky a.toList) (hle : ∀ x ∈ (a.toList.drop m).take k, ∀ y ∈ b.toList.take nb, O.kle (ky y) (ky x)) : MH ky a b m nb (out ++ (a.extract m (m + k)).reverse) := by
  have p := h.perm
  have l := h.le
  have s := sa.take (m + k)
  rw [List.take_add] at p l s
  obtain ⟨q1, q2, q3⟩ := mvh_lists p h.srt l s hle
  have := h.ha
  refine ⟨by omega, h.hb, ?_, ?_, ?_⟩ <;> rw [rev_out, toList_ext]
  · exact q1
  · exact q2
  · exact q3
theorem MH.mvB {out : Array Keyed} {m k na : Nat} (h : MH ky a b na (m + k) out) (sb : SL ky b.toList) (hle : ∀ x ∈ (b.toList.drop m).take k, ∀ y ∈ a.toList.take na, O.kle (ky y) (ky x)) : MH ky a b na m (out ++ (b.extract m (m + k)).reverse) := by
  have swap : ∀ (U V R : List Keyed), (U ++ (V ++ R)).Perm (V ++ (U ++ R)) := fun U V R => by
    rw [← List.append_assoc, ← List.append_assoc]; exact List.Perm.append_right _ List.perm_append_comm
  have p := (swap _ _ _).trans h.perm
  have l : ∀ x ∈ b.toList.take (m + k) ++ a.toList.take na, ∀ y ∈ out.toList.reverse, O.kle (ky x) (ky y) := fun x hx y hy => h.le x (by rcases List.mem_append.mp hx with hx | hx <;> simp [hx]) y hy
  have s := sb.take (m + k)
  rw [List.take_add] at p l s
  obtain ⟨q1, q2, q3⟩ := mvh_lists p h.srt l s hle
  have := h.hb
  refine ⟨h.ha, by omega, ?_, ?_, ?_⟩ <;> rw [rev_out, toList_ext]
  · exact (swap _ _ _).trans q1
  · exact q2
  · exact fun x hx y hy => q3 x (by rcases List.mem_append.mp hx with hx | hx <;> simp [hx]) y hy
theorem ext_oneR {a : Array Keyed} {i : Nat} {x : Keyed} (e : a[i]? = some x) (out : Array Keyed) : out.push x = out ++ (a.extract i (i + 1)).reverse := by
  have : a.extract i (i + 1) = #[x] := by
    apply Array.ext'
    rw [toList_ext, take_one e]
  rw [this]
  rfl
theorem toList_pre {a : Array Keyed} {n : Nat} : (a.extract 0 n).toList = a.toList.take n := by
  have := toList_ext (a := a) (i := 0) (k := n)
  rw [Nat.zero_add] at this
  rw [this]; rfl
theorem MH.done {out : Array Keyed} {na nb : Nat} (h : MH ky a b na nb out) (sa : SL ky a.toList) (sb : SL ky b.toList) (he : na = 0 ∨ nb = 0) : Res ky a b (a.extract 0 na ++ b.extract 0 nb ++ out.reverse) := by
  unfold Res
  rw [Array.toList_append, Array.toList_append, toList_pre, toList_pre, Array.toList_reverse]
  refine ⟨by rw [List.append_assoc]; exact h.perm, List.pairwise_append.mpr ⟨List.pairwise_append.mpr ⟨sa.take na, sb.take nb, fun x hx y hy => ?_⟩, h.srt, h.le⟩⟩
  rcases he with e | e
  · subst e; rw [List.take_zero] at hx; cases hx
  · subst e; rw [List.take_zero] at hy; cases hy
theorem MH.first {out : Array Keyed} {na nb : Nat} (h : MH ky a b na nb out) (X : MC ky a₀ a b) (he : nb = 1) : Res ky a b (b.extract 0 nb ++ a.extract 0 na ++ out.reverse) := by
  unfold Res
  rw [Array.toList_append, Array.toList_append, toList_pre, toList_pre, Array.toList_reverse]
  refine ⟨?_, List.pairwise_append.mpr ⟨List.pairwise_append.mpr ⟨X.sb.take nb, X.sa.take na, fun x hx y hy => ?_⟩, h.srt, fun x hx y hy => h.le x (by rcases List.mem_append.mp hx with hx | hx <;> simp [hx]) y hy⟩⟩
  · refine List.Perm.trans ?_ h.perm
    rw [← List.append_assoc]; exact List.Perm.append_right _ List.perm_append_comm
  · subst he
    obtain ⟨j, j1, j2, j3⟩ := mem_t hx
    have : j = 0 := by omega
    subst this
    exact X.hf y (List.mem_of_mem_take hy) x j3
theorem MH.size {out : Array Keyed} {na nb : Nat} (h : MH ky a b na nb out) : out.size + na + nb = a.size + b.size := by
  have := h.perm.length_eq
  have h1 := h.ha
  have h2 := h.hb
  simp at this
  omega
abbrev H2 : Type := Option (Array Keyed) × Nat × Nat × Array Keyed × Nat × Nat × Nat
def Jnv2 (ky : Keyed → O.α) (a b : Array Keyed) (st₀ : SortSt) (N : Nat) (c : H2) (st' : SortSt) : Prop := ∃ na nb out mg ac bc, c = (none, na, nb, out, mg, ac, bc) ∧ Sm st₀ st' ∧ MH ky a b na nb out ∧ 1 ≤ na ∧ 2 ≤ nb ∧ N ≤ out.size
def Qost2 (ky : Keyed → O.α) (a b : Array Keyed) (st₀ : SortSt) (N : Nat) (c : H2) (st' : SortSt) : Prop := Jnv2 ky a b st₀ N c st' ∨ ∃ r rest, c = (some r, rest) ∧ Sm st₀ st' ∧ Res ky a b r
abbrev Put2 (ky : Keyed → O.α) (a b : Array Keyed) (st₀ : SortSt) (N : Nat) (r : ForInStep H2) (st' : SortSt) : Prop := match r with | .done c => Qost2 ky a b st₀ N c st' | .yield c => Jnv2 ky a b st₀ N c st'
def hiP3 (a b : Array Keyed) (na nb : Nat) (out : Array Keyed) (mg ac bc : Nat) : StateT SortSt Sem (ForInStep H2) := do
  let x ← elem' a (na - 1)
  if (na - 1 == 0) = true then pure (ForInStep.done (some (a.extract 0 (na - 1) ++ b.extract 0 nb ++ (out.push x).reverse), na - 1, nb, out.push x, mg, ac, bc))
  else if (decide (ac < 7) && decide (bc < 7)) = true then pure (ForInStep.done (none, na - 1, nb, out.push x, mg, ac, bc))
  else pure (ForInStep.yield (none, na - 1, nb, out.push x, mg, ac, bc))
theorem MH.oneA {out : Array Keyed} {na nb : Nat} {x : Keyed} (h : MH ky a b na nb out) (sa : SL ky a.toList) (h1 : 1 ≤ na) (e : a[na - 1]? = some x) (hle : ∀ y ∈ b.toList.take nb, O.kle (ky y) (ky x)) : MH ky a b (na - 1) nb (out.push x) := by
  have h' : MH ky a b (na - 1 + 1) nb out := by rw [show na - 1 + 1 = na by omega]; exact h
  have := h'.mvA sa (fun z hz y hy => by rw [take_one e] at hz; rw [List.mem_singleton.mp hz]; exact hle y hy)
  rw [← ext_oneR e] at this
  exact this
theorem MH.oneB {out : Array Keyed} {na nb : Nat} {y : Keyed} (h : MH ky a b na nb out) (sb : SL ky b.toList) (h1 : 1 ≤ nb) (e : b[nb - 1]? = some y) (hle : ∀ x ∈ a.toList.take na, O.kle (ky x) (ky y)) : MH ky a b na (nb - 1) (out.push y) := by
  have h' : MH ky a b na (nb - 1 + 1) out := by rw [show nb - 1 + 1 = nb by omega]; exact h
  have := h'.mvB sb (fun z hz y hy => by rw [take_one e] at hz; rw [List.mem_singleton.mp hz]; exact hle y hy)
  rw [← ext_oneR e] at this
  exact this
theorem wpS_hiP3 {st : SortSt} {out : Array Keyed} {na nb mg ac bc N : Nat} (X : MC ky a₀ a b) (hS : Sm st₀ st) (hI : MH ky a b na nb out) (h1 : 1 ≤ na) (h2 : 2 ≤ nb) (hN : N ≤ out.size) (hx : ∀ x, a[na - 1]? = some x → ∀ y ∈ b.toList.take nb, O.kle (ky y) (ky x)) : wpS M A E s (hiP3 a b na nb out mg ac bc) (Put2 ky a b st₀ N) st := by
  unfold hiP3
  have hha := hI.ha
  obtain ⟨x, e, hm⟩ := at_lt (a := a) (i := na - 1) (by omega)
  refine wpS_bind (wpS_elem e ?_)
  have hI' := hI.oneA X.sa h1 e (hx x e)
  have hN' : N ≤ (out.push x).size := by rw [Array.size_push]; omega
  by_cases c1 : na - 1 = 0
  · rw [if_pos (by simpa using c1)]
    exact wpS_pure (.inr ⟨_, _, rfl, hS, hI'.done X.sa X.sb (.inl c1)⟩)
  · rw [if_neg (by simpa using c1)]
    have hV : Jnv2 ky a b st₀ N (none, na - 1, nb, out.push x, mg, ac, bc) st := ⟨_, _, _, _, _, _, rfl, hS, hI', by omega, h2, hN'⟩
    split
    · exact wpS_pure (.inl hV)
    · exact wpS_pure hV
def hiP2 (a b : Array Keyed) (na nb : Nat) (out : Array Keyed) (mg ac bc : Nat) : StateT SortSt Sem (ForInStep H2) := do
  let y ← elem' b (nb - 1)
  if (nb - 1 == 1) = true then pure (ForInStep.done (some (b.extract 0 (nb - 1) ++ a.extract 0 na ++ (out.push y).reverse), na, nb - 1, out.push y, mg, ac, bc))
  else do
    let x ← elem' a (na - 1)
    let r ← gallop' true x b 0 (nb - 1) (nb - 1 - 1)
    match r with
    | some k =>
      if nb - 1 - k > 0 then
        if (k == 1) = true then pure (ForInStep.done (some (b.extract 0 k ++ a.extract 0 na ++ (out.push y ++ (b.extract k (nb - 1)).reverse).reverse), na, k, out.push y ++ (b.extract k (nb - 1)).reverse, mg, ac, nb - 1 - k))
        else if (k == 0) = true then pure (ForInStep.done (some (a.extract 0 na ++ b.extract 0 k ++ (out.push y ++ (b.extract k (nb - 1)).reverse).reverse), na, k, out.push y ++ (b.extract k (nb - 1)).reverse, mg, ac, nb - 1 - k))
        else hiP3 a b na k (out.push y ++ (b.extract k (nb - 1)).reverse) mg ac (nb - 1 - k)
      else hiP3 a b na (nb - 1) (out.push y) mg ac (nb - 1 - k)
    | _ => pure (ForInStep.done (some (a.extract 0 na ++ b.extract 0 (nb - 1) ++ (out.push y).reverse), na, nb - 1, out.push y, mg, ac, bc))
theorem wpS_hiP2 {st : SortSt} {out : Array Keyed} {na nb mg ac bc N : Nat} (hC : Cmp M A s O ky κ a₀) (hk : kindOf st = κ) (X : MC ky a₀ a b) (hS : Sm st₀ st) (hI : MH ky a b na nb out) (h1 : 1 ≤ na) (h2 : 2 ≤ nb) (hN : N ≤ out.size) (hy : ∀ y, b[nb - 1]? = some y → ∀ x ∈ a.toList.take na, O.kle (ky x) (ky y)) : wpS M A E s (hiP2 a b na nb out mg ac bc) (Put2 ky a b st₀ N) st := by
  unfold hiP2
  have hha := hI.ha
  have hhb := hI.hb
  obtain ⟨y, e, hm⟩ := at_lt (a := b) (i := nb - 1) (by omega)
  refine wpS_bind (wpS_elem e ?_)
  have hI' := hI.oneB X.sb (by omega) e (hy y e)
  have hN' : N ≤ (out.push y).size := by rw [Array.size_push]; omega
  by_cases c1 : nb - 1 = 1
  · rw [if_pos (by simpa using c1)]
    exact wpS_pure (.inr ⟨_, _, rfl, hS, hI'.first X c1⟩)
  · rw [if_neg (by simpa using c1)]
    obtain ⟨x, ex, hmx⟩ := at_lt (a := a) (i := na - 1) (by omega)
    refine wpS_bind (wpS_elem ex ?_)
    refine wpS_bind (wpS_galL hC hk (X.ma x hmx) (fun i hi => (at_lt (a := b) (i := 0 + i) (by omega)).imp fun z hz => ⟨hz.1, X.mb z hz.2⟩) (X.sb.up (by omega)) (by omega) fun k k1 k2 k3 => ?_)
    dsimp only
    have hrest : ∀ x', a[na - 1]? = some x' → ∀ z ∈ b.toList.take k, O.kle (ky z) (ky x') := by
      intro x' ex' z hz
      rw [ex] at ex'; cases ex'
      obtain ⟨j, j1, j2, j3⟩ := mem_t hz
      have := k2 j j1
      rw [Nat.zero_add, kk_some j3] at this
      exact KeyOrd.kle_of_klt this
    by_cases c2 : nb - 1 - k > 0
    · rw [if_pos c2]
      have hI1 : MH ky a b na (k + (nb - 1 - k)) (out.push y) := by rw [show k + (nb - 1 - k) = nb - 1 by omega]; exact hI'
      have hI2 := hI1.mvB X.sb (fun z hz x' hx' => by
        obtain ⟨j, j1, j2, j3, j4⟩ := mem_dt hz
        have := k3 j j1 (by omega)
        rw [Nat.zero_add, kk_some j4] at this
        obtain ⟨m, m1, m2, m3⟩ := mem_t hx'
        exact KeyOrd.kle_trans (X.sa.at (by omega) m3 ex) this)
      rw [show k + (nb - 1 - k) = nb - 1 by omega] at hI2
      by_cases c3 : k = 1
      · rw [if_pos (by simpa using c3)]
        exact wpS_pure (.inr ⟨_, _, rfl, hS, hI2.first X c3⟩)
      · rw [if_neg (by simpa using c3)]
        by_cases c4 : k = 0
        · rw [if_pos (by simpa using c4)]
          exact wpS_pure (.inr ⟨_, _, rfl, hS, hI2.done X.sa X.sb (.inr c4)⟩)
        · rw [if_neg (by simpa using c4)]
          exact wpS_hiP3 X hS hI2 h1 (by omega) (by rw [Array.size_append]; omega) hrest
    · rw [if_neg c2]
      have : k = nb - 1 := by omega
      rw [this] at hrest
      exact wpS_hiP3 X hS hI' h1 (by omega) hN' hrest
def hiP1 (a b : Array Keyed) (na nb : Nat) (out : Array Keyed) (mg ac bc : Nat) : StateT SortSt Sem (ForInStep H2) := do
  setMinGallop' mg
  let y ← elem' b (nb - 1)
  let r ← gallop' false y a 0 na (na - 1)
  match r with
  | some k =>
    if na - k > 0 then
      if (k == 0) = true then pure (ForInStep.done (some (a.extract 0 k ++ b.extract 0 nb ++ (out ++ (a.extract k na).reverse).reverse), k, nb, out ++ (a.extract k na).reverse, mg, na - k, bc))
      else hiP2 a b k nb (out ++ (a.extract k na).reverse) mg (na - k) bc
    else hiP2 a b na nb out mg (na - k) bc
  | _ => pure (ForInStep.done (some (a.extract 0 na ++ b.extract 0 nb ++ out.reverse), na, nb, out, mg, ac, bc))
theorem wpS_hiP1 {st : SortSt} {out : Array Keyed} {na nb mg ac bc N : Nat} (hC : Cmp M A s O ky κ a₀) (hk : kindOf st₀ = κ) (X : MC ky a₀ a b) (hS : Sm st₀ st) (hI : MH ky a b na nb out) (h1 : 1 ≤ na) (h2 : 2 ≤ nb) (hN : N ≤ out.size) : wpS M A E s (hiP1 a b na nb out mg ac bc) (Put2 ky a b st₀ N) st := by
  unfold hiP1
  refine wpS_bind (wpS_smg fun st' hS1 => ?_)
  have hS' := hS.trans hS1
  have hk' : kindOf st' = κ := hS'.kind.trans hk
  have hha := hI.ha
  have hhb := hI.hb
  obtain ⟨y, e, hm⟩ := at_lt (a := b) (i := nb - 1) (by omega)
  refine wpS_bind (wpS_elem e ?_)
  refine wpS_bind (wpS_galR hC hk' (X.mb y hm) (fun i hi => (at_lt (a := a) (i := 0 + i) (by omega)).imp fun z hz => ⟨hz.1, X.ma z hz.2⟩) (X.sa.up (by omega)) (by omega) fun k k1 k2 k3 => ?_)
  dsimp only
  have hrest : ∀ y', b[nb - 1]? = some y' → ∀ z ∈ a.toList.take k, O.kle (ky z) (ky y') := by
    intro y' ey' z hz
    rw [e] at ey'; cases ey'
    obtain ⟨j, j1, j2, j3⟩ := mem_t hz
    have := k2 j j1
    rw [Nat.zero_add, kk_some j3] at this
    exact this
  by_cases c2 : na - k > 0
  · rw [if_pos c2]
    have hI1 : MH ky a b (k + (na - k)) nb out := by rw [show k + (na - k) = na by omega]; exact hI
    have hI2 := hI1.mvA X.sa (fun z hz x' hx' => by
      obtain ⟨j, j1, j2, j3, j4⟩ := mem_dt hz
      have := k3 j j1 (by omega)
      rw [Nat.zero_add, kk_some j4] at this
      obtain ⟨m, m1, m2, m3⟩ := mem_t hx'
      exact KeyOrd.kle_trans (X.sb.at (by omega) m3 e) (KeyOrd.kle_of_klt this))
    rw [show k + (na - k) = na by omega] at hI2
    by_cases c3 : k = 0
    · rw [if_pos (by simpa using c3)]
      exact wpS_pure (.inr ⟨_, _, rfl, hS', hI2.done X.sa X.sb (.inl c3)⟩)
    · rw [if_neg (by simpa using c3)]
      exact wpS_hiP2 hC hk' X hS' hI2 (by omega) h2 (by rw [Array.size_append]; omega) hrest
  · rw [if_neg c2]
    have : k = na := by omega
    rw [this] at hrest
    rw [this]
    exact wpS_hiP2 hC hk' X hS' hI h1 h2 hN hrest
abbrev H1 : Type := Option (Array Keyed) × Nat × Nat × Array Keyed × Nat × Nat
def Jnv1 (ky : Keyed → O.α) (a b : Array Keyed) (st₀ : SortSt) (N : Nat) (c : H1) (st' : SortSt) : Prop := ∃ na nb out ac bc, c = (none, na, nb, out, ac, bc) ∧ Sm st₀ st' ∧ MH ky a b na nb out ∧ 1 ≤ na ∧ 2 ≤ nb ∧ N ≤ out.size
def Qost1 (ky : Keyed → O.α) (a b : Array Keyed) (st₀ : SortSt) (N : Nat) (c : H1) (st' : SortSt) : Prop := Jnv1 ky a b st₀ N c st' ∨ ∃ r rest, c = (some r, rest) ∧ Sm st₀ st' ∧ Res ky a b r
def hiO (a b : Array Keyed) (na nb : Nat) (out : Array Keyed) (mg ac bc : Nat) : StateT SortSt Sem (ForInStep H1) := do
  let y ← elem' b (nb - 1)
  let x ← elem' a (na - 1)
  let r ← lt' y x
  match r with
  | some aWins =>
    if aWins = true then do
      let x ← elem' a (na - 1)
      if (na - 1 == 0) = true then pure (ForInStep.done (some (a.extract 0 (na - 1) ++ b.extract 0 nb ++ (out.push x).reverse), na - 1, nb, out.push x, ac + 1, 0))
      else if ac + 1 ≥ mg then pure (ForInStep.done (none, na - 1, nb, out.push x, ac + 1, 0))
      else pure (ForInStep.yield (none, na - 1, nb, out.push x, ac + 1, 0))
    else do
      let y ← elem' b (nb - 1)
      if (nb - 1 == 1) = true then pure (ForInStep.done (some (b.extract 0 (nb - 1) ++ a.extract 0 na ++ (out.push y).reverse), na, nb - 1, out.push y, 0, bc + 1))
      else if bc + 1 ≥ mg then pure (ForInStep.done (none, na, nb - 1, out.push y, 0, bc + 1))
      else pure (ForInStep.yield (none, na, nb - 1, out.push y, 0, bc + 1))
  | _ => pure (ForInStep.done (some (a.extract 0 na ++ b.extract 0 nb ++ out.reverse), na, nb, out, ac, bc))
theorem wpS_hiO {st : SortSt} {out : Array Keyed} {na nb mg ac bc N : Nat} (hC : Cmp M A s O ky κ a₀) (hk : kindOf st₀ = κ) (X : MC ky a₀ a b) (hS : Sm st₀ st) (hI : MH ky a b na nb out) (h1 : 1 ≤ na) (h2 : 2 ≤ nb) (hN : N ≤ out.size) : wpS M A E s (hiO a b na nb out mg ac bc) (fun r st' => match r with | .done c => Qost1 ky a b st₀ (N + 1) c st' | .yield c => Jnv1 ky a b st₀ (N + 1) c st') st := by
  unfold hiO
  have hha := hI.ha
  have hhb := hI.hb
  obtain ⟨y, e, hm⟩ := at_lt (a := b) (i := nb - 1) (by omega)
  obtain ⟨x, ex, hmx⟩ := at_lt (a := a) (i := na - 1) (by omega)
  refine wpS_bind (wpS_elem e (wpS_bind (wpS_elem ex ?_)))
  refine wpS_bind (wpS_lt hC (X.mb y hm) (X.ma x hmx) (hS.kind.trans hk) ?_)
  cases hw : O.blt (ky y) (ky x)
  case true =>
    simp only [if_true]
    refine wpS_bind (wpS_elem ex ?_)
    have hI' := hI.oneA X.sa h1 ex (fun z hz => by
      obtain ⟨m, m1, m2, m3⟩ := mem_t hz
      exact KeyOrd.kle_trans (X.sb.at (by omega) m3 e) (KeyOrd.kle_of_klt hw))
    have hN' : N + 1 ≤ (out.push x).size := by rw [Array.size_push]; omega
    by_cases c1 : na - 1 = 0
    · rw [if_pos (by simpa using c1)]
      exact wpS_pure (.inr ⟨_, _, rfl, hS, hI'.done X.sa X.sb (.inl c1)⟩)
    · rw [if_neg (by simpa using c1)]
      have hV : Jnv1 ky a b st₀ (N + 1) (none, na - 1, nb, out.push x, ac + 1, 0) st := ⟨_, _, _, _, _, rfl, hS, hI', by omega, h2, hN'⟩
      split
      · exact wpS_pure (.inl hV)
      · exact wpS_pure hV
  case false =>
    simp only [Bool.false_eq_true, if_false]
    refine wpS_bind (wpS_elem e ?_)
    have hI' := hI.oneB X.sb (by omega) e (fun z hz => by
      obtain ⟨m, m1, m2, m3⟩ := mem_t hz
      exact KeyOrd.kle_trans (X.sa.at (by omega) m3 ex) (show O.kle _ _ from hw))
    have hN' : N + 1 ≤ (out.push y).size := by rw [Array.size_push]; omega
    by_cases c1 : nb - 1 = 1
    · rw [if_pos (by simpa using c1)]
      exact wpS_pure (.inr ⟨_, _, rfl, hS, hI'.first X c1⟩)
    · rw [if_neg (by simpa using c1)]
      have hV : Jnv1 ky a b st₀ (N + 1) (none, na, nb - 1, out.push y, 0, bc + 1) st := ⟨_, _, _, _, _, rfl, hS, hI', h1, by omega, hN'⟩
      split
      · exact wpS_pure (.inl hV)
      · exact wpS_pure hV
theorem Jnv1.mono {N N' : Nat} {c : H1} {st : SortSt} (h : Jnv1 ky a b st₀ N c st) (hN : N' ≤ N) : Jnv1 ky a b st₀ N' c st := by
  obtain ⟨na, nb, out, ac, bc, e, h1, h2, h3, h4, h5⟩ := h
  exact ⟨na, nb, out, ac, bc, e, h1, h2, h3, h4, by omega⟩
theorem Qost1.mono {N N' : Nat} {c : H1} {st : SortSt} (h : Qost1 ky a b st₀ N c st) (hN : N' ≤ N) : Qost1 ky a b st₀ N' c st := h.imp (fun h => h.mono hN) id
abbrev H0 : Type := Option (Array Keyed) × Nat × Nat × Array Keyed × Nat
def Jnv0 (ky : Keyed → O.α) (a b : Array Keyed) (st₀ : SortSt) (N : Nat) (c : H0) (st' : SortSt) : Prop := ∃ na nb out mg, c = (none, na, nb, out, mg) ∧ Sm st₀ st' ∧ MH ky a b na nb out ∧ 1 ≤ na ∧ 2 ≤ nb ∧ N ≤ out.size
def Qost0 (ky : Keyed → O.α) (a b : Array Keyed) (st₀ : SortSt) (c : H0) (st' : SortSt) : Prop := ∃ r rest, c = (some r, rest) ∧ Sm st₀ st' ∧ Res ky a b r
theorem MH.start (ky : Keyed → O.α) (a b : Array Keyed) : MH ky a b a.size b.size #[] := ⟨Nat.le_refl _, Nat.le_refl _, by simp [List.take_of_length_le], List.Pairwise.nil, fun x _ y hy => by cases hy⟩
theorem wpS_mergeHi {st : SortSt} {Q : Array Keyed → SortSt → Prop} (hC : Cmp M A s O ky κ a₀) (hk : kindOf st = κ) (X : MC ky a₀ a b) (h : ∀ r st', Sm st st' → Res ky a b r → Q r st') : wpS M A E s (mergeHi' a b) Q st := by
  rw [mergeHi'_eq]
  refine wpS_bind (wpS_lift (wpAny_rule ⟨rfl, ?_⟩))
  have hna := X.na
  have hnb := X.nb
  obtain ⟨x, e, hm⟩ := at_lt (a := a) (i := a.size - 1) (by omega)
  refine wpS_bind (wpS_elem e ?_)
  dsimp only
  have hI := (MH.start ky a b).oneA X.sa hna e (fun y hy => X.hl y (List.mem_of_mem_take hy) x e)
  have hI : MH ky a b (a.size - 1) b.size #[x] := hI
  by_cases c1 : a.size - 1 = 0
  · rw [if_pos (by simpa using c1)]
    exact wpS_pure (h _ _ (Sm.refl _) (hI.done X.sa X.sb (.inl c1)))
  rw [if_neg (by simpa using c1)]
  by_cases c2 : b.size = 1
  · rw [if_pos (by simpa using c2)]
    exact wpS_pure (h _ _ (Sm.refl _) (hI.first X c2))
  rw [if_neg (by simpa using c2)]
  refine wpS_bind (wpS_get ?_)
  refine wpS_bind (wpS_mono (wpS_forRange (I := fun x c st' => Jnv0 ky a b st (x + 1) c st') (Q := Qost0 ky a b st) ?step ?fin ⟨_, _, _, _, rfl, Sm.refl _, hI, by omega, by omega, by simp⟩) ?post)
  case post =>
    rintro c st' ⟨r, rest, rfl, hS, hR⟩
    exact wpS_pure (h r st' hS hR)
  case fin =>
    rintro c st' ⟨na, nb, out, mg, rfl, hS, hI, h1, h2, hN⟩
    have := hI.size
    exact absurd hN (by omega)
  case step =>
    rintro x c st' _ hx ⟨na, nb, out, mg, rfl, hS, hI, h1, h2, hN⟩
    refine wpS_bind (wpS_mono (wpS_forRange (I := fun j c st' => Jnv1 ky a b st (x + 1 + j) c st') (Q := Qost1 ky a b st (x + 2)) ?s1 ?f1 ⟨_, _, _, _, _, rfl, hS, hI, h1, h2, by omega⟩) ?p1)
    case f1 =>
      intro c st' hc
      exact .inl (hc.mono (by omega))
    case s1 =>
      rintro j c st' _ hj ⟨na, nb, out, ac, bc, rfl, hS, hI, h1, h2, hN⟩
      refine wpS_mono (wpS_hiO (mg := mg) (ac := ac) (bc := bc) hC hk X hS hI h1 h2 hN) fun r st' hr => ?_
      cases r with
      | done c => exact Qost1.mono hr (by omega)
      | yield c => exact Jnv1.mono hr (by omega)
    case p1 =>
      rintro c st' (⟨na, nb, out, ac, bc, rfl, hS, hI, h1, h2, hN⟩ | ⟨r, rest, rfl, hS, hR⟩)
      · dsimp only
        refine wpS_bind (wpS_lift (wpAny_rule ⟨rfl, ?_⟩))
        refine wpS_bind (wpS_mono (wpS_forRange (I := fun _ c st' => Jnv2 ky a b st (x + 2) c st') (Q := Qost2 ky a b st (x + 2)) ?s2 ?f2 ⟨_, _, _, _, _, _, rfl, hS, hI, h1, h2, hN⟩) ?p2)
        case f2 => exact fun c st' hc => .inl hc
        case s2 =>
          rintro j c st' _ hj ⟨na, nb, out, mg, ac, bc, rfl, hS, hI, h1, h2, hN⟩
          by_cases c3 : mg > 1
          · dsimp only
            rw [if_pos c3]
            refine wpS_mono (wpS_hiP1 (mg := mg - 1) (ac := ac) (bc := bc) hC hk X hS hI h1 h2 hN) fun r st' hr => ?_
            cases r with
            | done c => exact hr
            | yield c => exact hr
          · dsimp only
            rw [if_neg c3]
            refine wpS_mono (wpS_hiP1 (mg := mg) (ac := ac) (bc := bc) hC hk X hS hI h1 h2 hN) fun r st' hr => ?_
            cases r with
            | done c => exact hr
            | yield c => exact hr
        case p2 =>
          rintro c st' (⟨na, nb, out, mg, ac, bc, rfl, hS, hI, h1, h2, hN⟩ | ⟨r, rest, rfl, hS, hR⟩)
          · dsimp only
            exact wpS_bind (wpS_smg fun st' hS1 => wpS_pure ⟨_, _, _, _, rfl, hS.trans hS1, hI, h1, h2, by omega⟩)
          · exact wpS_pure ⟨_, _, rfl, hS, hR⟩
      · exact wpS_pure ⟨_, _, rfl, hS, hR⟩
end
end SO
namespace SO
open PySem PyProof PyProof.Rows
section
variable {M : Model} {A : Around} {E : Value → Shared → Prop} {s : Shared} {O : KeyOrd} {ky : Keyed → O.α} {κ : SortKind} {a₀ : Array Keyed}
theorem mergeAt'_eq (i : Nat) : mergeAt' i = (do
  let s ← get
  let (some (sa, na, power), some (sb, nb, _)) := ((pendingOf s)[i]?, (pendingOf s)[i + 1]?) | unsupported "internal:list.sort.pending"
  set (setPending s (((pendingOf s).setIfInBounds i (sa, na + nb, power)).eraseIdxIfInBounds (i + 1)))
  let some k ← gallop' false (← elem' (arrOf s) sb) (arrOf s) sa na 0 | return false
  let (sa, na) := (sa + k, na - k)
  if na == 0 then return true
  let some nb ← gallop' true (← elem' (arrOf s) (sa + na - 1)) (arrOf s) sb nb (nb - 1) | return false
  if nb == 0 then return true
  let x := (arrOf s).extract sa sb
  let y := (arrOf s).extract sb (sb + nb)
  let merged ← if na ≤ nb then mergeLo' x y else mergeHi' x y
  modify fun s => setArr s (merged.toList.zipIdx.foldl (fun a (p, j) => a.setIfInBounds (sa + j) p) (arrOf s))
  return (failedOf (← get)).isNone) := rfl

def wb (xs : Array Keyed) (lo : Nat) (l : List Keyed) : Array Keyed := l.zipIdx.foldl (fun a (p, j) => a.setIfInBounds (lo + j) p) xs
theorem wb_at : ∀ (l : List Keyed) (n : Nat) (xs : Array Keyed) (lo : Nat), lo + n + l.length ≤ xs.size → ∀ k, ((l.zipIdx n).foldl (fun (a : Array Keyed) (q : Keyed × Nat) => a.setIfInBounds (lo + q.2) q.1) xs)[k]? = if lo + n ≤ k ∧ k < lo + n + l.length then l[k - (lo + n)]? else xs[k]?
  | [], n, xs, lo, _, k => by
    rw [List.zipIdx_nil, List.foldl_nil, if_neg (by simp)]
  | x :: l, n, xs, lo, h, k => by
    rw [List.zipIdx_cons, List.foldl_cons]
    rw [List.length_cons] at h ⊢
    rw [wb_at l (n + 1) _ lo (by rw [Array.size_setIfInBounds]; omega) k]
    by_cases c1 : lo + (n + 1) ≤ k ∧ k < lo + (n + 1) + l.length
    · rw [if_pos c1, if_pos (by omega), show k - (lo + n) = (k - (lo + (n + 1))) + 1 by omega, List.getElem?_cons_succ]
    · rw [if_neg c1]
      by_cases c2 : k = lo + n
      · subst c2
        rw [if_pos (by omega), Nat.sub_self, List.getElem?_cons_zero, Array.getElem?_setIfInBounds_self_of_lt (by omega)]
      · rw [if_neg (by omega), Array.getElem?_setIfInBounds_ne (by omega)]
theorem wb_get {l : List Keyed} {xs : Array Keyed} {lo : Nat} (h : lo + l.length ≤ xs.size) (k : Nat) : (wb xs lo l)[k]? = if lo ≤ k ∧ k < lo + l.length then l[k - lo]? else xs[k]? := by
  have := wb_at l 0 xs lo (by omega) k
  rw [Nat.add_zero] at this
  exact this
theorem wb_list {l : List Keyed} {xs : Array Keyed} {lo : Nat} (h : lo + l.length ≤ xs.size) : (wb xs lo l).toList = xs.toList.take lo ++ (l ++ xs.toList.drop (lo + l.length)) := by
  apply List.ext_getElem?
  intro k
  rw [Array.getElem?_toList, wb_get h]
  have hl : (xs.toList.take lo).length = lo := by simp; omega
  by_cases c1 : k < lo
  · rw [if_neg (by omega), List.getElem?_append_left (by omega), List.getElem?_take_of_lt c1, Array.getElem?_toList]
  · rw [List.getElem?_append_right (by omega), hl]
    by_cases c2 : k < lo + l.length
    · rw [if_pos (by omega), List.getElem?_append_left (by omega)]
    · rw [if_neg (by omega), List.getElem?_append_right (by omega), List.getElem?_drop, show lo + l.length + (k - lo - l.length) = k by omega, Array.getElem?_toList]
theorem seg_two {xs : Array Keyed} {lo n m : Nat} : (xs.toList.drop lo).take (n + m) = (xs.extract lo (lo + n)).toList ++ (xs.extract (lo + n) (lo + n + m)).toList := by
  rw [toList_ext, toList_ext, List.take_add, List.drop_drop]
theorem wb_perm {r xs : Array Keyed} {lo n m : Nat} (hm : lo + n + m ≤ xs.size) (h : r.toList.Perm ((xs.extract lo (lo + n)).toList ++ (xs.extract (lo + n) (lo + n + m)).toList)) : (wb xs lo r.toList).Perm xs := by
  have hl : r.toList.length = n + m := by
    rw [h.length_eq, ← seg_two]; simp; omega
  rw [Array.perm_iff_toList_perm, wb_list (by omega), hl]
  conv => rhs; rw [← List.take_append_drop lo xs.toList, ← List.take_append_drop (n + m) (xs.toList.drop lo)]
  refine List.Perm.append_left _ ?_
  rw [List.drop_drop]
  refine List.Perm.append_right _ ?_
  rw [seg_two]
  exact h
theorem up_kk {xs : Array Keyed} {lo n i j : Nat} (h : Up ky xs lo n) (h1 : lo ≤ i) (h2 : i ≤ j) (h3 : j < lo + n) : O.kle (kk ky xs i) (kk ky xs j) := by
  have := h (i - lo) (j - lo) (by omega) (by omega)
  rw [show lo + (i - lo) = i by omega, show lo + (j - lo) = j by omega] at this
  exact this
theorem mem_ext {xs : Array Keyed} {lo n : Nat} {x : Keyed} (h : x ∈ (xs.extract lo (lo + n)).toList) : ∃ j, lo ≤ j ∧ j < lo + n ∧ j < xs.size ∧ kk ky xs j = ky x := by
  rw [toList_ext] at h
  obtain ⟨j, j1, j2, j3, j4⟩ := mem_dt h
  exact ⟨j, j1, j2, j3, kk_some j4⟩

theorem wb_up {r xs : Array Keyed} {sa na nb k m : Nat} (hA : Up ky xs sa na) (hB : Up ky xs (sa + na) nb) (hsz : sa + na + nb ≤ xs.size) (hk : k < na) (hm : m ≤ nb) (hm0 : 1 ≤ nb)
    (k1 : ∀ i, i < k → O.kle (kk ky xs (sa + i)) (kk ky xs (sa + na))) (k2 : ∀ i, m ≤ i → i < nb → O.kle (kk ky xs (sa + na - 1)) (kk ky xs (sa + na + i)))
    (hp : r.toList.Perm ((xs.extract (sa + k) (sa + k + (na - k))).toList ++ (xs.extract (sa + k + (na - k)) (sa + k + (na - k) + m)).toList)) (hs : SL ky r.toList) : Up ky (wb xs (sa + k) r.toList) sa (na + nb) := by
  have hl : r.toList.length = (na - k) + m := by
    rw [hp.length_eq, ← seg_two]; simp; omega
  have hl' : r.size = (na - k) + m := by rw [← hl]; simp
  have hw := wb_get (l := r.toList) (xs := xs) (lo := sa + k) (by omega)
  have old : ∀ j, (j < sa + k ∨ sa + na + m ≤ j) → kk ky (wb xs (sa + k) r.toList) j = kk ky xs j := fun j hj => kk_congr (by rw [hw, if_neg (by omega)])
  have new : ∀ j, sa + k ≤ j → j < sa + na + m → ∃ x, kk ky (wb xs (sa + k) r.toList) j = ky x ∧ r[j - (sa + k)]? = some x := fun j h1 h2 => by
    obtain ⟨x, e, hx⟩ := at_lt (a := r) (i := j - (sa + k)) (by omega)
    refine ⟨x, kk_some ?_, e⟩
    rw [hw, if_pos (by omega), Array.getElem?_toList, e]
  have src : ∀ x ∈ r.toList, ∃ j, kk ky xs j = ky x ∧ ((sa + k ≤ j ∧ j < sa + na) ∨ (sa + na ≤ j ∧ j < sa + na + m)) := fun x hx => by
    rcases List.mem_append.mp (hp.mem_iff.mp hx) with h | h
    · obtain ⟨j, j1, j2, j3, j4⟩ := mem_ext (ky := ky) h
      exact ⟨j, j4, .inl ⟨j1, by omega⟩⟩
    · obtain ⟨j, j1, j2, j3, j4⟩ := mem_ext (ky := ky) h
      exact ⟨j, j4, .inr ⟨by omega, by omega⟩⟩
  intro i j hij hj
  by_cases ci : i < k
  · rw [old (sa + i) (by omega)]
    have toB : ∀ q, sa + na ≤ q → q < sa + na + nb → O.kle (kk ky xs (sa + i)) (kk ky xs q) := fun q h1 h2 => KeyOrd.kle_trans (k1 i ci) (up_kk hB (Nat.le_refl _) h1 h2)
    by_cases cj : j < k
    · rw [old (sa + j) (by omega)]
      exact up_kk hA (by omega) (by omega) (by omega)
    · by_cases cm : sa + j < sa + na + m
      · obtain ⟨x, e1, e2⟩ := new (sa + j) (by omega) cm
        rw [e1]
        obtain ⟨q, q1, q2 | q2⟩ := src x (mem_at e2)
        · rw [← q1]; exact up_kk hA (by omega) (by omega) (by omega)
        · rw [← q1]; exact toB q (by omega) (by omega)
      · rw [old (sa + j) (by omega)]
        exact toB _ (by omega) (by omega)
  · by_cases cmi : sa + i < sa + na + m
    · obtain ⟨x, e1, e2⟩ := new (sa + i) (by omega) cmi
      rw [e1]
      by_cases cm : sa + j < sa + na + m
      · obtain ⟨y, f1, f2⟩ := new (sa + j) (by omega) cm
        rw [f1]
        exact hs.at (by omega) e2 f2
      · rw [old (sa + j) (by omega)]
        obtain ⟨q, q1, q2 | q2⟩ := src x (mem_at e2)
        · rw [← q1]
          refine KeyOrd.kle_trans (up_kk hA (by omega) (show q ≤ sa + na - 1 by omega) (by omega)) ?_
          have := k2 (j - na) (by omega) (by omega)
          rw [show sa + na + (j - na) = sa + j by omega] at this
          exact this
        · rw [← q1]; exact up_kk hB (by omega) (by omega) (by omega)
    · rw [old (sa + i) (by omega), old (sa + j) (by omega)]
      exact up_kk hB (by omega) (by omega) (by omega)

theorem two_up {xs : Array Keyed} {sa na nb : Nat} (hA : Up ky xs sa na) (hB : Up ky xs (sa + na) nb) (ha : 1 ≤ na) (h : ∀ i, i < nb → O.kle (kk ky xs (sa + na - 1)) (kk ky xs (sa + na + i))) : Up ky xs sa (na + nb) := by
  intro i j hij hj
  by_cases cj : j < na
  · exact up_kk hA (by omega) (by omega) (by omega)
  · by_cases ci : i < na
    · refine KeyOrd.kle_trans (up_kk hA (by omega) (show sa + i ≤ sa + na - 1 by omega) (by omega)) ?_
      have := h (j - na) (by omega)
      rw [show sa + na + (j - na) = sa + j by omega] at this
      exact this
    · exact up_kk hB (by omega) (by omega) (by omega)

def Ch (ky : Keyed → O.α) (xs : Array Keyed) : List (Nat × Nat × Nat) → Nat → Nat → Prop
  | [], a, b => a = b
  | (s, n, _) :: r, a, b => s = a ∧ 1 ≤ n ∧ Up ky xs s n ∧ Ch ky xs r (a + n) b
theorem Ch.le {xs : Array Keyed} : ∀ {l : List (Nat × Nat × Nat)} {a b : Nat}, Ch ky xs l a b → a + l.length ≤ b
  | [], a, b, h => by cases h; simp
  | (s, n, w) :: r, a, b, h => by
    have := Ch.le h.2.2.2
    have := h.2.1
    rw [List.length_cons]; omega
theorem Ch.app {xs : Array Keyed} : ∀ {l r : List (Nat × Nat × Nat)} {a b : Nat}, Ch ky xs (l ++ r) a b ↔ ∃ m, Ch ky xs l a m ∧ Ch ky xs r m b
  | [], r, a, b => ⟨fun h => ⟨a, rfl, h⟩, fun ⟨m, e, h⟩ => by cases e; exact h⟩
  | (s, n, w) :: l, r, a, b => by
    constructor
    · rintro ⟨h1, h2, h3, h4⟩
      obtain ⟨m, m1, m2⟩ := Ch.app.mp h4
      exact ⟨m, ⟨h1, h2, h3, m1⟩, m2⟩
    · rintro ⟨m, ⟨h1, h2, h3, h4⟩, h5⟩
      exact ⟨h1, h2, h3, Ch.app.mpr ⟨m, h4, h5⟩⟩
theorem Up.ag {xs ys : Array Keyed} {lo hi a n : Nat} (h : Up ky xs a n) (g : Ag xs ys lo hi) (ho : a + n ≤ lo ∨ hi ≤ a) : Up ky ys a n := by
  intro i j hij hj
  rw [kk_congr (g (a + i) (by omega)), kk_congr (g (a + j) (by omega))]
  exact h i j hij hj
theorem Ch.ag {xs ys : Array Keyed} {lo hi : Nat} (g : Ag xs ys lo hi) : ∀ {l : List (Nat × Nat × Nat)} {a b : Nat}, Ch ky xs l a b → (b ≤ lo ∨ hi ≤ a) → Ch ky ys l a b
  | [], a, b, h, _ => h
  | (s, n, w) :: r, a, b, h, ho => by
    obtain ⟨rfl, h2, h3, h4⟩ := h
    have := h4.le
    exact ⟨rfl, h2, h3.ag g (by omega), Ch.ag g h4 (by omega)⟩
theorem Ch.third {xs : Array Keyed} {f : Nat × Nat × Nat → Nat × Nat × Nat} (hf : ∀ q, (f q).1 = q.1 ∧ (f q).2.1 = q.2.1) : ∀ {l : List (Nat × Nat × Nat)} {a b i : Nat}, Ch ky xs l a b → Ch ky xs (l.modify i f) a b
  | [], a, b, i, h => by rw [List.modify_nil]; exact h
  | (s, n, w) :: r, a, b, 0, h => by
    rw [List.modify_zero_cons]
    obtain ⟨e1, e2⟩ := hf (s, n, w)
    generalize hq : f (s, n, w) = q at e1 e2 ⊢
    obtain ⟨s', n', w'⟩ := q
    have e1 : s' = s := e1
    have e2 : n' = n := e2
    subst e1; subst e2
    exact h
  | (s, n, w) :: r, a, b, i + 1, h => by
    rw [List.modify_succ_cons]
    exact ⟨h.1, h.2.1, h.2.2.1, Ch.third hf h.2.2.2⟩
theorem pend_split {p : Array (Nat × Nat × Nat)} {i : Nat} (h : i + 1 < p.size) : ∃ l1 sa na pw sb nb w2 l2, p.toList = l1 ++ (sa, na, pw) :: (sb, nb, w2) :: l2 ∧ l1.length = i ∧ p[i]? = some (sa, na, pw) ∧ p[i + 1]? = some (sb, nb, w2) := by
  have e1 : p.toList.drop i = p.toList[i]'(by simp; omega) :: p.toList.drop (i + 1) := List.drop_eq_getElem_cons _
  have e2 : p.toList.drop (i + 1) = p.toList[i + 1]'(by simp; omega) :: p.toList.drop (i + 2) := List.drop_eq_getElem_cons _
  refine ⟨p.toList.take i, p[i].1, p[i].2.1, p[i].2.2, p[i + 1].1, p[i + 1].2.1, p[i + 1].2.2, p.toList.drop (i + 2), ?_, by simp; omega, getElem?_pos p i (by omega), getElem?_pos p (i + 1) h⟩
  conv => lhs; rw [← List.take_append_drop i p.toList, e1, e2]
  rfl
theorem pend_merge {p : Array (Nat × Nat × Nat)} {l1 l2 : List (Nat × Nat × Nat)} {u v x : Nat × Nat × Nat} {i : Nat} (e : p.toList = l1 ++ u :: v :: l2) (hl : l1.length = i) : ((p.setIfInBounds i x).eraseIdxIfInBounds (i + 1)).toList = l1 ++ x :: l2 := by
  have hs : p.size = l1.length + (l2.length + 2) := by rw [← Array.length_toList, e]; simp
  rw [Array.eraseIdxIfInBounds, dif_pos (by rw [Array.size_setIfInBounds]; omega), Array.toList_eraseIdx, Array.toList_setIfInBounds, e]
  subst hl
  rw [List.set_append_right _ _ (Nat.le_refl _), Nat.sub_self, List.set_cons_zero, List.eraseIdx_append_of_length_le (by omega), show l1.length + 1 - l1.length = 1 by omega]
  rfl
theorem wpS_set' {st st' : SortSt} {Q : PUnit → SortSt → Prop} (h : Q ⟨⟩ st') : wpS M A E s (set st' : StateT SortSt Sem PUnit) Q st := by
  unfold wpS; rw [StateT.run_set]; exact wpAny_pure ⟨rfl, h⟩
theorem wpS_mergeAt {st : SortSt} {i hi : Nat} {Q : Bool → SortSt → Prop} (hC : Cmp M A s O ky κ a₀) (hB : SB κ a₀ st) (hi1 : i + 1 < (pendingOf st).size) (hc : Ch ky (arrOf st) (pendingOf st).toList 0 hi) (hhi : hi ≤ a₀.size)
    (h : ∀ st', SB κ a₀ st' → (pendingOf st').size + 1 = (pendingOf st).size → Ch ky (arrOf st') (pendingOf st').toList 0 hi → Ag (arrOf st) (arrOf st') 0 hi → Q true st') : wpS M A E s (mergeAt' i) Q st := by
  obtain ⟨l1, sa, na, pw, sb, nb, w2, l2, ep, el, e1, e2⟩ := pend_split hi1
  rw [mergeAt'_eq]
  refine wpS_bind (wpS_get ?_)
  rw [e1, e2]
  rw [ep] at hc
  obtain ⟨m, c1, hsa, hna, uA, hsb, hnb, uB, c2⟩ := Ch.app.mp hc
  subst hsa
  subst hsb
  have hle := c2.le
  have hle1 := c1.le
  have hsz : (arrOf st).size = a₀.size := hB.size
  have hpe := pend_merge (x := (sa, na + nb, pw)) ep el
  have hps : (((pendingOf st).setIfInBounds i (sa, na + nb, pw)).eraseIdxIfInBounds (i + 1)).size + 1 = (pendingOf st).size := by
    rw [← Array.length_toList, hpe, ← Array.length_toList (xs := pendingOf st), ep]; simp; omega
  generalize hp' : ((pendingOf st).setIfInBounds i (sa, na + nb, pw)).eraseIdxIfInBounds (i + 1) = p' at hpe hps
  dsimp only
  rw [hp']
  have fin : ∀ st' : SortSt, SB κ a₀ st' → pendingOf st' = p' → Ag (arrOf st) (arrOf st') sa (sa + na + nb) → Up ky (arrOf st') sa (na + nb) → Q true st' := by
    intro st' hB' hP' hG hU
    refine h st' hB' (by rw [hP']; exact hps) ?_ (fun q hq => hG q (by omega))
    rw [hP', hpe]
    refine Ch.app.mpr ⟨sa, c1.ag hG (.inl (Nat.le_refl _)), rfl, by omega, hU, ?_⟩
    rw [← Nat.add_assoc]
    exact c2.ag hG (.inr (Nat.le_refl _))
  refine wpS_bind (wpS_set' ?_)
  have hBp : SB κ a₀ (setPending st p') := ⟨hB.perm, hB.kind, hB.failed⟩
  have inA : ∀ q, q < a₀.size → ∃ x, (arrOf st)[q]? = some x ∧ x ∈ a₀.toList := fun q hq => by
    obtain ⟨x, x1, x2, _⟩ := hB.at (ky := ky) hq
    exact ⟨x, x1, x2⟩
  obtain ⟨y0, ey0, hy0⟩ := inA (sa + na) (by omega)
  refine wpS_bind (wpS_elem ey0 ?_)
  refine wpS_bind (wpS_galR (ky := ky) hC hBp.kind hy0 (fun q hq => inA (sa + q) (by omega)) uA (by omega) fun k k1 k2 k3 => ?_)
  dsimp only
  rw [← kk_some (ky := ky) ey0] at k2 k3
  by_cases d1 : na - k = 0
  · rw [if_pos (by simpa using d1)]
    refine wpS_pure (fin _ hBp rfl (Ag.refl _ _ _) (two_up uA uB hna fun q hq => ?_))
    refine KeyOrd.kle_trans ?_ (up_kk uB (Nat.le_refl _) (by omega) (by omega))
    have := k2 (na - 1) (by omega)
    rw [show sa + (na - 1) = sa + na - 1 by omega] at this
    exact this
  rw [if_neg (by simpa using d1)]
  obtain ⟨x0, ex0, hx0⟩ := inA (sa + na - 1) (by omega)
  have ex0' : (arrOf st)[sa + k + (na - k) - 1]? = some x0 := by rw [show sa + k + (na - k) - 1 = sa + na - 1 by omega]; exact ex0
  refine wpS_bind (wpS_elem ex0' ?_)
  refine wpS_bind (wpS_galL (ky := ky) hC hBp.kind hx0 (fun q hq => inA (sa + na + q) (by omega)) uB (by omega) fun m m1 m2 m3 => ?_)
  dsimp only
  rw [← kk_some (ky := ky) ex0] at m2 m3
  by_cases d2 : m = 0
  · rw [if_pos (by simpa using d2)]
    subst d2
    exact wpS_pure (fin _ hBp rfl (Ag.refl _ _ _) (two_up uA uB hna fun q hq => m3 q (Nat.zero_le _) hq))
  rw [if_neg (by simpa using d2)]
  have exA : (arrOf st).extract (sa + k) (sa + na) = (arrOf st).extract (sa + k) (sa + k + (na - k)) := by congr 1; omega
  have exB : (arrOf st).extract (sa + na) (sa + na + m) = (arrOf st).extract (sa + k + (na - k)) (sa + k + (na - k) + m) := by congr 1 <;> omega
  have szA : ((arrOf st).extract (sa + k) (sa + na)).size = na - k := by rw [Array.size_extract]; omega
  have szB : ((arrOf st).extract (sa + na) (sa + na + m)).size = m := by rw [Array.size_extract]; omega
  have atA : ∀ q, q < na - k → ((arrOf st).extract (sa + k) (sa + na))[q]? = (arrOf st)[sa + k + q]? := fun q hq => by
    rw [Array.getElem?_extract, if_pos (by omega)]
  have atB : ∀ q, q < m → ((arrOf st).extract (sa + na) (sa + na + m))[q]? = (arrOf st)[sa + na + q]? := fun q hq => by
    rw [Array.getElem?_extract, if_pos (by omega)]
  have X : MC ky a₀ ((arrOf st).extract (sa + k) (sa + na)) ((arrOf st).extract (sa + na) (sa + na + m)) := by
    refine ⟨fun x hx => ?_, fun x hx => ?_, up_SL ?_, up_SL ?_, by omega, by omega, fun y hy x ex => ?_, fun x hx y ey => ?_⟩
    · rw [exA, toList_ext] at hx
      exact hB.mem (List.mem_of_mem_drop (List.mem_of_mem_take hx))
    · rw [toList_ext] at hx
      exact hB.mem (List.mem_of_mem_drop (List.mem_of_mem_take hx))
    · rw [szA]
      intro u v huv hv
      rw [Nat.zero_add, Nat.zero_add, kk_congr (atA u (by omega)), kk_congr (atA v hv)]
      exact up_kk uA (by omega) (by omega) (by omega)
    · rw [szB]
      intro u v huv hv
      rw [Nat.zero_add, Nat.zero_add, kk_congr (atB u (by omega)), kk_congr (atB v hv)]
      exact up_kk uB (by omega) (by omega) (by omega)
    · rw [szA, atA _ (by omega), show sa + k + (na - k - 1) = sa + na - 1 by omega, ex0] at ex
      cases ex
      obtain ⟨q, q1, q2, q3, q4⟩ := mem_ext (ky := ky) hy
      have := m2 (q - (sa + na)) (by omega)
      rw [show sa + na + (q - (sa + na)) = q by omega, q4, kk_some ex0] at this
      exact KeyOrd.kle_of_klt this
    · rw [atB 0 (by omega), Nat.add_zero, ey0] at ey
      cases ey
      rw [exA] at hx
      obtain ⟨q, q1, q2, q3, q4⟩ := mem_ext (ky := ky) hx
      have := k3 (q - sa) (by omega) (by omega)
      rw [show sa + (q - sa) = q by omega, q4, kk_some ey0] at this
      exact KeyOrd.kle_of_klt this
  have after : ∀ r (st' : SortSt), Sm (setPending st p') st' → Res ky ((arrOf st).extract (sa + k) (sa + na)) ((arrOf st).extract (sa + na) (sa + na + m)) r →
      wpS M A E s (do
        modify fun s => setArr s (r.toList.zipIdx.foldl (fun a (p, j) => a.setIfInBounds (sa + k + j) p) (arrOf s))
        return (failedOf (← get)).isNone) Q st' := by
    intro r st' hS hR
    have hR1 := hR.1
    rw [exA, exB] at hR1
    have hl : r.toList.length = (na - k) + m := by rw [hR1.length_eq, ← seg_two]; simp; omega
    refine wpS_bind (wpS_modify (wpS_bind (wpS_get (wpS_pure ?_))))
    have ea : arrOf st' = arrOf st := hS.arr
    have hf : failedOf st' = none := hS.failed.trans hB.failed
    have hf' : (failedOf (setArr st' (wb (arrOf st') (sa + k) r.toList))).isNone = true := by
      show (failedOf st').isNone = true
      rw [hf]; rfl
    show Q (failedOf (setArr st' (wb (arrOf st') (sa + k) r.toList))).isNone (setArr st' (wb (arrOf st') (sa + k) r.toList))
    rw [hf', ea]
    refine fin _ ⟨(wb_perm (by omega) hR1).trans hB.perm, hS.kind.trans hB.kind, hf⟩ hS.pend (fun q hq => ?_) (wb_up uA uB (by omega) (by omega) m1 hnb k2 m3 hR1 hR.2)
    show (wb (arrOf st) (sa + k) r.toList)[q]? = _
    rw [wb_get (by omega), if_neg (by omega)]
  by_cases d3 : na - k ≤ m
  · rw [if_pos d3]
    exact wpS_bind (wpS_mergeLo hC hBp.kind X after)
  · rw [if_neg d3]
    exact wpS_bind (wpS_mergeHi hC hBp.kind X after)
end
end SO
namespace SO
open PySem PyProof PyProof.Rows
section
variable {M : Model} {A : Around} {E : Value → Shared → Prop} {s : Shared} {O : KeyOrd} {ky : Keyed → O.α} {κ : SortKind} {a₀ : Array Keyed}
def runTail (size lo n : Nat) : StateT SortSt Sem (ForInStep (Option Unit × Nat)) := do
  let g ← get
  match (pendingOf g).back? with
  | some (s1, n1, _) => do
    let c ← forIn [0:size] ((none, ()) : Option Unit × Unit) fun _ _ => do
      let g ← get
      match (if (pendingOf g).size > 1 then (pendingOf g)[(pendingOf g).size - 2]? else none) with
      | some (_, _, older) =>
        if older ≤ power' size (2 * s1 + n1) (2 * s1 + n1 + n1 + n) size then pure (ForInStep.done (none, ()))
        else do
          let r ← mergeAt' ((pendingOf g).size - 2)
          if (!r) = true then pure (ForInStep.done (some (), ())) else pure (ForInStep.yield (none, ()))
      | _ => pure (ForInStep.done (none, ()))
    match c.fst with
    | some r => pure (ForInStep.done (some r, lo))
    | none => do
      modify fun s => setPending s ((pendingOf s).modify ((pendingOf s).size - 1) fun x => (x.fst, x.2.fst, power' size (2 * s1 + n1) (2 * s1 + n1 + n1 + n) size))
      modify fun s => setPending s ((pendingOf s).push (lo, n, 0))
      pure (ForInStep.yield (none, lo + n))
  | _ => do
    modify fun s => setPending s ((pendingOf s).push (lo, n, 0))
    pure (ForInStep.yield (none, lo + n))
structure RI (ky : Keyed → O.α) (κ : SortKind) (a₀ : Array Keyed) (lo : Nat) (st : SortSt) : Prop where
  sb : SB κ a₀ st
  ch : Ch ky (arrOf st) (pendingOf st).toList 0 lo
theorem RI.push {lo n : Nat} {st : SortSt} (h : RI ky κ a₀ lo st) (h1 : 1 ≤ n) (hu : Up ky (arrOf st) lo n) : RI ky κ a₀ (lo + n) (setPending st ((pendingOf st).push (lo, n, 0))) := by
  refine ⟨⟨h.sb.perm, h.sb.kind, h.sb.failed⟩, ?_⟩
  show Ch ky (arrOf st) ((pendingOf st).push (lo, n, 0)).toList 0 (lo + n)
  rw [Array.toList_push]
  exact Ch.app.mpr ⟨lo, h.ch, rfl, h1, hu, rfl⟩
theorem wpS_runTail {st : SortSt} {lo n : Nat} {Q : ForInStep (Option Unit × Nat) → SortSt → Prop} (hC : Cmp M A s O ky κ a₀) (hR : RI ky κ a₀ lo st) (h1 : 1 ≤ n) (hn : lo + n ≤ a₀.size) (hu : Up ky (arrOf st) lo n)
    (h : ∀ st', RI ky κ a₀ (lo + n) st' → Q (.yield (none, lo + n)) st') : wpS M A E s (runTail a₀.size lo n) Q st := by
  unfold runTail
  refine wpS_bind (wpS_get ?_)
  cases hb : (pendingOf st).back? with
  | none => exact wpS_bind (wpS_modify (wpS_pure (h _ (hR.push h1 hu))))
  | some q =>
    obtain ⟨s1, n1, w⟩ := q
    dsimp only
    refine wpS_bind (wpS_mono (wpS_forRange (I := fun _ c st' => c = (none, ()) ∧ RI ky κ a₀ lo st' ∧ Up ky (arrOf st') lo n) (Q := fun c st' => c = (none, ()) ∧ RI ky κ a₀ lo st' ∧ Up ky (arrOf st') lo n) ?step (fun _ _ hh => hh) ⟨rfl, hR, hu⟩) ?post)
    case step =>
      rintro x c st' _ hx ⟨rfl, hR', hu'⟩
      refine wpS_bind (wpS_get ?_)
      by_cases hs : (pendingOf st').size > 1
      · rw [if_pos hs]
        cases ho : (pendingOf st')[(pendingOf st').size - 2]? with
        | none => exact wpS_pure ⟨rfl, hR', hu'⟩
        | some q =>
          obtain ⟨z1, z2, older⟩ := q
          dsimp only
          split
          · exact wpS_pure ⟨rfl, hR', hu'⟩
          · refine wpS_bind (wpS_mergeAt hC hR'.sb (by omega) hR'.ch (by omega) fun st'' b1 b2 b3 b4 => ?_)
            exact wpS_pure ⟨rfl, ⟨b1, b3⟩, hu'.ag b4 (.inr (Nat.le_refl _))⟩
      · rw [if_neg hs]
        exact wpS_pure ⟨rfl, hR', hu'⟩
    case post =>
      rintro c st' ⟨rfl, hR', hu'⟩
      dsimp only
      refine wpS_bind (wpS_modify (wpS_bind (wpS_modify (wpS_pure (h _ (RI.push (st := setPending st' _) ⟨⟨hR'.sb.perm, hR'.sb.kind, hR'.sb.failed⟩, ?_⟩ h1 hu'))))))
      show Ch ky (arrOf st') ((pendingOf st').modify ((pendingOf st').size - 1) _).toList 0 lo
      rw [Array.toList_modify]
      exact Ch.third (f := fun x => (x.1, x.2.1, power' a₀.size (2 * s1 + n1) (2 * s1 + n1 + n1 + n) a₀.size)) (fun q => ⟨rfl, rfl⟩) hR'.ch
theorem cast_wp {α : Type} {m m' : StateT SortSt Sem α} {Q Q' : α → SortSt → Prop} {st : SortSt} (h : wpS M A E s m Q st) (hq : ∀ a st', Q a st' → Q' a st') (e : m = m') : wpS M A E s m' Q' st := e ▸ wpS_mono h hq
theorem wpS_sortAll {st : SortSt} {Q : Unit → SortSt → Prop} (hC : Cmp M A s O ky κ a₀) (hB : SB κ a₀ st) (hp : pendingOf st = #[]) (h2 : 2 ≤ a₀.size) (h : ∀ st', SB κ a₀ st' → Up ky (arrOf st') 0 a₀.size → Q () st') : wpS M A E s sortRuns' Q st := by
  rw [sortRuns'_eq]
  refine wpS_bind (wpS_get ?_)
  dsimp only
  simp only [hB.size]
  refine wpS_bind (wpS_mono (wpS_forRange
    (I := fun x c st' => ∃ lo, c = (none, lo) ∧ RI ky κ a₀ lo st' ∧ lo ≤ a₀.size ∧ x ≤ lo)
    (Q := fun c st' => c = (none, a₀.size) ∧ RI ky κ a₀ a₀.size st') ?step ?fin ⟨0, rfl, ⟨hB, by rw [hp]; rfl⟩, Nat.zero_le _, Nat.le_refl _⟩) ?post)
  case fin =>
    rintro c st' ⟨lo, rfl, hR, hlo, hx⟩
    have : lo = a₀.size := by omega
    subst this
    exact ⟨rfl, hR⟩
  case step =>
    rintro x c st' _ hx ⟨lo, rfl, hR, hlo, hxl⟩
    dsimp only
    by_cases hge : lo ≥ a₀.size
    · rw [if_pos hge]
      have : lo = a₀.size := by omega
      subst this
      exact wpS_pure ⟨rfl, hR⟩
    rw [if_neg hge]
    refine wpS_bind (wpS_count (ky := ky) hC (nrem := a₀.size - lo) (by omega) (by omega) hR.sb fun m st2 hK hm1 hm2 hu => ?_)
    dsimp only
    have keep : ∀ {hi : Nat} {st2 st3 : SortSt}, RI ky κ a₀ lo st2 → Kp κ a₀ lo hi st2 st3 → RI ky κ a₀ lo st3 := fun hR hK => ⟨hK.sb, by rw [hK.pend]; exact hR.ch.ag hK.ag (.inl (Nat.le_refl _))⟩
    have hR2 := keep hR hK
    have go : ∀ n st3, RI ky κ a₀ lo st3 → 1 ≤ n → lo + n ≤ a₀.size → Up ky (arrOf st3) lo n → wpS M A E s (runTail a₀.size lo n) (fun r st' => match r with
        | ForInStep.done c' => c' = (none, a₀.size) ∧ RI ky κ a₀ a₀.size st'
        | ForInStep.yield c' => ∃ lo, c' = (none, lo) ∧ RI ky κ a₀ lo st' ∧ lo ≤ a₀.size ∧ x + 1 ≤ lo) st3 := fun n st3 r1 r2 r3 r4 =>
      wpS_runTail hC r1 r2 r3 r4 fun st' hR' => ⟨lo + n, rfl, hR', r3, by omega⟩
    by_cases hlt : m < minRun' a₀.size a₀.size 0
    · rw [if_pos hlt]
      refine wpS_bind (wpS_lift (wpAny_rule ⟨rfl, ?_⟩))
      refine wpS_bind (wpS_bin hC (by omega) (by omega) hR2.sb hu fun st3 hK3 hu3 => ?_)
      rw [if_neg (by simp)]
      refine cast_wp (go _ st3 (keep hR2 hK3) (by omega) (by omega) hu3) (fun r st' hr => by cases r <;> exact hr) ?_
      {
        unfold runTail
        refine bcong rfl fun g => ?_
        cases (pendingOf g).back? with
        | none => rfl
        | some q =>
          obtain ⟨s1, n1, w⟩ := q
          refine bcong ?_ fun c => ?_
          · refine congrArg (forIn _ _) (funext fun _ => funext fun _ => bcong rfl fun g => ?_)
            generalize (if (pendingOf g).size > 1 then (pendingOf g)[(pendingOf g).size - 2]? else none) = o
            cases o with
            | none => rfl
            | some q => obtain ⟨z1, z2, z3⟩ := q; rfl
          · obtain ⟨r, u⟩ := c
            cases r <;> rfl }
    · rw [if_neg hlt]
      refine cast_wp (go m st2 hR2 hm1 (by omega) hu) (fun r st' hr => by cases r <;> exact hr) ?_
      {
        unfold runTail
        refine bcong rfl fun g => ?_
        cases (pendingOf g).back? with
        | none => rfl
        | some q =>
          obtain ⟨s1, n1, w⟩ := q
          refine bcong ?_ fun c => ?_
          · refine congrArg (forIn _ _) (funext fun _ => funext fun _ => bcong rfl fun g => ?_)
            generalize (if (pendingOf g).size > 1 then (pendingOf g)[(pendingOf g).size - 2]? else none) = o
            cases o with
            | none => rfl
            | some q => obtain ⟨z1, z2, z3⟩ := q; rfl
          · obtain ⟨r, u⟩ := c
            cases r <;> rfl }
  case post =>
    rintro c st' ⟨rfl, hR⟩
    dsimp only
    refine wpS_bind (wpS_mono (wpS_forRange (I := fun x c st' => c = (none, ()) ∧ RI ky κ a₀ a₀.size st' ∧ (pendingOf st').size + x ≤ a₀.size) (Q := fun c st' => c = (none, ()) ∧ RI ky κ a₀ a₀.size st' ∧ (pendingOf st').size ≤ 1) ?s2 ?f2 ⟨rfl, hR, ?i2⟩) ?p2)
    case i2 =>
      have := hR.ch.le
      rw [Array.length_toList] at this
      omega
    case f2 =>
      rintro c st' ⟨hc, hR', hs⟩
      exact ⟨hc, hR', by omega⟩
    case s2 =>
      rintro x c st' _ hx ⟨rfl, hR', hs⟩
      refine wpS_bind (wpS_get ?_)
      by_cases hle : (pendingOf st').size ≤ 1
      · rw [if_pos hle]
        exact wpS_pure ⟨rfl, hR', hle⟩
      rw [if_neg hle]
      refine wpS_bind (wpS_mergeAt hC hR'.sb ?_ hR'.ch (Nat.le_refl _) fun st'' b1 b2 b3 b4 => ?_)
      · (repeat' split) <;> omega
      · exact wpS_pure ⟨rfl, ⟨b1, b3⟩, by omega⟩
    case p2 =>
      rintro c st' ⟨rfl, hR', hs⟩
      refine wpS_pure (h st' hR'.sb ?_)
      have hc := hR'.ch
      generalize hl : (pendingOf st').toList = l at hc
      have hll : l.length ≤ 1 := by rw [← hl, Array.length_toList]; exact hs
      match l, hc, hll with
      | [], hc, _ => exact absurd hc (by show ¬ (0 = a₀.size); omega)
      | [(s', n, w)], hc, _ =>
        obtain ⟨rfl, q1, q2, q3⟩ := hc
        have : 0 + n = a₀.size := q3
        rw [Nat.zero_add] at this
        rw [← this]
        exact q2
      | _ :: _ :: _, _, hll => exact absurd hll (by simp)
end
end SO
namespace L2
open PySem PySem.Spec PyProof.Rows


section
variable {prog : Program} {w : World} {A : Around} {R : Result → Shared → Prop} {s : Shared}
theorem comp_loop {elt target iter : Expr} {ifs : List Expr} {scope : Scope} {pos : Pos} {it acc : Value} {env : Env} (I : Nat → Shared → Prop)
    (turn : ∀ n s, I n s → wpAny (model prog w) A (pyNext it) (fun r s1 => match r with
      | none => R (.ok .next) s1
      | some v => wpAny (model prog w) A (letOwnedTupleGo target it v) (fun _ s1' => wpAny (model prog w) A (assign target env v) (fun _ s2 =>
          wpAny (model prog w) A (forIn ifs true fun c r => if r = true then do let ok ← isTrue c env (eval c env); pure (ForInStep.yield ok) else pure (ForInStep.yield r)) (fun ok s3 =>
            if ok = true then wpAny (model prog w) A (eval elt env) (fun x s4 =>
              wpAny (model prog w) A (call (.builtin "list.append") [acc, x]) (fun _ s5 => ∃ m, m < n ∧ I m s5) (fun _ _ => False) s4) (fun _ _ => False) s3
            else ∃ m, m < n ∧ I m s3) (fun _ _ => False) s2) (fun _ _ => False) s1') (fun _ _ => False) s1) (fun _ _ => False) s)
    (n : Nat) (h : I n s) :
    codeAny (model prog w) A (.compLoop (.ListComp elt [⟨target, iter, ifs, 0⟩] scope pos) 0 it acc env) R s := by
  refine codeAny_loop rfl I (fun n s hI => ?_) n h
  show wpAny _ A ((compTurn (.ListComp elt [⟨target, iter, ifs, 0⟩] scope pos) 0 it acc env).onRaise (fun x => do noteFrame x env; theTreesLotGoes x)) _ _ s
  refine wpAny_noted ?_
  rw [compTurn_list]
  refine wpAny_bind (wpAny_standAt (wpAny_bind (wpAny_mono (turn n s hI) (fun r s1 h1 => ?_) fun _ _ f => f.elim)))
  cases r with
  | none => exact wpAny_pure h1
  | some v =>
    refine wpAny_bind (wpAny_mono h1 (fun _ s1' h1' => ?_) fun _ _ f => f.elim)
    refine wpAny_bind (wpAny_mono h1' (fun _ s2 h2 => wpAny_bind (wpAny_mono h2 (fun ok s3 h3 => ?_) fun _ _ f => f.elim)) fun _ _ f => f.elim)
    cases ok with
    | false => exact wpAny_pure ⟨rfl, h3⟩
    | true =>
      exact wpAny_bind (wpAny_bind (wpAny_mono h3 (fun x s4 h4 => wpAny_bind (wpAny_mono h4 (fun _ s5 h5 => wpAny_pure (wpAny_pure ⟨rfl, h5⟩)) fun _ _ f => f.elim)) fun _ _ f => f.elim))
end


def clOf (env : Env) : List (Str × NameKind) → List (Str × Addr) → List (Str × Addr)
  | [], cs => cs
  | (n, k) :: r, cs => clOf env r (if (k == NameKind.free) = true then (match env.cells.lookup n with | some a => (n, a) :: cs | none => cs) else cs)
theorem closure_loop {env : Env} {f : Str × NameKind → List (Str × Addr) → Sem (ForInStep (List (Str × Addr)))}
    (hf : ∀ n k cs, f (n, k) cs = if (k == NameKind.free) = true then (do let a ← cellOf env n; pure (.yield ((n, a) :: cs))) else pure (.yield cs)) :
    ∀ (l : List (Str × NameKind)) (cs : List (Str × Addr)), (∀ y ∈ l, y.2 = .free → ∃ c, env.cells.lookup y.1 = some c) → forIn l cs f = pure (clOf env l cs)
  | [], cs, _ => by rw [List.forIn_nil]; rfl
  | (n, k) :: r, cs, h => by
    have hr : ∀ y ∈ r, y.2 = .free → ∃ c, env.cells.lookup y.1 = some c := fun y hy => h y (List.mem_cons_of_mem _ hy)
    rw [List.forIn_cons, hf]
    unfold clOf
    by_cases hk : (k == NameKind.free) = true
    · obtain ⟨c, hc⟩ := h (n, k) List.mem_cons_self (by simpa using hk)
      have hc' : env.cells.lookup n = some c := hc
      rw [if_pos hk, if_pos hk]
      simp only [cellOf, hc', pure_bind]
      exact closure_loop hf r _ hr
    · rw [if_neg hk, if_neg hk, pure_bind]
      exact closure_loop hf r _ hr
theorem closure_eq {env : Env} {scope : Scope} (h : ∀ y ∈ scope.names, y.2 = .free → ∃ c, env.cells.lookup y.1 = some c) : closureFor scope env = pure (clOf env scope.names []) := by
  simp only [closureFor]
  rw [closure_loop (env := env) (fun n k cs => by cases hk : k == NameKind.free <;> simp [hk]) scope.names [] h]
  rfl
theorem clOf_mem {env : Env} {x : Str} {c : Addr} : ∀ {l : List (Str × NameKind)} {cs : List (Str × Addr)}, (∀ z d, cs.lookup z = some d → env.cells.lookup z = some d) → (clOf env l cs).lookup x = some c → env.cells.lookup x = some c
  | [], _, hc, h => hc _ _ h
  | (n, k) :: r, cs, hc, h => by
    unfold clOf at h
    refine clOf_mem (l := r) ?_ h
    intro z d hz
    split at hz
    · split at hz
      · rename_i a ha
        rw [List.lookup_cons] at hz
        split at hz
        · rename_i e
          have e' : z = n := by simpa using e
          subst e'
          rw [ha]
          exact hz
        · exact hc z d hz
      · exact hc z d hz
    · exact hc z d hz
theorem clOf_get {env : Env} {x : Str} {c : Addr} (e : env.cells.lookup x = some c) : ∀ {l : List (Str × NameKind)} {cs : List (Str × Addr)}, (∀ z d, cs.lookup z = some d → env.cells.lookup z = some d) →
    ((x, NameKind.free) ∈ l ∨ ∃ d, cs.lookup x = some d) → (clOf env l cs).lookup x = some c
  | [], cs, hc, h => by
    rcases h with h | ⟨d, h⟩
    · simp at h
    · have := hc x d h
      rw [e] at this
      cases this
      exact h
  | (n, k) :: r, cs, hc, h => by
    unfold clOf
    have hc2 : ∀ z d, (if (k == NameKind.free) = true then (match env.cells.lookup n with | some a => (n, a) :: cs | none => cs) else cs).lookup z = some d → env.cells.lookup z = some d := by
      intro z d hz
      split at hz
      · split at hz
        · rename_i a ha
          rw [List.lookup_cons] at hz
          split at hz
          · rename_i e
            have e' : z = n := by simpa using e
            subst e'
            rw [ha]
            exact hz
          · exact hc z d hz
        · exact hc z d hz
      · exact hc z d hz
    refine clOf_get e (l := r) hc2 ?_
    have keep : ∀ d, cs.lookup x = some d → ∃ d, (if (k == NameKind.free) = true then (match env.cells.lookup n with | some a => (n, a) :: cs | none => cs) else cs).lookup x = some d := by
      intro d hd
      split
      · split
        · rename_i a ha
          rw [List.lookup_cons]
          split
          · exact ⟨_, rfl⟩
          · exact ⟨d, hd⟩
        · exact ⟨d, hd⟩
      · exact ⟨d, hd⟩
    rcases h with h | ⟨d, h⟩
    · rcases List.mem_cons.mp h with h | h
      · have e1 : x = n := congrArg Prod.fst h
        have e2 : k = NameKind.free := (congrArg Prod.snd h).symm
        subst e1 e2
        refine .inr ⟨c, ?_⟩
        rw [if_pos (by decide), e]
        simp [List.lookup_cons]
      · exact .inl h
    · exact .inr (keep d h)

theorem relabel_free {env : Env} : ∀ {names : List (Str × NameKind)} {x : Str} {k : NameKind},
    (names.map fun (n, k) => if (k == NameKind.free && env.scope.kind == .function && env.kindOf n == some .cell) then (n, NameKind.cell) else (n, k)).lookup x = some k → (k = .cell ∨ k = .free) → (∀ y ∈ names, y.2 ≠ .cell) → names.lookup x = some .free
  | [], _, _, h, _, _ => by simp at h
  | (n, k0) :: r, x, k, h, hk, hn => by
    have ih := @relabel_free env r x k
    have h' : List.lookup x ((if (k0 == NameKind.free && env.scope.kind == .function && env.kindOf n == some .cell) = true then (n, NameKind.cell) else (n, k0)) :: (r.map fun (n, k) => if (k == NameKind.free && env.scope.kind == .function && env.kindOf n == some .cell) then (n, NameKind.cell) else (n, k))) = some k := h
    cases hx : x == n with
    | true =>
      have go : List.lookup x ((n, k0) :: r) = some k0 := by simp [List.lookup_cons, hx]
      rw [go]
      by_cases hc : (k0 == NameKind.free && env.scope.kind == .function && env.kindOf n == some .cell) = true
      · have : k0 = NameKind.free := by
          simp only [Bool.and_eq_true] at hc
          simpa using hc.1.1
        rw [this]
      · rw [if_neg hc] at h'
        simp only [List.lookup_cons, hx] at h'
        cases h'
        rcases hk with hk | hk
        · exact absurd hk (hn _ List.mem_cons_self)
        · rw [hk]
    | false =>
      have go : List.lookup x ((n, k0) :: r) = List.lookup x r := by simp [List.lookup_cons, hx]
      rw [go]
      refine ih ?_ hk (fun y hy => hn y (List.mem_cons_of_mem _ hy))
      by_cases hc : (k0 == NameKind.free && env.scope.kind == .function && env.kindOf n == some .cell) = true
      · rw [if_pos hc] at h'
        simp only [List.lookup_cons, hx] at h'
        exact h'
      · rw [if_neg hc] at h'
        simp only [List.lookup_cons, hx] at h'
        exact h'
theorem relabel_of_free {env : Env} : ∀ {names : List (Str × NameKind)} {x : Str}, names.lookup x = some .free →
    (names.map fun (n, k) => if (k == NameKind.free && env.scope.kind == .function && env.kindOf n == some .cell) then (n, NameKind.cell) else (n, k)).lookup x = some .cell ∨
    (names.map fun (n, k) => if (k == NameKind.free && env.scope.kind == .function && env.kindOf n == some .cell) then (n, NameKind.cell) else (n, k)).lookup x = some .free
  | [], _, h => by simp at h
  | (n, k0) :: r, x, h => by
    have ih := @relabel_of_free env r x
    show List.lookup x ((if (k0 == NameKind.free && env.scope.kind == .function && env.kindOf n == some .cell) = true then (n, NameKind.cell) else (n, k0)) :: _) = _ ∨ List.lookup x ((if (k0 == NameKind.free && env.scope.kind == .function && env.kindOf n == some .cell) = true then (n, NameKind.cell) else (n, k0)) :: _) = _
    cases hx : x == n with
    | true =>
      simp only [List.lookup_cons, hx] at h
      by_cases hc : (k0 == NameKind.free && env.scope.kind == .function && env.kindOf n == some .cell) = true
      · rw [if_pos hc]
        left
        simp only [List.lookup_cons, hx]
      · rw [if_neg hc]
        right
        simp only [List.lookup_cons, hx]
        exact h
    | false =>
      simp only [List.lookup_cons, hx] at h
      by_cases hc : (k0 == NameKind.free && env.scope.kind == .function && env.kindOf n == some .cell) = true
      · rw [if_pos hc]
        simp only [List.lookup_cons, hx]
        exact ih h
      · rw [if_neg hc]
        simp only [List.lookup_cons, hx]
        exact ih h



def blk (X : Cx) (N : List Str) (scope : Scope) (C : Addr) (s : Shared) (H : Hp) (ex : List Addr) : Cx where
  prog := X.prog
  w := X.w
  K := X.K
  mg := X.mg
  base := X.base
  A := X.A
  N := N
  s₀ := s
  H₀ := H
  env := compEnvC scope (clOf X.env scope.names []) C X.env
  outer := X.stack
  stack := X.stack
  ex := ex
  fn := fun _ => false
  calm := X.calm
  pn := []
  xe := fun _ _ => False

structure BlkScope (sc : Scope) (N own cn : List Str) (ci : List Nat) (scope : Scope) : Prop where
  kind : scope.kind = .function
  nocell : ∀ y ∈ scope.names, y.2 ≠ .cell
  names : ∀ y ∈ scope.names, y.2 = .local → scope.names.lookup y.1 = some .local
  free : ∀ y ∈ scope.names, y.2 = .free → sc.names.lookup y.1 = some .cell ∨ sc.names.lookup y.1 = some .free
  cap : (cn.map fun x => (some x : Option Str)) = ci.map fun i => N[i]?
  capk : ∀ x ∈ cn, scope.names.lookup x = some .free
  nd : (own ++ cn).Nodup
def blkS (own : List Str) (ci : List Nat) (σ : St) : St := own.map (fun _ => none) ++ ci.map fun i => (σ[i]?).join

section
variable {X : Cx} {pins : List (Addr × Obj)} {σ : St} {H H2 : Hp} {s s2 : Shared} {sc : Scope} {N own cn : List Str} {ci : List Nat} {scope : Scope} {fp : List Addr}
theorem blk_cells (S : BlkScope sc N own cn ci scope) (hsc : X.env.scope = sc) (I : Inv X pins σ H s) : ∀ y ∈ scope.names, y.2 = .free → ∃ c, X.env.cells.lookup y.1 = some c := fun y hy hf => by
  refine I.ok.has y.1 ?_
  have := S.free y hy hf
  rw [← hsc] at this
  exact this
theorem blk_inv (S : BlkScope sc N own cn ci scope) (hsc : X.env.scope = sc) (hN : X.N = N) (I : Inv X pins σ H s) (hfp : ∀ b ∈ fp, FpOk X pins H b) (hlt : ∀ b ∈ fp, b < s.heap.objs.size) {h1 : Heap} {tk : Nat} {m : Str → Option Value}
    (hns : h1.Ns s.heap.objs.size m) (keep : ∀ b o, s.heap.get? b = some o → h1.get? b = some o) :
    Inv (blk X (own ++ cn) scope s.heap.objs.size s H fp) [] (blkS own ci σ) H { s with heap := h1, toks := tk } := by
  have ccl : ∀ x c, (clOf X.env scope.names []).lookup x = some c → X.env.cells.lookup x = some c := fun x c e => clOf_mem (fun z d h => by simp at h) e
  have cnl : cn.length = ci.length := by have := congrArg List.length S.cap; simpa using this
  refine ⟨⟨I.ok.mod, ?_, I.ok.glob, I.ok.blt, Nat.le_refl _, fun x y c e1 e2 => I.ok.inj x y c (ccl x c e1) (ccl y c e2), fun x hx => ?_, fun x c hf _ => ?_, I.ok.hd, I.ok.frames, .inl rfl, fun b hb => ⟨Nat.ne_of_lt (hlt b hb), fun x c e => (hfp b hb).2.2.2.2.1 x c (ccl x c e)⟩, I.bs, Nat.le_trans I.ok.bsz I.sz, fun b o e hb => ?_, fun b hb hb2 => ?_, I.stack, I.stkFree⟩,
    rfl, I.bare, Un.kept keep, ⟨m, hns, fun i x v e1 e2 e3 => ?_⟩, fun x c e => ?_, I.hok.fresh (Nat.le_refl _), fun x c e => I.freeC x c (ccl x c e), fun p hp => absurd (show p ∈ ([] : List (Addr × Obj)) from hp) (by simp), I.hok.kept keep, ?_⟩
  · exact S.kind
  · have hx' : (relabel scope X.env).names.lookup x = some .cell ∨ (relabel scope X.env).names.lookup x = some .free := hx
    have hfree : scope.names.lookup x = some .free := by
      rcases hx' with q | q
      · exact relabel_free q (.inl rfl) S.nocell
      · exact relabel_free q (.inr rfl) S.nocell
    have hm := PySem.mem_of_lookup hfree
    obtain ⟨c, hc⟩ := blk_cells S hsc I _ hm rfl
    exact ⟨c, clOf_get hc (fun z d h => by simp at h) (.inl hm)⟩
  · exact absurd hf (by show ¬ (false = true); decide)
  · rcases (hfp b hb).2.2.2.1 with z | z
    · exact I.ok.noex b o e z
    · exact absurd (Nat.lt_of_lt_of_le (Heap.lt_size (I.ok.bs b o e).1) z) (Nat.lt_irrefl _)
  · rcases List.mem_cons.mp (I.stkSub b hb2) with z | z
    · exact (hfp b hb).2.1 z
    · exact (hfp b hb).2.2.1 z
  · have e1' : (own ++ cn)[i]? = some x := e1
    unfold blkS at e2
    by_cases hi : i < own.length
    · rw [List.getElem?_append_left (by simpa using hi), List.getElem?_map] at e2
      cases q : own[i]? with
      | none => rw [q] at e2; cases e2
      | some z => rw [q] at e2; cases e2
    · rw [List.getElem?_append_right (by simpa using hi)] at e2
      rw [List.getElem?_append_right (by omega)] at e1'
      rw [List.length_map, List.getElem?_map] at e2
      cases q : ci[i - own.length]? with
      | none => rw [q] at e2; cases e2
      | some j =>
        rw [q] at e2
        have e2' : (σ[j]?).join = some v := Option.some.inj e2
        have e3' : σ[j]? = some (some v) := by
          cases z : σ[j]? with
          | none => rw [z] at e2'; cases e2'
          | some o => rw [z] at e2'; exact congrArg some e2'
        have hNj : X.N[j]? = some x := by
          have c1 := congrArg (fun l => l[i - own.length]?) S.cap
          simp only [List.getElem?_map, e1', q, Option.map_some] at c1
          rw [hN]
          exact (Option.some.inj c1).symm
        have hfree := S.capk x (List.mem_of_getElem? e1')
        have hm := PySem.mem_of_lookup hfree
        have hk := S.free _ hm rfl
        rw [← hsc] at hk
        have hvis : Vis X.env.scope x := .inr hk
        obtain ⟨m0, _, hl⟩ := I.loc
        obtain ⟨u, r, l⟩ := hl j x v hNj e3' hvis
        refine ⟨u, r, .inr ⟨relabel_of_free hfree, ?_⟩⟩
        rcases l with ⟨l, _⟩ | ⟨_, c, ec, z⟩
        · have l' : X.env.scope.names.lookup x = some .local := l
          rcases hk with hk | hk <;> (rw [hk] at l'; cases l')
        · refine ⟨c, clOf_get ec (fun z d h => by simp at h) (.inl hm), ?_⟩
          obtain ⟨o, ho, hd⟩ := z
          exact ⟨o, keep c o ho, hd⟩
  · obtain ⟨v, o, ho, hd⟩ := I.cell x c (ccl x c e)
    exact ⟨v, o, keep c o ho, hd⟩
  · show (blkS own ci σ).length = (own ++ cn).length
    unfold blkS
    rw [List.length_append, List.length_append, List.length_map, List.length_map, cnl]
end


def PTs (X : Cx) (ifs : List Expr) (t : TT) : Prop :=
  ∀ (pins : List (Addr × Obj)) (s : Shared) (σ : St) (H : Hp) (Q : Bool → Hp → Prop), Inv X pins σ H s → t σ H Q →
    wpAny (model X.prog X.w) X.A (forIn ifs true fun c r => if r = true then do let ok ← isTrue c X.env (eval c X.env); pure (ForInStep.yield ok) else pure (ForInStep.yield r)) (TP X pins σ Q) X.xe s
def tTrue : TT := fun _ H Q => Q true H
theorem pts_nil {X : Cx} : PTs X [] tTrue := fun _ _ _ H _ I h => wpAny_tests_nil ⟨H, I, h⟩
theorem pts_one {X : Cx} {c : Expr} {t : TT} (h : PT X c t) : PTs X [c] t := fun pins s σ H Q I q => wpAny_tests_one (h pins s σ H Q I q)


def LcW (J : It) (g : TG) (tt : TT) (te : TE) (D : Addr) (Q : Hp → Prop) (W : Nat → Nat → St → Hp → Prop) : Prop := ∀ i m σ H, W i m σ H →
  (J.stop i H ∧ Q H) ∨ (J.go i H ∧ ∀ x H1, J.yld i H x H1 → g x σ H1 fun σ2 H2 => tt σ2 H2 fun ok H3 => if ok = true then te σ2 H3 fun y H4 => ∃ ys, H4 D = some (.lst ys) ∧ ys.length < sizeLine ∧
    ∃ m', m' < m ∧ W (i + 1) m' σ2 (upd H4 D (.lst (ys ++ [y]))) else ∃ m', m' < m ∧ W (i + 1) m' σ2 H3)
def tLC (own : List Str) (ci : List Nat) (wi : TI) (g : TG) (tt : TT) (te : TE) : TE := fun σ H Q => wi σ H fun J H1 => ∀ D, H1 D = none →
  ∃ W : Nat → Nat → St → Hp → Prop, (∃ m, W 0 m (blkS own ci σ) (upd H1 D (.lst []))) ∧ LcW J g tt te D (Q (.ref D)) W

section
variable {X : Cx} {pins : List (Addr × Obj)} {σ : St} {H H2 : Hp} {s s2 : Shared} {sc : Scope} {N own cn : List Str} {ci : List Nat} {scope : Scope} {fp : List Addr}
  {elt tg iter : Expr} {ifs : List Expr} {pos : Pos} {g : TG} {tt : TT} {te : TE} {wi : TI}
theorem lc_block {it : Addr} {tn : Nat → Heap → Prop} {J : It} {Q : VK} {E : Value → Shared → Prop} {RR : Value → Addr → Result → Shared → Prop} (S : BlkScope sc N own cn ci scope) (hsc : X.env.scope = sc) (hN : X.N = N) (hc : X.calm = true)
    (I2 : Inv X pins σ H2 s2) (T : Turn X.prog X.w X.K tg J fp it tn) (st2 : tn 0 s2.heap) (f2 : ∀ b ∈ fp, FpOk X pins H2 b)
    (hg : ∀ C s H, PG (blk X (own ++ cn) scope C s H fp) tg g) (ht : ∀ C s H, PTs (blk X (own ++ cn) scope C s H fp) ifs tt) (he : ∀ C s H, PE (blk X (own ++ cn) scope C s H fp) elt te)
    (q : ∀ D, H2 D = none → ∃ W : Nat → Nat → St → Hp → Prop, (∃ m, W 0 m (blkS own ci σ) (upd H2 D (.lst []))) ∧ LcW J g tt te D (Q (.ref D)) W)
    (hRR : ∀ D C H' s', Inv X pins σ H' s' → Q (.ref D) H' → (∃ m, s'.heap.Ns C m) → FpOk X pins H' C → RR (.ref D) C (.ok .next) s') :
    wpAny (model X.prog X.w) X.A (newList []) (fun acc s3 => wpAny (model X.prog X.w) X.A (newFunctionEnv scope X.env.globals (clOf X.env scope.names []) [] X.env.qual none .none (some X.env)) (fun cenv s4 =>
      codeAny (model X.prog X.w) X.A (.compStart (.ListComp elt [⟨tg, iter, ifs, 0⟩] scope pos) 0 (.ref it) acc { cenv with scope := relabel scope X.env }) (RR acc cenv.locals) s4) E s3) E s2 := by
  refine wpAny_newObj_type (wpAny_newFunctionEnv S.nocell (by intro y hy; simp at hy) (fun h1 hns1 hsb1 => ?_) S.kind)
  dsimp only at hns1 hsb1 ⊢
  have I3 : Inv X pins σ (upd H2 s2.heap.objs.size (.lst [])) { s2 with heap := s2.heap.push { cls := .type "list", data := .seq ([] : List Value).toArray }, toks := s2.toks } := I2.lnew (its := []) (t' := s2.toks) .nil (Nat.zero_le _)
  have hD : H2 s2.heap.objs.size = none := I2.hok.fresh (Nat.le_refl _)
  have fpe : ∀ b ∈ fp, b < s2.heap.objs.size := fun b hb => by
    obtain ⟨o, e, _⟩ := T.obj _ _ st2 b hb
    exact Heap.lt_size e
  have f3 : ∀ b ∈ fp, FpOk X pins (upd H2 s2.heap.objs.size (.lst [])) b := fun b hb => ⟨by rw [upd_ne (Nat.ne_of_lt (fpe b hb))]; exact (f2 b hb).1, (f2 b hb).2⟩
  obtain ⟨W, ⟨m0, w0⟩, turn⟩ := q s2.heap.objs.size hD
  generalize hs3 : ({ s2 with heap := s2.heap.push { cls := .type "list", data := .seq ([] : List Value).toArray }, toks := s2.toks } : Shared) = s3 at I3
  have e3 : s3.heap = s2.heap.push { cls := .type "list", data := .seq ([] : List Value).toArray } := by rw [← hs3]
  have hsz3 : s3.heap.objs.size = s2.heap.objs.size + 1 := by rw [e3, Heap.size_push]
  have keep3 : ∀ b o, s2.heap.get? b = some o → s3.heap.get? b = some o := fun b o e => by rw [e3]; exact Heap.get?_push_of_some _ e
  have keep : ∀ b o, s3.heap.get? b = some o → h1.get? b = some o := fun b o e => by
    refine hsb1.extBut b o ?_ (Heap.get?_push_of_some _ (by rw [← e3]; exact e))
    have := Heap.lt_size e
    rw [e3] at this
    exact Nat.ne_of_lt this
  have hns : h1.Ns s3.heap.objs.size (fun x => ([] : List (Str × Value)).reverse.lookup x) := by rw [e3]; exact hns1
  have I4 := blk_inv (fp := fp) (tk := s2.toks + ([] : List (Str × Value)).length) S hsc hN I3 f3 (fun b hb => by rw [hsz3]; exact Nat.lt_succ_of_lt (fpe b hb)) hns keep
  have st4 : tn 0 h1 := T.keep _ _ _ st2 fun b hb o e => keep b o (keep3 b o e)
  have hC : (s2.heap.push { cls := .type "list", data := .seq ([] : List Value).toArray }).objs.size = s3.heap.objs.size := by rw [e3]
  have stat : ∀ {H' : Hp}, (∀ b ∈ fp, H' b = none) → ∀ b ∈ fp, FpOk (blk X (own ++ cn) scope s3.heap.objs.size s3 (upd H2 s2.heap.objs.size (.lst [])) fp) [] H' b := fun hn b hb =>
    ⟨hn b hb, Nat.ne_of_lt (by rw [hsz3]; exact Nat.lt_succ_of_lt (fpe b hb)), fun z => I4.ok.exfs b hb z, .inl hb, (I4.ok.exf b hb).2, fun p hp => absurd (show p ∈ ([] : List (Addr × Obj)) from hp) (by simp)⟩
  have loop : ∀ s4 : Shared, s4 = { s3 with heap := h1, toks := s2.toks + ([] : List (Str × Value)).length } →
      codeAny (model X.prog X.w) X.A (.compLoop (.ListComp elt [⟨tg, iter, ifs, 0⟩] scope pos) 0 (.ref it) (.ref s2.heap.objs.size) (compEnvC scope (clOf X.env scope.names []) s3.heap.objs.size X.env)) (RR (.ref s2.heap.objs.size) s3.heap.objs.size) s4 := by
    rintro s4 rfl
    refine comp_loop (fun n s' => ∃ i σ' H', Inv (blk X (own ++ cn) scope s3.heap.objs.size s3 (upd H2 s2.heap.objs.size (.lst [])) fp) [] σ' H' s' ∧ tn i s'.heap ∧ (∀ b ∈ fp, H' b = none) ∧ W i n σ' H') ?_ m0
      ⟨0, _, _, I4, st4, fun b hb => (f3 b hb).1, w0⟩
    rintro n s5 ⟨i, σ5, H5, I5, st5, fr5, w5⟩
    rcases turn i n σ5 H5 w5 with ⟨stop, qn⟩ | ⟨go, step⟩
    · refine thn (T.done (blk X (own ++ cn) scope s3.heap.objs.size s3 (upd H2 s2.heap.objs.size (.lst [])) fp) rfl rfl rfl hc i [] s5 σ5 H5 (fun _ _ => False) I5 (stat fr5) st5 stop) fun r s6 ⟨hr, I6⟩ => ?_
      subst hr
      refine hRR _ _ H5 s6 (I3.call' I6.os I6.base I6.hok I6.bare fun b hb => ⟨(f3 b hb).2.2.2.1, (f3 b hb).2.1, (f3 b hb).2.2.2.2.1, (f3 b hb).2.2.2.2.2⟩) qn (let ⟨m, hn, _⟩ := I6.loc; ⟨m, hn⟩) (I3.fpOk (Nat.le_refl _) I6.free)
    · refine thn (T.item (blk X (own ++ cn) scope s3.heap.objs.size s3 (upd H2 s2.heap.objs.size (.lst [])) fp) rfl rfl rfl hc i [] s5 σ5 H5 (fun _ _ => False) I5 (stat fr5) st5 go) fun r s6 ⟨u, hr, h6⟩ => ?_
      subst hr
      refine thn h6 fun _ s7 ⟨x, H7, I7, r7, y7, st7, fr7⟩ => ?_
      have I7' := I7.pinned (stat fr7) (T.obj _ _ st7)
      refine thn (hg _ _ _ _ s7 σ5 H7 x u _ I7' r7 (step x H7 y7)) fun _ s8 ⟨σ8, H8, I8, q8⟩ => ?_
      refine thn (ht _ _ _ _ s8 σ8 H8 _ I8 q8) fun ok s9 ⟨H9, I9, q9⟩ => ?_
      have again : ∀ {H' : Hp} {s' : Shared} {m' : Nat}, Inv (blk X (own ++ cn) scope s3.heap.objs.size s3 (upd H2 s2.heap.objs.size (.lst [])) fp) ([] ++ pinsAt fp s7.heap) σ8 H' s' → W (i + 1) m' σ8 H' →
          ∃ i σ' H', Inv (blk X (own ++ cn) scope s3.heap.objs.size s3 (upd H2 s2.heap.objs.size (.lst [])) fp) [] σ' H' s' ∧ tn i s'.heap ∧ (∀ b ∈ fp, H' b = none) ∧ W i m' σ' H' := fun {H' s' m'} I' w' => by
        refine ⟨i + 1, σ8, H', I'.unpinned, T.keep _ _ _ st7 fun b hb o e => (I'.pin (b, o) (List.mem_append_right _ (List.mem_append_right _ (mem_pinsAt hb e)))).1, fun b hb => ?_, w'⟩
        obtain ⟨o, e, _⟩ := T.obj _ _ st7 b hb
        exact (I'.pin (b, o) (List.mem_append_right _ (List.mem_append_right _ (mem_pinsAt hb e)))).2.1
      cases ok with
      | false =>
        obtain ⟨m', hm, w'⟩ := q9
        exact ⟨m', hm, again I9 w'⟩
      | true =>
        refine thn (he _ _ _ _ s9 σ8 H9 _ I9 q9) fun v s10 ⟨y, H10, I10, r10, ys, hDl, hz, m', hm, w'⟩ => ?_
        refine thn (mt_append _ s10 σ8 H10 (.ref s2.heap.objs.size) [y] (.ref s2.heap.objs.size) [v] (fun _ H11 => H11 = upd H10 s2.heap.objs.size (.lst (ys ++ [y]))) I10 rfl (.cons r10 .nil) ⟨_, ys, y, rfl, rfl, hDl, hz, rfl⟩) fun _ s11 ⟨_, H11, I11, _, e11⟩ => ?_
        subst e11
        exact ⟨m', hm, again I11 w'⟩
  have es : ({ s2 with heap := h1, toks := s2.toks + ([] : List (Str × Value)).length } : Shared) = { s3 with heap := h1, toks := s2.toks + ([] : List (Str × Value)).length } := by rw [← hs3]
  rw [hC]
  exact codeAny_compStart_list (loop _ es) (T.self _ 0 _ _ _ st4 (loop _ es))

theorem pe_lc (S : BlkScope sc N own cn ci scope) (hsc : X.env.scope = sc) (hN : X.N = N) (hc : X.calm = true) (hi : PI X tg iter wi)
    (hg : ∀ fp C s H, PG (blk X (own ++ cn) scope C s H fp) tg g) (ht : ∀ fp C s H, PTs (blk X (own ++ cn) scope C s H fp) ifs tt) (he : ∀ fp C s H, PE (blk X (own ++ cn) scope C s H fp) elt te)
    (hs : ∀ x, foldedSetIterable iter X.env x = pure x := by intro _; rfl) : PE X (.ListComp elt [⟨tg, iter, ifs, 0⟩] scope pos) (tLC own ci wi g tt te) := by
  intro pins s σ H Q I h
  rw [eval_ListComp]
  refine wpAny_comprehension_free (use := none) rfl hs (closure_eq (blk_cells S hsc I)) S.kind S.names (thn (hi pins s σ H _ I h) fun xv s1 h1 => thn h1 fun itv s2 h2 => ?_)
  obtain ⟨it, fp, tn, J, H2, e, I2, T, st2, f2, q⟩ := h2
  subst e
  refine lc_block (RR := fun acc C => compPost (model X.prog X.w) X.A X.xe none (EP X pins σ Q) acc C) S hsc hN hc I2 T st2 f2 (hg fp) (ht fp) (he fp) q ?_
  intro D C H' s' I' q' ⟨m, hn⟩ fC
  exact ⟨m, hn, fun h' hs' => ⟨.ref D, H', I'.turned (t' := s'.toks) (fun b o hb e => (hs'.2 b hb).trans e) fC.1 (Ne.symm (Ne.symm fC.2.1)) fC.2.2.2.1 fC.2.2.2.2.1 fC.2.2.2.2.2, rfl, q'⟩⟩


def tSetLC (i : Nat) (t : TE) : TS := fun D σ H => t σ H fun v H1 => D.nx (σ.set i (some v)) H1
theorem ps_setlc {i : Nat} {y : Str} {py spos : Pos} (S : BlkScope sc N own cn ci scope) (hsc : X.env.scope = sc) (hN : X.N = N) (hc : X.calm = true) (hi : PI X tg iter wi)
    (hg : ∀ fp C s H, PG (blk X (own ++ cn) scope C s H fp) tg g) (ht : ∀ fp C s H, PTs (blk X (own ++ cn) scope C s H fp) ifs tt) (he : ∀ fp C s H, PE (blk X (own ++ cn) scope C s H fp) elt te)
    (hnd : X.N.Nodup) (hiy : X.N[i]? = some y) (hy : X.env.scope.names.lookup y = some .local)
    (hsw : swapsWith (.ListComp elt [⟨tg, iter, ifs, 0⟩] scope pos) (some (.Name y py)) spos.line X.env = pure true)
    (hs : ∀ x, foldedSetIterable iter X.env x = pure x := by intro _; rfl) : PS X (.Assign [.Name y py] (.ListComp elt [⟨tg, iter, ifs, 0⟩] scope pos) spos) (tSetLC i (tLC own ci wi g tt te)) := by
  intro pins s σ H D I h
  rw [exec_Assign_Name_used _ _ _ _ hsw]
  refine wpAny_bind (wpAny_standAt (wpAny_bind ?_))
  show wpAny _ X.A (do let _ ← comprehension (.ListComp elt [⟨tg, iter, ifs, 0⟩] scope pos) scope X.env _ (newList []) false (eval iter X.env) (some (assign (.Name y py) X.env))) _ _ s
  refine wpAny_bind (wpAny_mono (wpAny_comprehension_free (use := some (assign (.Name y py) X.env)) (Q := fun _ s' => SP X pins D .next s') rfl hs (closure_eq (blk_cells S hsc I)) S.kind S.names
    (thn (hi pins s σ H _ I h) fun xv s1 h1 => thn h1 fun itv s2 h2 => ?_)) (fun _ s' hq => wpAny_pure (wpAny_pure hq)) fun _ _ e => e)
  obtain ⟨it, fp, tn, J, H2, e, I2, T, st2, f2, q⟩ := h2
  subst e
  refine lc_block (RR := fun acc C => compPost (model X.prog X.w) X.A X.xe (some (assign (.Name y py) X.env)) (fun _ s' => SP X pins D .next s') acc C) (Q := fun v H1 => D.nx (σ.set i (some v)) H1) S hsc hN hc I2 T st2 f2 (hg fp) (ht fp) (he fp) q ?_
  intro D' C H' s' I' q' ⟨m, hn⟩ fC
  refine wpAny_assign_Name (store_ok2 (v := .ref D') I' hnd hiy (.inl hy) rfl (fun s'' I'' ⟨a, hsb, ha⟩ => ?_) (.inr hy))
  have hCa : C ≠ a := by
    rcases ha with ha | ha
    · rw [ha]; exact fC.2.1
    · exact Ne.symm (fC.2.2.2.2.1 _ _ ha)
  exact ⟨m, hn.sameBut hsb hCa, fun h' hs' => ⟨_, H', I''.turned (t' := s''.toks) (fun b o hb e => (hs'.2 b hb).trans e) fC.1 fC.2.1 fC.2.2.2.1 fC.2.2.2.2.1 fC.2.2.2.2.2, q'⟩⟩
end


theorem lc_range {lo : Int} {n : Nat} {caps : St} {tt : TT} {te : TE} {D : Addr} {Q : Hp → Prop} {H1 : Hp} (Pv : Nat → List V → Hp → Prop) (hz : n ≤ sizeLine) (h0 : Pv 0 [] (upd H1 D (.lst []))) (hl : ∀ i ys H, Pv i ys H → ys.length ≤ i)
    (hs : ∀ i ys H (N : VK) (M : Hp → Prop), i < n → Pv i ys H → (∀ y H4, H4 D = some (.lst ys) → Pv (i + 1) (ys ++ [y]) (upd H4 D (.lst (ys ++ [y]))) → N y H4) → (∀ H3, Pv (i + 1) ys H3 → M H3) →
      tt (some (.int (lo + i)) :: caps) H fun ok H3 => if ok = true then te (some (.int (lo + i)) :: caps) H3 N else M H3)
    (hd : ∀ ys H, Pv n ys H → Q H) : ∃ W : Nat → Nat → St → Hp → Prop, (∃ m, W 0 m (none :: caps) (upd H1 D (.lst []))) ∧ LcW (Itr lo n) (gName 0) tt te D Q W := by
  refine ⟨fun i m σ H => m = n - i ∧ i ≤ n ∧ (∃ v, σ = v :: caps) ∧ ∃ ys, Pv i ys H, ⟨n, by simp, Nat.zero_le _, ⟨none, rfl⟩, [], h0⟩, ?_⟩
  rintro i m σ H ⟨rfl, hi, ⟨v, rfl⟩, ys, p⟩
  have hy := hl i ys H p
  by_cases hlt : i < n
  · refine .inr ⟨hlt, fun x H1 y => ?_⟩
    obtain ⟨e, y⟩ := y
    subst e y
    refine hs i ys _ _ _ hlt p (fun y H4 a c => ⟨ys, a, by omega, n - (i + 1), by omega, rfl, hlt, ⟨_, rfl⟩, _, c⟩) (fun H3 c => ⟨n - (i + 1), by omega, rfl, hlt, ⟨_, rfl⟩, ys, c⟩)
  · have e : i = n := by omega
    subst e
    exact .inl ⟨Nat.le_refl _, hd ys H p⟩
theorem lc_list {K : PySem.W.Frag} {a : Addr} {xs : List V} {caps : St} {tt : TT} {te : TE} {D : Addr} {Q : Hp → Prop} {H1 : Hp} (Pv : Nat → List V → Hp → Prop) (hz : xs.length ≤ sizeLine) (h0 : Pv 0 [] (upd H1 D (.lst []))) (hl : ∀ i ys H, Pv i ys H → ys.length ≤ i) (hq : ∀ i ys H, Pv i ys H → SqL K H a xs)
    (hs : ∀ i ys H (x : V) (N : VK) (M : Hp → Prop), xs[i]? = some x → Pv i ys H → (∀ y H4, H4 D = some (.lst ys) → Pv (i + 1) (ys ++ [y]) (upd H4 D (.lst (ys ++ [y]))) → N y H4) → (∀ H3, Pv (i + 1) ys H3 → M H3) →
      tt (some x :: caps) H fun ok H3 => if ok = true then te (some x :: caps) H3 N else M H3)
    (hd : ∀ ys H, Pv xs.length ys H → Q H) : ∃ W : Nat → Nat → St → Hp → Prop, (∃ m, W 0 m (none :: caps) (upd H1 D (.lst []))) ∧ LcW (Itl K a) (gName 0) tt te D Q W := by
  refine ⟨fun i m σ H => m = xs.length - i ∧ i ≤ xs.length ∧ (∃ v, σ = v :: caps) ∧ ∃ ys, Pv i ys H, ⟨xs.length, by simp, Nat.zero_le _, ⟨none, rfl⟩, [], h0⟩, ?_⟩
  rintro i m σ H ⟨rfl, hi, ⟨v, rfl⟩, ys, p⟩
  have hy := hl i ys H p
  by_cases hlt : i < xs.length
  · refine .inr ⟨⟨xs, xs[i], hq i ys H p, by simp [hlt]⟩, fun x H1 y => ?_⟩
    obtain ⟨e, y⟩ := y
    subst e
    have hx := y xs (hq i ys _ p)
    refine hs i ys _ x _ _ hx p (fun y H4 a c => ⟨ys, a, by omega, xs.length - (i + 1), by omega, rfl, hlt, ⟨_, rfl⟩, _, c⟩) (fun H3 c => ⟨xs.length - (i + 1), by omega, rfl, hlt, ⟨_, rfl⟩, ys, c⟩)
  · have e : i = xs.length := by omega
    subst e
    exact .inl ⟨⟨xs, hq _ ys H p, Nat.le_refl _⟩, hd ys H p⟩
theorem lc_tup {K : PySem.W.Frag} {a : Addr} {xs : List V} {caps : St} {tt : TT} {te : TE} {D : Addr} {Q : Hp → Prop} {H1 : Hp} (Pv : Nat → List V → Hp → Prop) (hz : xs.length ≤ sizeLine) (h0 : Pv 0 [] (upd H1 D (.lst []))) (hl : ∀ i ys H, Pv i ys H → ys.length ≤ i) (hq : ∀ i ys H, Pv i ys H → SqT K H a xs)
    (hs : ∀ i ys H (x : V) (N : VK) (M : Hp → Prop), xs[i]? = some x → Pv i ys H → (∀ y H4, H4 D = some (.lst ys) → Pv (i + 1) (ys ++ [y]) (upd H4 D (.lst (ys ++ [y]))) → N y H4) → (∀ H3, Pv (i + 1) ys H3 → M H3) →
      tt (some x :: caps) H fun ok H3 => if ok = true then te (some x :: caps) H3 N else M H3)
    (hd : ∀ ys H, Pv xs.length ys H → Q H) : ∃ W : Nat → Nat → St → Hp → Prop, (∃ m, W 0 m (none :: caps) (upd H1 D (.lst []))) ∧ LcW (Itt K a) (gName 0) tt te D Q W := by
  refine ⟨fun i m σ H => m = xs.length - i ∧ i ≤ xs.length ∧ (∃ v, σ = v :: caps) ∧ ∃ ys, Pv i ys H, ⟨xs.length, by simp, Nat.zero_le _, ⟨none, rfl⟩, [], h0⟩, ?_⟩
  rintro i m σ H ⟨rfl, hi, ⟨v, rfl⟩, ys, p⟩
  have hy := hl i ys H p
  by_cases hlt : i < xs.length
  · refine .inr ⟨⟨xs, xs[i], hq i ys H p, by simp [hlt]⟩, fun x H1 y => ?_⟩
    obtain ⟨e, y⟩ := y
    subst e
    have hx := y xs (hq i ys _ p)
    refine hs i ys _ x _ _ hx p (fun y H4 a c => ⟨ys, a, by omega, xs.length - (i + 1), by omega, rfl, hlt, ⟨_, rfl⟩, _, c⟩) (fun H3 c => ⟨xs.length - (i + 1), by omega, rfl, hlt, ⟨_, rfl⟩, ys, c⟩)
  · have e : i = xs.length := by omega
    subst e
    exact .inl ⟨⟨xs, hq _ ys H p, Nat.le_refl _⟩, hd ys H p⟩
end L2
namespace L2
open PySem PySem.Spec PyProof.Rows

section
variable {X : Cx}
theorem call_isinst : CallR X (.builtin "isinstance") (fun xs H Q => ∃ x n t b, xs = [x, .ty n] ∧ TyOf X.K H x t ∧ PySem.W.kitOne X.K t (.type n) = some b ∧ Q (.bl b) H) := by
  intro pins s σ H xs us Q I r h
  obtain ⟨x, n, t, b, rfl, ty, e, q⟩ := h
  obtain ⟨u, v, rfl, rx, ry⟩ := r.two
  cases (show v = Value.type n from ry)
  exact isinst_ok I rx ty e fun tk => ⟨.bl b, H, I.tok tk, rfl, q⟩

theorem atI_int {xs : List V} {i : Int} {v : V} (h0 : 0 ≤ i) (h : xs[i.toNat]? = some v) : atI xs i = some v := by
  have e : i = ((i.toNat : Nat) : Int) := by omega
  rw [e]
  exact atI_nat h
theorem Same.upd_free {H H' : Hp} {a : Addr} {o : HO} (s : Same H H') (n : H a = none) : Same H (upd H' a o) := fun b u e => by
  rw [upd_ne (ne_of_none e n)]
  exact s b u e

def tCut (t : TS) : TS := fun D σ H => ∃ M : St → Hp → Prop, t { D with nx := M } σ H ∧ ∀ σ' H', M σ' H' → D.nx σ' H'
theorem ps_cut {st : Stmt} {t : TS} (h : PS X st t) : PS X st (tCut t) := by
  intro pins s σ H D I ⟨M, h1, h2⟩
  refine thn (h pins s σ H _ I h1) fun f s' q => ?_
  cases f with
  | next =>
    obtain ⟨σ', H', I', m⟩ := q
    exact ⟨σ', H', I', h2 _ _ m⟩
  | brk => exact q
  | cont => exact q
  | ret u => exact q
theorem small9 {n : Nat} (h : n ≤ 100000) : n < sizeLine := Nat.lt_of_le_of_lt h (by decide)
end
end L2
namespace L2
open PySem PySem.Spec PyProof.Rows


section
variable {κ : Type} [DecidableEq κ]
end



section
variable {P : Program} {w : World} {H : Hp} {h : Heap} {a : Addr}
end


section
variable {X : Cx} {pins : List (Addr × Obj)} {σ : St} {H : Hp} {s : Shared} {a : Addr} {y v : V} {u r : Value} {o : Option V} {A : Around} {E : Value → Shared → Prop}

theorem Inv.big (I : Inv X pins σ H s) : sysModules < s.heap.objs.size := by
  have h : mainGlobals < s.heap.objs.size := (I.mod.glob.keeps I.bk).lt
  exact Nat.lt_trans (by decide) h


theorem d_write {h' : Heap} {t' : Nat} {ob : HO} (I : Inv X pins σ H s) (mu : Mut (H a)) (hs : Heap.SameBut a s.heap h') (he : ∃ q, h'.get? a = some q) (new : ObjOk X.prog X.w (upd H a ob) h' a ob) :
    Inv X pins σ (upd H a ob) { s with heap := h', toks := t' } :=
  I.write (x := a) (e := a) mu (.inl rfl) (fun b q hb z => (hs.2 b hb).trans z) he new
end

section
variable {X : Cx} {pins : List (Addr × Obj)} {σ : St} {H : Hp} {s : Shared} {a : Addr} {kvs : List (Key × V)} {k : Key} {u : Value} {A : Around} {E : Value → Shared → Prop}

end




section
variable {X : Cx} {o i e value : Expr} {pos pos' tpos : Pos} {td ty tv : TE}
end



section
variable {X : Cx} {pos : Pos}
end


def tPairs : List (TE × TE) → St → Hp → (List (V × V) → Hp → Prop) → Prop
  | [], _, H, Q => Q [] H
  | (tk, tv) :: r, σ, H, Q => tk σ H fun x H1 => tv σ H1 fun y H2 => tPairs r σ H2 fun ps H3 => Q ((x, y) :: ps) H3
abbrev VV : List (V × V) → List (Value × Value) → Prop := Paired fun p q => RelV p.1 q.1 ∧ RelV p.2 q.2
def PPs (X : Cx) (pos : Pos) (keys : List (Option Expr)) (values : List Expr) (trs : List (TE × TE)) : Prop :=
  ∀ (pins : List (Addr × Obj)) (s : Shared) (σ : St) (H : Hp) (Q : List (V × V) → Hp → Prop), Inv X pins σ H s → tPairs trs σ H Q →
    wpAny (model X.prog X.w) X.A (evalPairs (pairTrees keys values X.env pos)) (fun vs s' => ∃ ps H', Inv X pins σ H' s' ∧ VV ps vs ∧ Q ps H') X.xe s
theorem pps_nil {X : Cx} {pos : Pos} : PPs X pos [] [] [] := fun pins s σ H Q I h => pairTrees_nil_walk ⟨[], H, I, .nil, h⟩
theorem pps_cons {X : Cx} {pos : Pos} {k v : Expr} {ks : List (Option Expr)} {vs : List Expr} {tk tv : TE} {trs : List (TE × TE)} (hk : PE X k tk) (hv : PE X v tv) (hr : PPs X pos ks vs trs) :
    PPs X pos (some k :: ks) (v :: vs) ((tk, tv) :: trs) := fun pins s σ H Q I h =>
  pairTrees_cons_walk (thn (hk pins s σ H _ I h) fun u s1 ⟨x, H1, I1, rx, q1⟩ => thn (hv pins s1 σ H1 _ I1 q1) fun w2 s2 ⟨y, H2, I2, ry, q2⟩ =>
    thn (hr pins s2 σ H2 _ I2 q2) fun ws s3 ⟨ps, H3, I3, rel, q3⟩ => ⟨(x, y) :: ps, H3, I3, .cons ⟨rx, ry⟩ rel, q3⟩)

structure M1 (X : Cx) (o : Expr) (m : Str) (apos : Pos) (e : Expr) (cpos : Pos) : Prop where
  base : attributeBase o m X.env (eval o X.env) = eval o X.env
  few : ((backTo cpos (starEach [e] X.env)).all (fun x => !x.1) && (backToKw cpos (keywordEach [] X.env)).all (fun x => x.1.isSome)
    && decide (([e] : List Expr).length + ([] : List Keyword).length + (if ([] : List Keyword).isEmpty then 0 else 1) < 30)) = true
  line : (apos.endLine == cpos.line) = true
  trees : backTo cpos (starEach [e] X.env) = [(false, eval e X.env)]
structure M2 (X : Cx) (o : Expr) (m : Str) (apos : Pos) (e f : Expr) (cpos : Pos) : Prop where
  base : attributeBase o m X.env (eval o X.env) = eval o X.env
  few : ((backTo cpos (starEach [e, f] X.env)).all (fun x => !x.1) && (backToKw cpos (keywordEach [] X.env)).all (fun x => x.1.isSome)
    && decide (([e, f] : List Expr).length + ([] : List Keyword).length + (if ([] : List Keyword).isEmpty then 0 else 1) < 30)) = true
  line : (apos.endLine == cpos.line) = true
  trees : backTo cpos (starEach [e, f] X.env) = [(false, eval e X.env), (false, eval f X.env)]


section
variable {X : Cx} {pins : List (Addr × Obj)} {σ : St} {H : Hp} {s : Shared} {a : Addr} {y d : V} {u r : Value} {o : Option V} {A : Around} {E : Value → Shared → Prop}

end

section
variable {X : Cx} {o e f : Expr} {apos cpos : Pos} {td ty tx : TE}
end


section
variable {X : Cx} {pins : List (Addr × Obj)} {σ : St} {H : Hp} {s : Shared} {a : Addr} {kvs : List (Key × V)} {A : Around} {E : Value → Shared → Prop}
end


section
variable {X : Cx} {pins : List (Addr × Obj)} {σ : St} {H : Hp} {s : Shared} {a : Addr} {y : V} {u : Value} {A : Around} {E : Value → Shared → Prop}

end
end L2
namespace L2
open PySem PySem.Spec PyProof.Rows

mutual
inductive DAt (K : PySem.W.Frag) (H : Hp) : V → PyData → Prop
  | non : DAt K H .non .none
  | bl (b : Bool) : DAt K H (.bl b) (.bool b)
  | int (i : Int) : DAt K H (.int i) (.int i)
  | str (x : Str) : DAt K H (.str x) (.str x)
  | lst {a : Addr} {xs : List V} {ds : List PyData} : SqL K H a xs → DsAt K H xs ds → DAt K H (.ref a) (.list ds)
  | tup {a : Addr} {xs : List V} {ds : List PyData} : SqT K H a xs → DsAt K H xs ds → DAt K H (.ref a) (.tuple ds)
inductive DsAt (K : PySem.W.Frag) (H : Hp) : List V → List PyData → Prop
  | nil : DsAt K H [] []
  | cons {x : V} {d : PyData} {xs : List V} {ds : List PyData} : DAt K H x d → DsAt K H xs ds → DsAt K H (x :: xs) (d :: ds)
end
section
variable {X : Cx} {pins : List (Addr × Obj)} {σ : St} {H : Hp} {s : Shared}
mutual
theorem DAt.reads (I : Inv X pins σ H s) : ∀ {x : V} {d : PyData} {u : Value}, DAt X.K H x d → RelV x u → ∃ as, Reads s.heap u d as
  | _, _, _, .non, r => by
    cases r
    exact ⟨_, .none⟩
  | _, _, _, .bl b, r => by
    cases r
    exact ⟨_, .bool b⟩
  | _, _, _, .int i, r => by
    obtain ⟨t, rfl⟩ := r
    exact ⟨_, .int i t⟩
  | _, _, _, .str x, r => by
    obtain ⟨t, rfl⟩ := r
    exact ⟨_, .str x t⟩
  | _, _, _, .lst hq ds, r => by
    cases r
    obtain ⟨its, rv, p, _⟩ := I.list hq
    obtain ⟨as, ra⟩ := DsAt.reads I ds rv
    obtain ⟨o, h1, h2, n, h3⟩ := p.isList
    exact ⟨_, .list h1 h2 h3 (by simpa using ra)⟩
  | _, _, _, .tup hq ds, r => by
    cases r
    obtain ⟨its, rv, p, _⟩ := I.tuple hq
    obtain ⟨as, ra⟩ := DsAt.reads I ds rv
    obtain ⟨o, h1, h2, n, h3⟩ := p
    exact ⟨_, .tuple h1 h2 h3 (by simpa using ra)⟩
theorem DsAt.reads (I : Inv X pins σ H s) : ∀ {xs : List V} {ds : List PyData} {us : List Value}, DsAt X.K H xs ds → Vals xs us → ∃ as, ReadsAll s.heap us ds as
  | _, _, _, .nil, r => by
    cases r
    exact ⟨_, .nil⟩
  | _, _, _, .cons d ds, r => by
    cases r with
    | cons r rs =>
      obtain ⟨as, ra⟩ := DAt.reads I d r
      obtain ⟨bs, rb⟩ := DsAt.reads I ds rs
      exact ⟨_, .cons ra rb⟩
end

def DOk (d : PyData) : Prop := d.canLay0 = true ∧ d.depth ≤ 40
def rEqD (K : PySem.W.Frag) (neg : Bool) : R2 := fun x y H Q => ∃ dx dy, DAt K H x dx ∧ DAt K H y dy ∧ DOk dx ∧ DOk dy ∧ Q (.bl (if neg then !PyData.eqv dx dy else PyData.eqv dx dy)) H
theorem op_eqD (hu : X.A.units + 64 < cLine) : OpR X (compareOp .Eq) (rEqD X.K false) := by
  intro pins s σ H x y v u Q I rx ry h
  obtain ⟨dx, dy, ax, ay, okx, oky, q⟩ := h
  obtain ⟨as, r1⟩ := ax.reads I rx
  obtain ⟨bs, r2⟩ := ay.reads I ry
  refine SeqAt.compareEq_reads r1 r2 okx.1 oky.1 ?_ (fin_bl I q rfl)
  have h1 := okx.2
  have h2 : min dx.depth dy.depth ≤ dx.depth := Nat.min_le_left _ _
  omega
theorem op_neD (hu : X.A.units + 64 < cLine) : OpR X (compareOp .NotEq) (rEqD X.K true) := by
  intro pins s σ H x y v u Q I rx ry h
  obtain ⟨dx, dy, ax, ay, okx, oky, q⟩ := h
  obtain ⟨as, r1⟩ := ax.reads I rx
  obtain ⟨bs, r2⟩ := ay.reads I ry
  refine SeqAt.compareNe_reads r1 r2 okx.1 oky.1 ?_ (fin_bl I q rfl)
  have h1 := okx.2
  have h2 : min dx.depth dy.depth ≤ dx.depth := Nat.min_le_left _ _
  omega
def rInD (K : PySem.W.Frag) (neg : Bool) : R2 := fun x y H Q => ∃ p xs dx ds, y = .ref p ∧ (SqL K H p xs ∨ SqT K H p xs) ∧ DsAt K H xs ds ∧ DAt K H x dx ∧ DOk dx ∧ PyData.canLayAll0 ds = true ∧
  Q (.bl (if neg then !(ds.any fun d => PyData.eqv d dx) else ds.any fun d => PyData.eqv d dx)) H
theorem in_room {a b c : Nat} (hu : a + 64 < c) (h : b ≤ 40) (k : Nat) : a + 1 + min k b < c := by
  have h2 : min k b ≤ b := Nat.min_le_right _ _
  omega
theorem op_inD (hu : X.A.units + 64 < cLine) : OpR X (compareOp .In) (rInD X.K false) := by
  intro pins s σ H x y v u Q I rx ry h
  obtain ⟨p, xs, dx, ds, rfl, hp, ad, ax, okx, okd, q⟩ := h
  obtain ⟨bs, r2⟩ := ax.reads I rx
  rcases hp with hp | hp
  · obtain ⟨as, r1⟩ := (DAt.lst hp ad).reads I ry
    exact SeqAt.in_list_reads r1 r2 okd okx.1 (in_room hu okx.2 _) (fin_bl I q rfl)
  · obtain ⟨as, r1⟩ := (DAt.tup hp ad).reads I ry
    exact SeqAt.in_tuple_reads r1 r2 okd okx.1 (in_room hu okx.2 _) (fin_bl I q rfl)
theorem op_notInD (hu : X.A.units + 64 < cLine) : OpR X (compareOp .NotIn) (rInD X.K true) := by
  intro pins s σ H x y v u Q I rx ry h
  obtain ⟨p, xs, dx, ds, rfl, hp, ad, ax, okx, okd, q⟩ := h
  obtain ⟨bs, r2⟩ := ax.reads I rx
  rcases hp with hp | hp
  · obtain ⟨as, r1⟩ := (DAt.lst hp ad).reads I ry
    exact SeqAt.notIn_list_reads r1 r2 okd okx.1 (in_room hu okx.2 _) (fin_bl I q rfl)
  · obtain ⟨as, r1⟩ := (DAt.tup hp ad).reads I ry
    exact SeqAt.notIn_tuple_reads r1 r2 okd okx.1 (in_room hu okx.2 _) (fin_bl I q rfl)

def rCat0 (K : PySem.W.Frag) : R2 := fun x y H Q => ∃ a b ys, x = .ref a ∧ y = .ref b ∧ SqT K H a [] ∧ SqT K H b ys ∧ Q (.ref b) H
theorem op_cat0 : OpR X (binaryOp .Add) (rCat0 X.K) := by
  intro pins s σ H x y v u Q I rx ry h
  obtain ⟨a, b, ys, rfl, rfl, ha, hb, q⟩ := h
  cases rx
  cases ry
  obtain ⟨us, ru, pu, _⟩ := I.tuple ha
  obtain ⟨ws, rw', pw, _⟩ := I.tuple hb
  cases ru
  obtain ⟨⟨cls, dd, data, sl⟩, ho, hc, n, hd⟩ := id pu
  obtain ⟨⟨cls2, dd2, data2, sl2⟩, ho2, hc2, n2, hd2⟩ := id pw
  simp only at hc hd hc2 hd2
  subst hc hd hc2 hd2
  have st := tuple_addW0 a b ([] : List Value).toArray ws.toArray n n2 dd dd2 sl sl2 (by simp)
  exact concat_meets ⟨_, ho, rfl⟩ ⟨_, ho2, rfl⟩ noFill_tuple_add seq_tuple_add PySem.F.slot_tuple_add PySem.F.entry_tuple_add (PySem.F.args_tuple_add_2 _ _) st ⟨ho, ho2, ⟨.ref b, H, I, rfl, q⟩⟩

def TSame (H H' : Hp) : Prop := ∀ b xs, H b = some (.tup xs) → H' b = some (.tup xs)
theorem Same.tups {H H' : Hp} (s : Same H H') : TSame H H' := fun b xs e => s b _ e
theorem TSame.upd_lst {H H' : Hp} {a : Addr} {ys : List V} {o : HO} (s : TSame H H') (h : H' a = some (.lst ys)) : TSame H (upd H' a o) := fun b xs e => by
  have q := s b xs e
  rw [upd_ne (ne_of q h (by intro z; cases z))]
  exact q
end
end L2
namespace L2
open PySem PySem.Spec PyProof.Rows
open AutoSeq1 (wpAny_loadPart')

section
variable {prog : Program} {w : World} {A : Around} {E : Value → Shared → Prop} {s : Shared}
end
section
variable {X : Cx} {pins : List (Addr × Obj)} {σ : St} {H : Hp} {s : Shared}

end

end L2
namespace L2
open PySem PySem.Spec PyProof.Rows
end L2
namespace L2
open PySem PySem.Spec PyProof.Rows

section
variable {X : Cx}
def rCat1 (K : PySem.W.Frag) : R2 := fun x y H Q => ∃ a b xs ys, x = .ref a ∧ y = .ref b ∧ H a = some (.tup xs) ∧ SqT K H b ys ∧ xs ≠ [] ∧ xs.length + ys.length ≤ sizeLine ∧ ∀ p H', Same H H' → H' p = some (.tup (xs ++ ys)) → Q (.ref p) H'
theorem op_cat1 : OpR X (binaryOp .Add) (rCat1 X.K) := by
  intro pins s σ H x y v u Q I rx ry h
  obtain ⟨a, b, xs, ys, rfl, rfl, ha, hb, hx, hz, q⟩ := h
  exact op_catT pins s σ H _ _ v u Q I rx ry ⟨a, b, xs, ys, rfl, rfl, SqT.of ha, hb, hx, hz, fun z => q a H (Same.refl H) (by subst z; rw [List.append_nil]; exact ha), fun _ p hp => q p _ ((Same.refl H).upd_free hp) upd_same⟩
end
end L2
namespace L2
open PySem PySem.Spec PyProof.Rows

section
variable {X : Cx}

end
end L2
namespace L2
open PySem PySem.Spec PyProof.Rows


end L2
namespace L2
open PySem PySem.Spec PyProof.Rows

def numIs : Int → Value → Bool
  | k, .int i _ => i == k
  | k, .bool b => (if b then (1 : Int) else 0) == k
  | _, _ => false
theorem numIs_shape {k : Int} {v : Value} (h : numIs k v = true) : (∃ t, v = .int k t) ∨ ∃ b : Bool, v = .bool b ∧ (if b then (1 : Int) else 0) = k := by
  cases v <;> simp_all [numIs]
section
variable {prog : Program} {w : World} {A : Around} {E : Value → Shared → Prop} {s : Shared}
theorem hash_bl {b : Bool} {Q : Int → Shared → Prop} (h : Q (hashInt (if b then 1 else 0)) { s with toks := s.toks + 1 }) : wpAny (model prog w) A (PySem.pyHash (.bool b)) Q E s := by
  have tI : s.TypeIs (.bool b) "bool" := rfl
  unfold PySem.pyHash
  refine wpAny_bind ?_
  rw [cRoomFor, if_neg (by rw [show [Value.bool b].any Value.onHeap = false from rfl]; exact Bool.false_ne_true)]
  refine wpAny_pure ?_
  refine wpAny_bind (wpAny_specialOf tI PySem.F.slot_bool_hash.lookup ?_)
  show wpAny _ _ (if (some (Value.builtin "int.__hash__") == some Value.none) = true then _ else _) Q E _
  rw [if_neg (by rw [beq_builtin_none]; exact Bool.false_ne_true)]
  refine wpAny_bind (wpAny_specialOf tI PySem.F.slot_bool_hash.lookup ?_)
  show wpAny _ _ (callSpecialIfBoundUnlessNone? (.bool b) "__hash__" _ >>= _) Q E _
  refine wpAny_bind (wpAny_callSpecialIfBoundUnlessNone?_slot tI PySem.F.slot_bool_hash (wpAny_call_entry PySem.F.slot_bool_hash tI entry_int_hash ?_ (args_int_hash _)))
  cases b
  · exact (show wpAny _ _ (do ret (← mkInt 0)) _ _ s from wpAny_ret_mkInt (by
      show wpAny _ _ (if (decide (-(2 : Int) ^ 63 ≤ 0) && decide ((0 : Int) < 2 ^ 63)) = true then _ else _) Q E _
      rw [if_pos (by decide)]
      exact wpAny_pure h))
  · exact (show wpAny _ _ (do ret (← mkInt 1)) _ _ s from wpAny_ret_mkInt (by
      show wpAny _ _ (if (decide (-(2 : Int) ^ 63 ≤ 1) && decide ((1 : Int) < 2 ^ 63)) = true then _ else _) Q E _
      rw [if_pos (by decide)]
      exact wpAny_pure h))
end
def numKind (prog : Program) (w : World) : PySem.KeyKind prog w Int where
  is := numIs
  hash := hashInt
  inj := fun v a b ha hb => by cases v <;> simp_all [numIs]
  byValue := fun k v h => by rcases numIs_shape h with ⟨t, rfl⟩ | ⟨b, rfl, _⟩ <;> rfl
  pyHash := fun hv h => by
    rcases numIs_shape hv with ⟨t, rfl⟩ | ⟨b, rfl, e⟩
    · exact wpAny_pyHash_int h
    · exact hash_bl (by rw [e]; exact h)
  eqBool := fun {A E s a b u v Q} hu hv h => by
    rcases numIs_shape hu with ⟨t, rfl⟩ | ⟨c, rfl, e⟩ <;> rcases numIs_shape hv with ⟨t', rfl⟩ | ⟨d, rfl, e'⟩
    · exact wpAny_eqBool_int h
    · refine SeqAt.EqAt.int_bool a t d prog w E Q ?_
      rw [e', show (a == b) = decide (a = b) from rfl]
      exact h
    · refine SeqAt.EqAt.bool_int c b t' prog w E Q ?_
      rw [e, show (a == b) = decide (a = b) from rfl]
      exact h
    · refine SeqAt.EqAt.bool_bool c d prog w E Q ?_
      have q : (c == d) = decide (a = b) := by subst e e'; cases c <;> cases d <;> rfl
      rw [q]
      exact h
  «strs» := fun k x t v h => by simp [numIs] at h

def nV : V → Option Int
  | .int i => some i
  | .bl b => some (if b then 1 else 0)
  | _ => none
theorem nV_is {P : Program} {w : World} {v : V} {u : Value} {k : Int} (e : nV v = some k) (r : RelV v u) : (numKind P w).is k u = true := by
  cases v with
  | int i => obtain ⟨t, rfl⟩ := (show ∃ t, u = Value.int i t from r); cases e; simp [numKind, numIs]
  | bl b => cases (show u = Value.bool b from r); cases e; simp [numKind, numIs]
  | _ => cases e

def Nums (xs : List V) (ns : List Int) : Prop := xs.map nV = ns.map some
theorem nums_ints (ns : List Int) : Nums (ns.map V.int) ns := by unfold Nums; rw [List.map_map]; rfl
theorem nums_are {P : Program} {w : World} : ∀ {xs : List V} {ns : List Int} {us : List Value}, Nums xs ns → Vals xs us → ItemsAre (numKind P w) ns us
  | [], [], _, _, .nil => .nil
  | [], _ :: _, _, h, _ => by simp [Nums] at h
  | _ :: _, [], _, h, _ => by simp [Nums] at h
  | x :: xs, n :: ns, _, h, .cons r t => by
    have h' : nV x = some n ∧ xs.map nV = ns.map some := by simpa [Nums] using h
    exact .cons (nV_is h'.1 r) (nums_are (xs := xs) h'.2 t)

section
variable {X : Cx} {pins : List (Addr × Obj)} {σ : St} {H : Hp} {s : Shared} {a : Addr} {kvs : List (Int × V)} {k : Int} {y v : V} {u r : Value} {A : Around} {E : Value → Shared → Prop}
variable {o i value : Expr} {pos pos' : Pos} {td ty tv : TE}
end
end L2
namespace SO
open PySem PyProof PyProof.Rows HT

theorem lex_irr : ∀ a : List Int, lexLt a a = false
  | [] => rfl
  | x :: xs => by rw [lexLt_cons, if_pos rfl]; exact lex_irr xs
theorem lex_neg : ∀ a b c : List Int, lexLt a c = true → lexLt a b = true ∨ lexLt b c = true
  | [], [], [], h => by cases h
  | [], [], _ :: _, _ => .inr rfl
  | [], _ :: _, _, _ => .inl rfl
  | _ :: _, _, [], h => by rw [lexLt_cons_nil] at h; cases h
  | _ :: _, [], _ :: _, _ => .inr rfl
  | x :: xs, y :: ys, z :: zs, h => by
    rw [lexLt_cons] at h
    rw [lexLt_cons, lexLt_cons]
    by_cases e1 : x = y
    · rw [if_pos e1]
      subst e1
      by_cases e2 : x = z
      · rw [if_pos e2] at h ⊢
        exact lex_neg xs ys zs h
      · rw [if_neg e2] at h ⊢
        exact .inr h
    · rw [if_neg e1]
      by_cases e2 : y = z
      · subst e2
        rw [if_neg e1] at h
        exact .inl h
      · rw [if_neg e2]
        by_cases e3 : x = z
        · subst e3
          rcases Int.lt_or_gt_of_ne e1 with q | q
          · exact .inl (by simpa using q)
          · exact .inr (by simpa using q)
        · rw [if_neg e3] at h
          have h : x < z := by simpa using h
          by_cases q : x < y
          · exact .inl (by simpa using q)
          · exact .inr (by simp; omega)
theorem lex_tot : ∀ a b : List Int, lexLt a b = false → lexLt b a = false → a = b
  | [], [], _, _ => rfl
  | [], _ :: _, h, _ => by cases h
  | _ :: _, [], _, h => by cases h
  | x :: xs, y :: ys, h1, h2 => by
    rw [lexLt_cons] at h1 h2
    by_cases e : x = y
    · subst e
      rw [if_pos rfl] at h1 h2
      rw [lex_tot xs ys h1 h2]
    · rw [if_neg e] at h1
      rw [if_neg (fun q => e q.symm)] at h2
      have := decide_eq_false_iff_not.mp h1
      have := decide_eq_false_iff_not.mp h2
      omega
theorem neg_asym {α : Type} {r : α → α → Bool} (irr : ∀ a, r a a = false) (neg : ∀ a b c, r a c = true → r a b = true ∨ r b c = true) (tot : ∀ a b, r a b = false → r b a = false → a = b) (h3 : ∀ a b, r a b = true → r b a = true → False) : ∀ a b c, r a b = true → r b c = true → r a c = true := by
  intro a b c h1 h2
  rcases neg a c b h1 with q | q
  · exact q
  · exact (h3 _ _ h2 q).elim
theorem lex_asym : ∀ a b : List Int, lexLt a b = true → lexLt b a = true → False
  | [], [], h, _ => by cases h
  | [], _ :: _, _, h => by cases h
  | _ :: _, [], h, _ => by cases h
  | x :: xs, y :: ys, h1, h2 => by
    rw [lexLt_cons] at h1 h2
    by_cases e : x = y
    · subst e
      rw [if_pos rfl] at h1 h2
      exact lex_asym xs ys h1 h2
    · rw [if_neg e] at h1
      rw [if_neg (fun q => e q.symm)] at h2
      have := of_decide_eq_true h1
      have := of_decide_eq_true h2
      omega
abbrev KP := Int × List Int

def prLt (x y : KP) : Bool := lexLt (x.1 :: x.2) (y.1 :: y.2)
def prOrd : KeyOrd where
  α := KP
  blt := prLt
  irrefl := fun a => lex_irr _
  trans := fun a b c => neg_asym (r := HT.lexLt) lex_irr lex_neg lex_tot lex_asym _ _ _
  negTrans := fun a b c => lex_neg _ _ _
  total := fun a b h1 h2 => by
    have := lex_tot _ _ h1 h2
    injection this with e1 e2
    exact Prod.ext e1 e2
def PrK (h : Heap) (k : KP) (v : Value) : Prop := ∃ a b t items, v = .ref a ∧ IsTup h a #[.int k.1 t, .ref b] ∧ IsTup h b items ∧ IntsAre items.toList k.2
theorem ints_inj : ∀ {vs : List Value} {ns ms : List Int}, IntsAre vs ns → IntsAre vs ms → ns = ms
  | _, _, _, .nil, .nil => rfl
  | _, _, _, .cons _ _ r, .cons _ _ r' => by rw [ints_inj r r']
theorem tup_inj {h : Heap} {a : Addr} {x y : Array Value} (h1 : IsTup h a x) (h2 : IsTup h a y) : x = y := by
  obtain ⟨o, e1, _, n, d1⟩ := h1
  obtain ⟨o', e2, _, n', d2⟩ := h2
  rw [e1] at e2
  cases e2
  rw [d1] at d2
  injection d2
theorem PrK.inj {h : Heap} {k k' : KP} {v : Value} (x : PrK h k v) (y : PrK h k' v) : k = k' := by
  obtain ⟨a, b, t, i, rfl, h1, h2, h3⟩ := x
  obtain ⟨a', b', t', i', e, h1', h2', h3'⟩ := y
  cases e
  have e1 := tup_inj h1 h1'
  injection e1 with e1
  injection e1 with e2 e3
  injection e2 with e4
  injection e3 with e5
  injection e5 with e6
  subst e6
  have e7 := tup_inj h2 h2'
  subst e7
  exact Prod.ext e4 (ints_inj h3 h3')
open Classical in
noncomputable def kyP (h : Heap) (x : Keyed) : KP := if e : ∃ k, PrK h k x.1 then e.choose else (0, [])
theorem kyP_is {h : Heap} {k : KP} {x : Keyed} (e : PrK h k x.1) : kyP h x = k := by
  unfold kyP
  have q : ∃ k, PrK h k x.1 := ⟨k, e⟩
  rw [dif_pos q]
  exact q.choose_spec.inj e
theorem tup_key {P : Program} {w : World} {h : Heap} {b : Addr} {items : Array Value} {ns : List Int} (x : IsTup h b items) (i : IntsAre items.toList ns) : IsTupleKey (L2.numKind P w) h ns b := by
  obtain ⟨o, e1, e2, n, e3⟩ := x
  refine ⟨o, items, n, e1, e2, e3, ?_⟩
  generalize items.toList = l at i
  induction i with
  | nil => exact .nil
  | cons n t r ih => exact .cons (by show L2.numIs n (.int n t) = true; simp [L2.numIs]) ih
section
variable {prog : Program} {w : World} {A : Around} {E : Value → Shared → Prop} {s : Shared}
theorem cmp_pr {k k' : KP} {x y : Value} {Q : Bool → Shared → Prop} (hu : A.units + 2 < cLine) (hx : PrK s.heap k x) (hy : PrK s.heap k' y) (h : Q (prLt k k') s) : wpAny (model prog w) A (keyLt' (tuples' true) x y) Q E s := by
  obtain ⟨a, b, t, its, rfl, ⟨o1, g1, c1, n1, d1⟩, h2, h3⟩ := hx
  obtain ⟨a', b', t', its', rfl, ⟨o1', g1', c1', n1', d1'⟩, h2', h3'⟩ := hy
  refine PySem.W.kat_lt g1 d1 g1' d1' ?_
  have ez : (#[Value.int k.1 t, .ref b].toList.zip #[Value.int k'.1 t', .ref b'].toList) = [(.int k.1 t, .int k'.1 t'), (.ref b, .ref b')] := rfl
  rw [ez]
  have hl : prLt k k' = if k.1 = k'.1 then lexLt k.2 k'.2 else decide (k.1 < k'.1) := lexLt_cons _ _ _ _
  rw [hl] at h
  refine PySem.W.kat_cons (PySem.wpAny_eqBool_int ?_)
  by_cases e : k.1 = k'.1
  · rw [if_pos e] at h
    rw [show (k.1 == k'.1) = true by simpa using e]
    refine PySem.W.kat_yes (PySem.W.kat_cons (PySem.wpAny_eqBool_tuple (knd := L2.numKind prog w) (by omega) (tup_key h2 h3) (tup_key h2' h3') ?_))
    by_cases e2 : k.2 = k'.2
    · rw [show decide (k.2 = k'.2) = true by simpa using e2]
      refine PySem.W.kat_yes (PySem.W.kat_nil ?_)
      rw [e2, lex_irr] at h
      exact h
    · rw [show decide (k.2 = k'.2) = false by simpa using e2]
      refine PySem.W.kat_no (PySem.W.kat_one _ _ ?_)
      exact HT.lt_tupInts h2 h2' h3 h3' (by omega) h
  · rw [if_neg e] at h
    rw [show (k.1 == k'.1) = false by simpa using e]
    exact PySem.W.kat_no (oneLt_int h)
theorem cmp_prs {a₀ : Array Keyed} (hu : A.units + 2 < cLine) (h : ∀ x ∈ a₀.toList, ∃ k, PrK s.heap k x.1) : Cmp (model prog w) A s prOrd (kyP s.heap) (tuples' true) a₀ := by
  intro x hx y hy Q E hq
  obtain ⟨k, hk⟩ := h x hx
  obtain ⟨k', hk'⟩ := h y hy
  rw [kyP_is hk, kyP_is hk'] at hq
  exact cmp_pr hu hk hk' hq
end
end SO
namespace SO
open PySem PyProof PyProof.Rows HT
section
variable {prog : Program} {w : World} {A : Around} {E : Value → Shared → Prop} {s : Shared}
theorem tup_kept {h h' : Heap} {a : Addr} {x : Array Value} (g : ∀ b o, h.get? b = some o → o.cls = .type "tuple" → h'.get? b = some o) (t : IsTup h a x) : IsTup h' a x := by
  obtain ⟨o, e1, e2, e3⟩ := t
  exact ⟨o, g a o e1 e2, e2, e3⟩
theorem PrK.kept {h h' : Heap} {k : KP} {v : Value} (g : ∀ b o, h.get? b = some o → o.cls = .type "tuple" → h'.get? b = some o) (x : PrK h k v) : PrK h' k v := by
  obtain ⟨a, b, t, i, rfl, h1, h2, h3⟩ := x
  exact ⟨a, b, t, i, rfl, tup_kept g h1, tup_kept g h2, h3⟩
inductive PrKs (h : Heap) : List KP → List Value → Prop
  | nil : PrKs h [] []
  | cons {k : KP} {v : Value} {ks : List KP} {vs : List Value} : PrK h k v → PrKs h ks vs → PrKs h (k :: ks) (v :: vs)
theorem PrKs.kept {h h' : Heap} (g : ∀ b o, h.get? b = some o → o.cls = .type "tuple" → h'.get? b = some o) : ∀ {ks : List KP} {vs : List Value}, PrKs h ks vs → PrKs h' ks vs
  | _, _, .nil => .nil
  | _, _, .cons x r => .cons (x.kept g) (PrKs.kept g r)
theorem PrKs.mem {h : Heap} : ∀ {ks : List KP} {vs : List Value}, PrKs h ks vs → ∀ v ∈ vs, ∃ k ∈ ks, PrK h k v
  | _, _, .cons x r, v, hv => by
    rcases List.mem_cons.mp hv with rfl | hv
    · exact ⟨_, List.mem_cons_self, x⟩
    · obtain ⟨k, k1, k2⟩ := PrKs.mem r v hv
      exact ⟨k, List.mem_cons_of_mem _ k1, k2⟩
theorem prs_firsts {h : Heap} : ∀ {ks : List KP} {vs : List Value}, PrKs h ks vs → ∃ fs, PySem.W.KatTups h vs fs ∧ fs.length = vs.length ∧ ∀ f ∈ fs, ∃ n t, f = Value.int n t
  | _, _, .nil => ⟨[], PySem.W.KatTups.nil, rfl, fun f hf => by cases hf⟩
  | _, _, .cons (k := k) x r => by
    obtain ⟨fs, f1, f2, f3⟩ := prs_firsts r
    obtain ⟨a, b, t, i, rfl, ⟨o, e1, e2, n, e3⟩, h2, h3⟩ := x
    refine ⟨.int k.1 t :: fs, PySem.W.KatTups.cons e1 e2 e3 rfl f1, by rw [List.length_cons, List.length_cons, f2], fun f hf => ?_⟩
    rcases List.mem_cons.mp hf with rfl | hf
    · exact ⟨_, _, rfl⟩
    · exact f3 f hf
theorem prs_kind {ks : List KP} {vs : List Value} {Q : SortKind → Shared → Prop} (x : PrKs s.heap ks vs) (hne : 0 < vs.length) (h : Q (tuples' true) s) : wpAny (model prog w) A (keyKind' vs.toArray) Q E s := by
  obtain ⟨fs, f1, f2, f3⟩ := prs_firsts x
  refine PySem.W.kat_kind (T := .type "int") f1 (by omega) (fun v hv => ?_) (by decide) ?_
  · obtain ⟨n, t, rfl⟩ := f3 v hv
    exact .now
  · exact h
theorem pairs_mem {vs : List Value} {x : Keyed} (h : x ∈ (pairsOf vs).toList) : x.1 ∈ vs ∧ x.2 = x.1 := by
  have : (pairsOf vs).toList = vs.zip vs := by simp [pairsOf]
  rw [this] at h
  obtain ⟨i, hi, e⟩ := List.mem_iff_getElem.mp h
  rw [List.getElem_zip] at e
  subst e
  exact ⟨List.getElem_mem _, rfl⟩
theorem list_sort_prs {a : Addr} {vs : List Value} {ks : List KP} {n : Nat} {P : PySem.Fin → Shared → Prop} (hu : A.units + 2 < cLine) (ho : s.heap.get? a = some (seqObj "list" vs.toArray n))
    (hx : PrKs s.heap ks vs) (hz : vs.length ≤ 1000)
    (h : ∀ st' : SortSt, (arrOf st').Perm (pairsOf vs) → Up (O := prOrd) (kyP s.heap) (arrOf st') 0 (pairsOf vs).size → P (.done (.ret .none)) { s with heap := sortedHeap s.heap a vs ((arrOf st').map (·.2)) }) :
    wpAny (model prog w) A (Builtin.«list.sort» ⟨[.ref a], []⟩) P E s := by
  rw [list_sort_plain]
  have ha : a < s.heap.objs.size := Heap.lt_size ho
  have hsz : vs.toArray.size = vs.length := by simp
  refine wpAny_bind (listItems_at ho rfl ?_)
  refine wpAny_bind (listUpdate_at ho rfl ?_ (by rw [hsz, sizeLine_eq]; omega) (Nat.zero_le _))
  obtain ⟨e1, ho1⟩ : ∃ e1, (s.heap.update a (Obj.mapSeq fun _ => #[])).get? a = some (seqObj "list" #[] e1) := ⟨_, get?_update_seq ho (fun _ => #[])⟩
  refine wpAny_bind (seqEpoch_at ho1 rfl ?_)
  refine wpAny_bind (wpAny_newTuple ?_ (by show vs.length ≤ _; rw [sizeLine_eq]; omega))
  refine wpAny_bind (wpAny_newList ?_ (Nat.zero_le _))
  refine wpAny_holding ?_
  have ho6 : (((s.heap.update a (Obj.mapSeq fun _ => #[])).push (seqObj "tuple" vs.toArray 0)).push (seqObj "list" #[] 0)).get? a = some (seqObj "list" #[] e1) := by
    rw [Heap.get?_push_ne _ _ _ (by rw [size_push', Heap.size_update]; exact Nat.ne_of_lt (Nat.lt_succ_of_lt ha)), Heap.get?_push_ne _ _ _ (by rw [Heap.size_update]; exact Nat.ne_of_lt ha)]
    exact ho1
  have keep : ∀ b o, s.heap.get? b = some o → o.cls = .type "tuple" → (((s.heap.update a (Obj.mapSeq fun _ => #[])).push (seqObj "tuple" vs.toArray 0)).push (seqObj "list" #[] 0)).get? b = some o := by
    intro b o hb hc
    have hba : b ≠ a := by
      intro e
      subst e
      rw [ho] at hb
      cases hb
      have hc' : Value.type "list" = Value.type "tuple" := hc
      injection hc' with e
      exact absurd e (by decide)
    have hlt : b < s.heap.objs.size := Heap.lt_size hb
    rw [Heap.get?_push_ne _ _ _ (by rw [size_push', Heap.size_update]; exact Nat.ne_of_lt (Nat.lt_succ_of_lt hlt)), Heap.get?_push_ne _ _ _ (by rw [Heap.size_update]; exact Nat.ne_of_lt hlt), Heap.get?_update_ne _ _ _ _ hba]
    exact hb
  show wpAny (model prog w) A _ P E { s with heap := ((s.heap.update a (Obj.mapSeq fun _ => #[])).push (seqObj "tuple" vs.toArray 0)).push (seqObj "list" #[] 0) }
  dsimp only
  by_cases h2 : vs.toArray.size < 2
  · rw [if_pos h2, if_pos h2]
    refine wpAny_bind (wpAny_pure ?_)
    rw [StateT.run_pure]
    refine wpAny_bind (wpAny_pure ?_)
    dsimp only
    refine wpAny_bind (seqEpoch_at ho6 rfl ?_)
    refine wpAny_bind (listUpdate_at ho6 rfl ?_ (Nat.zero_le _) (by rw [Array.size_map]; show (pairsOf vs).size ≤ _; rw [pairsOf_size, sizeLine_eq]; omega))
    simp only [bne_self_eq_false, Bool.false_eq_true, if_false]
    refine wpAny_pure (h (SortSt.mk' general' (vs.toArray.zip vs.toArray) #[] 7 none) (Array.Perm.refl _) ?_)
    intro i j hij hj
    have : i = j := by rw [pairsOf_size] at hj; omega
    subst this; exact KeyOrd.kle_refl _
  · rw [if_neg h2, if_neg h2]
    have hx' := hx.kept keep
    refine wpAny_bind (prs_kind (s := { s with heap := ((s.heap.update a (Obj.mapSeq fun _ => #[])).push (seqObj "tuple" vs.toArray 0)).push (seqObj "list" #[] 0) }) hx' (by omega) ?_)
    refine wpAny_bind (wpAny_mono (wpS_sortAll (O := prOrd) (ky := kyP s.heap) (κ := tuples' true) (a₀ := pairsOf vs) (st := SortSt.mk' (tuples' true) (vs.toArray.zip vs.toArray) #[] 7 none)
      (Q := fun _ st' => (arrOf st').Perm (pairsOf vs) ∧ failedOf st' = none ∧ Up (O := prOrd) (kyP s.heap) (arrOf st') 0 (pairsOf vs).size)
      ?cmp ⟨Array.Perm.refl _, rfl, rfl⟩ rfl (by rw [pairsOf_size]; omega) fun st' a1 a2 => ⟨a1.perm, a1.failed, a2⟩) ?_ fun _ _ e => e)
    case cmp =>
      intro x hxm y hym Q' E' hq
      obtain ⟨k, k1, k2⟩ := hx.mem _ (pairs_mem hxm).1
      obtain ⟨k', k1', k2'⟩ := hx.mem _ (pairs_mem hym).1
      rw [kyP_is k2, kyP_is k2'] at hq
      exact cmp_pr (s := { s with heap := ((s.heap.update a (Obj.mapSeq fun _ => #[])).push (seqObj "tuple" vs.toArray 0)).push (seqObj "list" #[] 0) }) hu (k2.kept keep) (k2'.kept keep) hq
    rintro ⟨⟨⟩, st'⟩ s' ⟨rfl, hp, hf, hs⟩
    dsimp only
    refine wpAny_bind (seqEpoch_at ho6 rfl ?_)
    refine wpAny_bind (listUpdate_at ho6 rfl ?_ (Nat.zero_le _) (by refine Nat.le_trans (Nat.le_of_eq ((Array.size_map ..).trans (hp.size_eq.trans (pairsOf_size _)))) ?_; rw [sizeLine_eq]; omega))
    rw [hf]
    simp only [bne_self_eq_false, Bool.false_eq_true, if_false]
    exact wpAny_pure (h st' hp hs)
theorem sorted_prs {l : Addr} {vs : List Value} {ks : List KP} {Q : Value → Shared → Prop} (hu : A.units + 4 < cLine) (hl : s.heap.IsList l vs.toArray) (hx : PrKs s.heap ks vs) (hz : vs.length ≤ 1000)
    (h : ∀ st' : SortSt, (arrOf st').Perm (pairsOf vs) → Up (O := prOrd) (kyP s.heap) (arrOf st') 0 (pairsOf vs).size → Q (.ref (s.heap.objs.size + 1)) { s with heap := sortedAll s.heap vs ((arrOf st').map (·.2)) }) :
    wpAny (model prog w) A (call (.builtin "sorted") [.ref l]) Q E s := by
  refine Calls.call_function_entry kind_sorted plain_sorted entry_sorted (args_sorted1 _) ?_
  unfold Builtin.«sorted»
  refine wpAny_bind (m := checkCount "sorted" 1 1 _) (wpAny_pure ?_)
  refine wpAny_bind (collect_list hl ?_ (by rw [sizeLine_eq]; omega))
  refine wpAny_bind (wpAny_newList ?_ (by rw [sizeLine_eq]; omega))
  have hsz : ((s.heap.push (seqObj "list" #[] 0)).update s.heap.objs.size (Obj.mapSeq (· ++ vs.toArray))).objs.size = s.heap.objs.size + 1 := by
    rw [Heap.size_update, size_push']
  have hoL : (((s.heap.push (seqObj "list" #[] 0)).update s.heap.objs.size (Obj.mapSeq (· ++ vs.toArray))).push (seqObj "list" vs.toArray 0)).get? (s.heap.objs.size + 1) = some (seqObj "list" vs.toArray 0) := by
    rw [← hsz]; exact Heap.get?_push_size _ rfl
  have keep : ∀ b o, s.heap.get? b = some o → (((s.heap.push (seqObj "list" #[] 0)).update s.heap.objs.size (Obj.mapSeq (· ++ vs.toArray))).push (seqObj "list" vs.toArray 0)).get? b = some o := fun b o q => by
    have hlt : b < s.heap.objs.size := Heap.lt_size q
    rw [Heap.get?_push_ne _ _ _ (by rw [hsz]; exact Nat.ne_of_lt (Nat.lt_succ_of_lt hlt)), Heap.get?_update_ne _ _ _ _ (Nat.ne_of_lt hlt), Heap.get?_push_ne _ _ _ (Nat.ne_of_lt hlt)]
    exact q
  show wpAny _ _ _ _ _ { s with heap := ((s.heap.push (seqObj "list" #[] 0)).update s.heap.objs.size (Obj.mapSeq (· ++ vs.toArray))).push (seqObj "list" vs.toArray 0) }
  rw [hsz]
  have hx' := hx.kept fun b o e _ => keep b o e
  have eqk : ∀ x ∈ (pairsOf vs).toList, kyP s.heap x = kyP (((s.heap.push (seqObj "list" #[] 0)).update s.heap.objs.size (Obj.mapSeq (· ++ vs.toArray))).push (seqObj "list" vs.toArray 0)) x := fun x hxm => by
    obtain ⟨k, k1, k2⟩ := hx.mem _ (pairs_mem hxm).1
    rw [kyP_is k2, kyP_is (k2.kept fun b o e _ => keep b o e)]
  refine wpAny_bind (wpAny_holding (wpAny_call_entry slot_list_sort ⟨_, hoL, rfl⟩ entry_list_sort (list_sort_prs (s := { s with heap := ((s.heap.push (seqObj "list" #[] 0)).update s.heap.objs.size (Obj.mapSeq (· ++ vs.toArray))).push (seqObj "list" vs.toArray 0) }) ?_ hoL hx' hz fun st' a1 a2 => ⟨_, rfl, ?_⟩) (args_list_sort _)))
  · show A.units + 1 + 1 + 2 < _
    omega
  refine wpAny_pure ⟨_, rfl, h st' a1 ?_⟩
  intro i j hij hj
  have hs := a1.size_eq
  obtain ⟨x, ex, hxm⟩ := at_lt (a := arrOf st') (i := 0 + i) (by omega)
  obtain ⟨y, ey, hym⟩ := at_lt (a := arrOf st') (i := 0 + j) (by omega)
  have px := (Array.perm_iff_toList_perm.mp a1).mem_iff.mp hxm
  have py := (Array.perm_iff_toList_perm.mp a1).mem_iff.mp hym
  have := a2 i j hij hj
  have q1 := kk_some (O := prOrd) (ky := kyP s.heap) ex
  have q2 := kk_some (O := prOrd) (ky := kyP s.heap) ey
  have q3 := kk_some (O := prOrd) (ky := kyP (((s.heap.push (seqObj "list" #[] 0)).update s.heap.objs.size (Obj.mapSeq (· ++ vs.toArray))).push (seqObj "list" vs.toArray 0))) ex
  have q4 := kk_some (O := prOrd) (ky := kyP (((s.heap.push (seqObj "list" #[] 0)).update s.heap.objs.size (Obj.mapSeq (· ++ vs.toArray))).push (seqObj "list" vs.toArray 0))) ey
  rw [← eqk x px, ← q1] at q3
  rw [← eqk y py, ← q2] at q4
  rw [← q3, ← q4]
  exact this
end
end SO
namespace L2
open PySem PySem.Spec PyProof.Rows

section
variable {prog : Program} {w : World} {A : Around} {E : Value → Shared → Prop} {s : Shared}
end
section
variable {prog : Program} {w : World} {K : Type} [DecidableEq K] {knd : HeapKind prog w K} {A : Around} {E : Value → Shared → Prop} {s : Shared}
end
end L2
namespace L2
open PySem PySem.Spec PyProof.Rows

abbrev KP := Int × List Int
section
variable {X : Cx} {pins : List (Addr × Obj)} {σ : St} {H : Hp} {s : Shared} {a : Addr} {xs : List (KP × Addr × V)}
end
end L2
namespace L2
open PySem PySem.Spec PyProof.Rows

abbrev KTu := List Int
def TKy (H : Hp) (k : KTu) (b : Addr) : Prop := ∃ vs, H b = some (.tup vs) ∧ Nums vs k
abbrev TRel : KTu × Addr × V → KTu × Addr × Value → Prop := fun p q => p.1 = q.1 ∧ p.2.1 = q.2.1 ∧ RelV p.2.2 q.2.2
def TOk (P : Program) (w : World) (xs : List (KTu × Addr × V)) (o : Obj) : Prop := xs.length ≤ sizeLine ∧ o.ExactDict ∧ ∃ us es ep, Paired TRel xs us ∧ o.data = .dict es ep ∧ es.toList = us.map (entryOfKey (tupleKind (numKind P w))) ∧ (us.map (·.1)).Nodup
def TD (P : Program) (w : World) (a : Addr) (xs : List (KTu × Addr × V)) (o : Obj) : HO := .ext fun h => h.get? a = some o ∧ (a == sysModules) = false ∧ TOk P w xs o
def TKs (H : Hp) (xs : List (KTu × Addr × V)) : Prop := ∀ x ∈ xs, TKy H x.1 x.2.1
theorem tk_is {P : Program} {w : World} {H : Hp} {h : Heap} {k : KTu} {b : Addr} (ok : HOk P w H h) (e : TKy H k b) : IsTupleKey (numKind P w) h k b := by
  obtain ⟨vs, h3, h4⟩ := e
  obtain ⟨_, jts, r', o', f1, f2, m, f3⟩ := (show ObjOk P w H h b (.tup vs) from ok b _ h3)
  exact ⟨o', jts.toArray, m, f1, f2, f3, by simpa using nums_are h4 r'⟩
section
variable {X : Cx} {pins : List (Addr × Obj)} {σ : St} {H : Hp} {s : Shared} {a : Addr} {xs : List (KTu × Addr × V)} {o : Obj}
theorem td_at (I : Inv X pins σ H s) (e : H a = some (TD X.prog X.w a xs o)) : s.heap.get? a = some o ∧ (a == sysModules) = false ∧ TOk X.prog X.w xs o :=
  (show ObjOk X.prog X.w H s.heap a (TD X.prog X.w a xs o) from I.hok _ _ e).1
theorem td_of (I : Inv X pins σ H s) (e : H a = some (TD X.prog X.w a xs o)) (hk : TKs H xs) : xs.length ≤ sizeLine ∧ (a == sysModules) = false ∧ ∃ us, Paired TRel xs us ∧ s.heap.DictOfH (tupleKind (numKind X.prog X.w)) a us := by
  obtain ⟨g1, hd, z, g2, us, es, ep, r, g3, g4, g5⟩ := td_at I e
  refine ⟨z, hd, us, r, o, es, ep, g1, g2, g3, g4, ?_, g5⟩
  clear g4 g5 z e
  induction r with
  | nil => intro x hx; cases hx
  | @cons p q ps qs h t ih =>
    intro x hx
    rcases List.mem_cons.mp hx with rfl | hx
    · have := tk_is I.hok (hk p List.mem_cons_self)
      rw [h.1, h.2.1] at this
      exact this
    · exact ih (fun y hy => hk y (List.mem_cons_of_mem _ hy)) x hx
theorem td_new {P : Program} {w : World} {h : Heap} {us : List (KTu × Addr × Value)} (z : xs.length ≤ sizeLine) (hd : (a == sysModules) = false) (r : Paired TRel xs us) (dd : h.DictOfH (tupleKind (numKind P w)) a us) : ∃ o, ∀ H, ObjOk P w H h a (TD P w a xs o) := by
  obtain ⟨o, es, ep, g1, g2, g3, g4, _, g5⟩ := dd
  exact ⟨o, fun H => ⟨⟨g1, hd, z, g2, us, es, ep, r, g3, g4, g5⟩, ⟨o, g1⟩, fun h1 h2 ⟨e, m⟩ k => ⟨k o e, m⟩⟩⟩
def tTNew (P : Program) (w : World) : TE := fun _ H Q => ∀ p o, H p = none → Q (.ref p) (upd H p (TD P w p [] o))
theorem pe_tnew {pos : Pos} : PE X (.Dict [] [] pos) (tTNew X.prog X.w) := fun pins s σ H Q I h => by
  obtain ⟨o, ho⟩ := td_new (P := X.prog) (w := X.w) (xs := []) (Nat.zero_le _) (beq_eq_false_iff_ne.mpr (Ne.symm (Nat.ne_of_lt I.big))) .nil (Heap.DictOfH.new s.heap)
  exact wpAny_Dict_empty ⟨.ref s.heap.objs.size, _, I.laid (a := s.heap.objs.size) (o := TD X.prog X.w s.heap.objs.size [] o) (t' := s.toks) (fun _ _ q => Heap.get?_push_of_some _ q) (Nat.le_refl _) (ho _), rfl, h _ _ (I.hok.fresh (Nat.le_refl _))⟩
end

section
variable {prog : Program} {w : World} {A : Around} {E : Value → Shared → Prop} {s : Shared}
theorem next_keys_item {it d : Addr} {i ep : Nat} {od : Obj} {es : Array DictEntry} {e : DictEntry} {Q : Option Value → Shared → Prop} (hit : s.heap.IsKeyIter it d i es.size ep)
    (hod : s.heap.get? d = some od) (hdd : od.data = .dict es ep) (hx : es[i]? = some e)
    (hQ : ∀ h', h'.IsKeyIter it d (i + 1) es.size ep → Heap.SameBut it s.heap h' → Q (some e.key) { s with heap := h' }) :
    wpAny (model prog w) A (pyNext (.ref it)) Q E s := by
  obtain ⟨o, ho, hc, hd⟩ := id hit
  unfold pyNext
  refine wpAny_bind (wpAny_attempt (wpAny_callSpecial?_slot (name := Str.ofString "__next__") hit.typeIs F.slot_dict_keyiterator_next
    (wpAny_call_entry F.slot_dict_keyiterator_next hit.typeIs F.entry_dict_keyiterator_next ?_ (F.args_dict_keyiterator_next_1 _))))
  refine wpAny_bind (wpAny_pure ?_)
  refine wpAny_bind ?_
  refine wpAny_bind ?_
  first | refine wpAny_bind (wpAny_typeNameOfWhole_keyiter hit.typeIs (wpAny_pure ?_)) | refine wpAny_bind (wpAny_typeNameOf_keyiter hit.typeIs (wpAny_pure ?_))
  refine wpAny_bind (wpAny_fieldsOf ho hd ?_)
  have hown : Builtin.Dict_items.ownsTuple "dict_keyiterator" = false := by decide
  simp only [hown, Bool.false_eq_true, if_false]
  show wpAny _ _ (if (Value.ref d == Value.none) = true then _ else _) _ _ s
  rw [if_neg (show ¬ ((Value.ref d == Value.none) = true) from Bool.false_ne_true)]
  refine wpAny_bind (wpAny_pure ?_)
  refine wpAny_bind (wpAny_dictEntries hod hdd ?_)
  rw [if_neg (by simp)]
  refine wpAny_bind (wpAny_pure ?_)
  refine wpAny_bind (wpAny_dictEpoch hod hdd ?_)
  rw [if_neg (by simp)]
  refine wpAny_pure ?_
  simp only [show ¬ ((i : Int) < 0) from by omega, if_false, Int.toNat_natCast, hx]
  refine wpAny_bind ?_
  first | refine wpAny_bind (wpAny_typeNameOfWhole_keyiter hit.typeIs (wpAny_pure ?_)) | refine wpAny_bind (wpAny_typeNameOf_keyiter hit.typeIs (wpAny_pure ?_))
  refine wpAny_bind (wpAny_isOneOf_keyiter hit.typeIs ?_)
  show wpAny _ _ (setField (.ref it) 1 (rawInt ((i : Int) + 1)) >>= _) _ _ s
  refine wpAny_bind (wpAny_setField ho hd (by simp) ?_)
  have hit' : (s.heap.update it (Obj.mapFields (·.setIfInBounds 1 (rawInt ((i : Int) + 1))))).IsKeyIter it d (i + 1) es.size ep :=
    ⟨_, Heap.get?_update_self _ ho (Obj.isFreed_of_fields (Obj.data_mapFields hd _)), (Obj.cls_mapFields ..).trans hc, by rw [Obj.data_mapFields hd]; simp [rawInt]⟩
  refine wpAny_bind (wpAny_holding ?_)
  refine wpAny_bind (wpAny_isOneOf_keyiter (s := { s with heap := s.heap.update it (Obj.mapFields (·.setIfInBounds 1 (rawInt ((i : Int) + 1)))) }) hit'.typeIs ?_)
  show wpAny _ _ (pure e.key) _ _ _
  exact wpAny_pure (wpAny_pure ⟨_, rfl, wpAny_pure (hQ _ hit' (Heap.SameBut.update ..))⟩)
theorem next_keys_end {it d : Addr} {i ep : Nat} {od : Obj} {es : Array DictEntry} {Q : Option Value → Shared → Prop} (hh : A.handled = none) (hit : s.heap.IsKeyIter it d i es.size ep)
    (hod : s.heap.get? d = some od) (hdd : od.data = .dict es ep) (hge : es.size ≤ i)
    (hQ : ∀ h', Heap.ExtBut it s.heap h' → Q none { s with heap := h' }) : wpAny (model prog w) A (pyNext (.ref it)) Q E s := by
  obtain ⟨o, ho, hc, hd⟩ := id hit
  unfold pyNext
  refine wpAny_bind (wpAny_attempt (wpAny_callSpecial?_slot (name := Str.ofString "__next__") hit.typeIs F.slot_dict_keyiterator_next
    (wpAny_call_entry F.slot_dict_keyiterator_next hit.typeIs F.entry_dict_keyiterator_next ?_ (F.args_dict_keyiterator_next_1 _))))
  refine wpAny_bind (wpAny_pure ?_)
  refine wpAny_bind ?_
  refine wpAny_bind ?_
  first | refine wpAny_bind (wpAny_typeNameOfWhole_keyiter hit.typeIs (wpAny_pure ?_)) | refine wpAny_bind (wpAny_typeNameOf_keyiter hit.typeIs (wpAny_pure ?_))
  refine wpAny_bind (wpAny_fieldsOf ho hd ?_)
  have hown : Builtin.Dict_items.ownsTuple "dict_keyiterator" = false := by decide
  simp only [hown, Bool.false_eq_true, if_false]
  show wpAny _ _ (if (Value.ref d == Value.none) = true then _ else _) _ _ s
  rw [if_neg (show ¬ ((Value.ref d == Value.none) = true) from Bool.false_ne_true)]
  refine wpAny_bind (wpAny_pure ?_)
  refine wpAny_bind (wpAny_dictEntries hod hdd ?_)
  rw [if_neg (by simp)]
  refine wpAny_bind (wpAny_pure ?_)
  refine wpAny_bind (wpAny_dictEpoch hod hdd ?_)
  rw [if_neg (by simp)]
  refine wpAny_pure ?_
  simp only [show ¬ ((i : Int) < 0) from by omega, if_false, Int.toNat_natCast, Array.getElem?_eq_none hge]
  refine wpAny_bind ?_
  first | refine wpAny_bind (wpAny_typeNameOfWhole_keyiter hit.typeIs (wpAny_pure ?_)) | refine wpAny_bind (wpAny_typeNameOf_keyiter hit.typeIs (wpAny_pure ?_))
  show wpAny _ _ (setField (.ref it) 0 .none >>= _) _ _ s
  refine wpAny_bind (wpAny_setField ho hd (by simp) ?_)
  show wpAny _ _ (newExc (.type "StopIteration") [] >>= _) _ _ _
  refine wpAny_bind ?_
  simp only [newExc, newTuple]
  refine wpAny_bind (wpAny_newObj_type ?_ (by size_fits))
  refine wpAny_bind (m := firstArgMember _ _) (wpAny_of_eq (a := Value.none) (by first | rfl | (simp only [firstArgMember]; rfl)) ?_)
  refine wpAny_newObj_type ?_ (by size_fits)
  simp only [raiseNew]
  refine wpAny_bind (wpAny_handled ?_)
  rw [show A.in1.handled = none from hh]
  refine wpAny_bind (wpAny_pure (wpAny_throw ?_))
  refine wpAny_bind (wpAny_isInstance (T := "StopIteration") (b := true) ⟨_, Heap.get?_push_size _ rfl, rfl⟩ isSubtype_stop ?_)
  exact wpAny_pure (hQ _ (((Heap.SameBut.update ..).extBut.push _).push _))
theorem meets_keysT (d : Addr) (hd : (d == sysModules) = false) :
    MeetsIn prog w (Builtin.«dict.keys» ⟨[.ref d], []⟩) (fun _ R s => s.TypeIs (.ref d) "dict" ∧
      R (.ok (.ret (.ref s.heap.objs.size))) { s with heap := s.heap.push { cls := .type "dict_keys", data := .fields #[.ref d] } }) :=
  .of_wp fun A R s ⟨hm, h⟩ => by
    refine wpAny_bind ?_
    unfold Builtin.Dict.noArgs
    refine wpAny_bind (wpAny_notOrdered_dict hm ?_)
    show wpAny _ _ (pure d) _ _ s
    refine wpAny_pure ?_
    show wpAny _ _ (Builtin.Dict.showsAll d >>= _) _ _ s
    unfold Builtin.Dict.showsAll
    rw [if_neg (by rw [hd]; exact Bool.false_ne_true)]
    refine wpAny_bind (wpAny_pure ?_)
    exact wpAny_bind (wpAny_newObj_type (wpAny_pure ⟨_, rfl, h⟩))
theorem iter_keysT {v d : Addr} {o : Obj} {es : Array DictEntry} {ep : Nat} {Q : Value → Shared → Prop} (hv : PySem.W.KdlKeysView s.heap v d) (ho : s.heap.get? d = some o) (hdat : o.data = .dict es ep)
    (hQ : Q (.ref s.heap.objs.size) { s with heap := s.heap.push { cls := .type "dict_keyiterator", data := .fields #[.ref d, .int 0 0, .int es.size 0, .int ep 0] } }) :
    wpAny (model prog w) A (pyIter (.ref v)) Q E s := by
  obtain ⟨ov, hov, hcv, hdv⟩ := id hv
  refine wpAny_pyIter_slot hv.typeIs PySem.W.kdl_slot_keys_iter (wpAny_call_entry PySem.W.kdl_slot_keys_iter hv.typeIs PySem.W.kdl_entry_keys_iter ?_ (PySem.W.kdl_args_keys_iter _))
  unfold Builtin.«dict_keys.__iter__»
  refine wpAny_bind (wpAny_pure ?_)
  refine wpAny_bind ?_
  unfold Builtin.Dict_items.dictOf
  refine wpAny_bind (wpAny_field hov hdv (x := .ref d) rfl (wpAny_pure ?_))
  refine wpAny_bind ?_
  unfold Builtin.Dict_items.newIterator
  refine wpAny_bind (wpAny_dictEntries ho hdat ?_)
  refine wpAny_bind (wpAny_dictEpoch ho hdat ?_)
  have hown : Builtin.Dict_items.ownsTuple "dict_keyiterator" = false := by decide
  simp only [hown, Bool.false_eq_true, if_false]
  refine wpAny_newObj_type (wpAny_pure ⟨_, rfl, "dict_keyiterator", _, ⟨_, Heap.get?_push_size _ rfl, rfl⟩, PySem.F.slot_dict_keyiterator_next.lookup, ?_⟩)
  simpa [rawInt] using hQ
end

def Itk (P : Program) (w : World) (a : Addr) (xs : List (KTu × Addr × V)) (o : Obj) : It :=
  ⟨fun i H => H a = some (TD P w a xs o) ∧ i < xs.length, fun i H x H' => H' = H ∧ ∃ p, xs[i]? = some p ∧ x = .ref p.2.1, fun i H => H a = some (TD P w a xs o) ∧ xs.length ≤ i⟩
theorem trel_get {xs : List (KTu × Addr × V)} {us : List (KTu × Addr × Value)} (r : Paired TRel xs us) : ∀ {i : Nat} {p : KTu × Addr × V}, xs[i]? = some p → ∃ q, us[i]? = some q ∧ TRel p q := by
  induction r with
  | nil => intro i p h; simp at h
  | @cons x y xs ys h t ih =>
    intro i p e
    cases i with
    | zero => cases e; exact ⟨y, rfl, h⟩
    | succ j => exact ih e
theorem turn_keys {P : Program} {w : World} {K : PySem.W.Frag} {tg : Expr} (a it : Addr) (xs : List (KTu × Addr × V)) (o : Obj) {es : Array DictEntry} {ep : Nat} (hdat : o.data = .dict es ep) : Turn P w K tg (Itk P w a xs o) [it] it (fun i h => h.IsKeyIter it a i es.size ep) where
  mem := by simp
  obj := fun i h st b hb => by
    have e : b = it := by simpa using hb
    subst e
    obtain ⟨o, e, c, d⟩ := st
    exact ⟨o, e, fun v z => by rw [d] at z; cases z⟩
  keep := fun i h h' st k => let ⟨o, ho, r⟩ := st; ⟨o, k it (by simp) o ho, r⟩
  item := by
    intro X hP hw hK hc i pins s σ H E I hf st hg
    subst hP hw hK
    obtain ⟨hq, hx⟩ := hg
    obtain ⟨g1, _, z, g2, us, es', ep', r, g3, g4, g5⟩ := td_at I hq
    rw [hdat] at g3
    cases g3
    obtain ⟨f0, f1, f2, f3, f4, f5⟩ := hf it (by simp)
    obtain ⟨q, hq1, hq2⟩ := trel_get r (i := i) (p := xs[i]) (by simp [hx])
    have he : es[i]? = some (entryOfKey (tupleKind (numKind X.prog X.w)) q) := by rw [entry_at g4 i, hq1]; rfl
    refine next_keys_item st g1 hdat he fun h' st' sb => ?_
    have I1 : Inv X pins σ H { s with heap := h' } := I.turned (t' := s.toks) (fun b o hb e => (sb.2 b hb).trans e) f0 f1 f3 f4 f5
    obtain ⟨o', e, c, d⟩ := id st'
    refine ⟨_, rfl, go_of (s := { s with heap := h' }) e c d (by decide) ⟨.ref xs[i].2.1, H, I1, ?_, ⟨rfl, xs[i], by simp [hx], rfl⟩, st', fun b hb => (hf b hb).1⟩⟩
    show Value.ref q.2.1 = Value.ref xs[i].2.1
    rw [hq2.2.1]
  done := by
    intro X hP hw hK hc i pins s σ H E I hf st hg
    subst hP hw hK
    obtain ⟨hq, hx⟩ := hg
    obtain ⟨g1, _, z, g2, us, es', ep', r, g3, g4, g5⟩ := td_at I hq
    rw [hdat] at g3
    cases g3
    obtain ⟨f0, f1, f2, f3, f4, f5⟩ := hf it (by simp)
    have hl : es.size = xs.length := by rw [size_of_entries g4, Paired.length r]
    exact next_keys_end (I.ok.hd hc) st g1 hdat (by omega) fun h' eb => ⟨rfl, I.turned (t' := s.toks) (fun b o hb e => eb b o hb e) f0 f1 f3 f4 f5⟩
  self := fun _ _ _ _ _ st h => wpAny_pyIter_keyiter st h
def iKeys (P : Program) (w : World) (td : TE) : TI := fun σ H R => td σ H fun x H1 => ∃ a xs o, x = .ref a ∧ H1 a = some (TD P w a xs o) ∧ R (Itk P w a xs o) H1
theorem pi_keys {X : Cx} {tg o : Expr} {td : TE} {apos cpos : Pos} (ho : PE X o td) (hbase : attributeBase o "keys" X.env (eval o X.env) = eval o X.env := by rfl) (hline : (apos.endLine == cpos.line) = true := by rfl) :
    PI X tg (.Call (.Attribute o "keys" apos) [] [] cpos) (iKeys X.prog X.w td) := by
  intro pins s σ H R I h
  refine wpAny_Call_method0_late hbase hline (thn (ho pins s σ H _ I h) fun v s1 ⟨x, H1, I1, r1, a, xs, ob, ex, e, q⟩ => ?_)
  subst ex
  obtain rfl : v = Value.ref a := r1
  obtain ⟨g1, hd, z, g2, us, es, ep, r, g3, g4, g5⟩ := td_at I1 e
  have tD : s1.TypeIs (.ref a) "dict" := ⟨ob, g1, g2.1⟩
  refine ⟨"dict", "dict.keys", PySem.F.plainAttrs_dict, PySem.F.slot_dict_keys, PySem.F.type_dict_keys, tD, fun c ec => ?_, Calls.callWith_builtin rfl (PySem.evalArgs_none ?_)⟩
  · cases ec
    exact ⟨ob, g1, g2.2.1⟩
  refine call_meetsIn PySem.F.slot_dict_keys tD PySem.F.entry_dict_keys (PySem.F.args_dict_keys_1 _) (meets_keysT a hd) ⟨tD, ?_⟩
  refine iter_keysT (s := { s1 with heap := s1.heap.push { cls := .type "dict_keys", data := .fields #[.ref a] } }) ⟨_, Heap.get?_push_size _ rfl, rfl, rfl⟩ (Heap.get?_push_of_some _ g1) g3 ?_
  have I2 : Inv X pins σ H1 { s1 with heap := s1.heap.push { cls := .type "dict_keys", data := .fields #[.ref a] } } := I1.kept (t' := s1.toks) fun b o e => Heap.get?_push_of_some _ e
  generalize ({ s1 with heap := s1.heap.push { cls := .type "dict_keys", data := .fields #[.ref a] } } : Shared) = s2 at I2
  refine ⟨s2.heap.objs.size, [s2.heap.objs.size], _, _, H1, rfl, I2.kept (t' := s2.toks) fun b o e => Heap.get?_push_of_some _ e, turn_keys a _ xs ob g3, ⟨_, Heap.get?_push_size _ rfl, rfl, rfl⟩, fun b hb => ?_, q⟩
  have e : b = s2.heap.objs.size := by simpa using hb
  subst e
  exact I2.fpOk (Nat.le_refl _) (I2.hok.fresh (Nat.le_refl _))
theorem lc_keys {P : Program} {w : World} {a : Addr} {xs : List (KTu × Addr × V)} {o : Obj} {caps : St} {tt : TT} {te : TE} {D : Addr} {Q : Hp → Prop} {H1 : Hp} (Pv : Nat → List V → Hp → Prop) (hz : xs.length ≤ sizeLine) (h0 : Pv 0 [] (upd H1 D (.lst []))) (hl : ∀ i ys H, Pv i ys H → ys.length ≤ i) (hq : ∀ i ys H, Pv i ys H → H a = some (TD P w a xs o))
    (hs : ∀ i ys H (p : KTu × Addr × V) (N : VK) (M : Hp → Prop), xs[i]? = some p → Pv i ys H → (∀ y H4, H4 D = some (.lst ys) → Pv (i + 1) (ys ++ [y]) (upd H4 D (.lst (ys ++ [y]))) → N y H4) → (∀ H3, Pv (i + 1) ys H3 → M H3) →
      tt (some (.ref p.2.1) :: caps) H fun ok H3 => if ok = true then te (some (.ref p.2.1) :: caps) H3 N else M H3)
    (hd : ∀ ys H, Pv xs.length ys H → Q H) : ∃ W : Nat → Nat → St → Hp → Prop, (∃ m, W 0 m (none :: caps) (upd H1 D (.lst []))) ∧ LcW (Itk P w a xs o) (gName 0) tt te D Q W := by
  refine ⟨fun i m σ H => m = xs.length - i ∧ i ≤ xs.length ∧ (∃ v, σ = v :: caps) ∧ ∃ ys, Pv i ys H, ⟨xs.length, by simp, Nat.zero_le _, ⟨none, rfl⟩, [], h0⟩, ?_⟩
  rintro i m σ H ⟨rfl, hi, ⟨v, rfl⟩, ys, p⟩
  have hy := hl i ys H p
  by_cases hlt : i < xs.length
  · refine .inr ⟨⟨hq i ys H p, hlt⟩, fun x H1 y => ?_⟩
    obtain ⟨e, p', hp', y⟩ := y
    subst e y
    exact hs i ys _ p' _ _ hp' p (fun y H4 a c => ⟨ys, a, by omega, xs.length - (i + 1), by omega, rfl, hlt, ⟨_, rfl⟩, _, c⟩) (fun H3 c => ⟨xs.length - (i + 1), by omega, rfl, hlt, ⟨_, rfl⟩, ys, c⟩)
  · have e : i = xs.length := by omega
    subst e
    exact .inl ⟨⟨hq _ ys H p, Nat.le_refl _⟩, hd ys H p⟩
end L2

namespace HT
open PySem PyProof.Rows
section
open PySem.SeqAt
open PySem.AutoSeq1 (wpAny_loadPart')
open PySem.MeetsSeq PySem.MeetsSeq2 PySem.MeetsSeq3
theorem ints_at : ∀ {vs : List Value} {ns : List Int} {i : Nat}, IntsAre vs ns → i < vs.length → ∃ a t, vs[i]? = some (.int a t) ∧ ns.drop i = a :: ns.drop (i + 1)
  | _, _, i, .nil, h => by simp at h
  | _, _, 0, .cons a t r, _ => ⟨a, t, rfl, rfl⟩
  | _, _, i + 1, .cons a t r, h => by
    obtain ⟨b, u, e1, e2⟩ := ints_at (i := i) r (by simpa using h)
    exact ⟨b, u, e1, e2⟩
theorem lt_loop (l b : Addr) (items items2 : Array Value) (n n2 : Nat) (dd dd2 : Option Addr) (sl sl2 : Array (Option Value)) (ns ms : List Int) (hi : IntsAre items.toList ns) (hj : IntsAre items2.toList ms) (k : Nat) :
    ∀ i : Nat, items.size - i = k → Meets (Builtin.«list.__eq__.loop» ⟨[.ref l, .ref b, rawInt i, rawInt 0], []⟩)
      (fun A R s => s.heap.get? l = some { cls := .type "list", dict := dd, data := .seq items n, slots := sl } ∧ s.heap.get? b = some { cls := .type "list", dict := dd2, data := .seq items2 n2, slots := sl2 } ∧ i ≤ items.size ∧ i ≤ items2.size ∧
        R (.ok (.ret (.bool (lexLt (ns.drop i) (ms.drop i))))) s) := by
  have z1 : items.size = ns.length := by rw [← hi.length]; simp
  have z2 : items2.size = ms.length := by rw [← hj.length]; simp
  have stop : ∀ i : Nat, (i = items.size ∨ i = items2.size) → i ≤ items.size → i ≤ items2.size → lexLt (ns.drop i) (ms.drop i) = decide (items.size < items2.size) := by
    intro i h h1 h2
    by_cases e1 : i = items.size
    · have d1 : ns.drop i = [] := List.drop_eq_nil_of_le (by omega)
      rw [d1]
      by_cases e2 : i = items2.size
      · have d2 : ms.drop i = [] := List.drop_eq_nil_of_le (by omega)
        rw [d2, lexLt_nil_nil]
        exact (decide_eq_false (by omega)).symm
      · have : i < ms.length := by omega
        rw [List.drop_eq_getElem_cons this, lexLt_nil_cons]
        exact (decide_eq_true (by omega)).symm
    · have e2 : i = items2.size := h.resolve_left e1
      have d2 : ms.drop i = [] := List.drop_eq_nil_of_le (by omega)
      have : i < ns.length := by omega
      rw [d2, List.drop_eq_getElem_cons this, lexLt_cons_nil]
      exact (decide_eq_false (by omega)).symm
  induction k with
  | zero =>
    intro i hk prog w A R s h
    obtain ⟨hp, g, d, tk, os⟩ := s; obtain ⟨hl, hb, hle, hle2, h⟩ := h
    wp_walk using wpAny_loadPart' hl, wpAny_loadPart' hb
    have hi1 : items[((i : Nat) : Int).toNat]? = none := by simp; omega
    rw [hi1]
    rw [stop i (.inl (by omega)) hle hle2] at h
    wp_walk using wpAny_loadPart' hl, wpAny_loadPart' hb
    exact h
  | succ k ih =>
    intro i hk prog w A R s h
    obtain ⟨hp, g, d, tk, os⟩ := s; obtain ⟨hl, hb, hle, hle2, h⟩ := h
    wp_walk using wpAny_loadPart' hl, wpAny_loadPart' hb
    have hlt : i < items.size := by omega
    by_cases hlt2 : i < items2.size
    · obtain ⟨a, t, ea, da⟩ := ints_at hi (i := i) (by simpa using hlt)
      obtain ⟨c, u, ec, dc⟩ := ints_at hj (i := i) (by simpa using hlt2)
      have hi1 : items[((i : Nat) : Int).toNat]? = some (.int a t) := by rw [Int.toNat_natCast, ← Array.getElem?_toList]; exact ea
      have hi2 : items2[((i : Nat) : Int).toNat]? = some (.int c u) := by rw [Int.toNat_natCast, ← Array.getElem?_toList]; exact ec
      have hc : ((i : Int) + 1) = ((i + 1 : Nat) : Int) := by push_cast; rfl
      rw [da, dc, lexLt_cons] at h
      rw [hi1, hi2]
      obtain ⟨e, he, hiff⟩ := eqAt_int A.in1 ⟨hp, g, d, tk, os⟩ a t c u
      refine wpAny_bind (he prog w _ _ ?_)
      cases e with
      | true =>
        rw [if_pos (hiff.mp rfl)] at h
        wp_walk
        rw [hc]
        exact ⟨plainId_quiet plain_eq_loop _, codeAny_builtin entry_eq_loop (by
          rw [Around.under_plainId plain_eq_loop _]
          exact ih (i + 1) (by omega) prog w A R _ ⟨hl, hb, hlt, hlt2, h⟩)⟩
      | false =>
        rw [if_neg (fun q => absurd (hiff.mpr q) Bool.false_ne_true)] at h
        have hri := rcLt_int A.in1 ⟨hp, g, d, tk, os⟩ a t c u prog w
        wp_walk using wpAny_loadPart' hl, wpAny_loadPart' hb
        rw [hi1, hi2]
        wp_walk using hri
        exact h
    · have hi2 : items2[((i : Nat) : Int).toNat]? = none := by simp; omega
      rw [hi2]
      rw [stop i (.inr (by omega)) hle hle2] at h
      have hi1 : items[((i : Nat) : Int).toNat]? = some items[i] := by simp [hlt]
      rw [hi1]
      wp_walk using wpAny_loadPart' hl, wpAny_loadPart' hb
      exact h
theorem list_lt_ints (l b : Addr) (items items2 : Array Value) (n n2 : Nat) (dd dd2 : Option Addr) (sl sl2 : Array (Option Value)) (ns ms : List Int) (hi : IntsAre items.toList ns) (hj : IntsAre items2.toList ms) :
    Meets (Builtin.«list.__lt__» ⟨[.ref l, .ref b], []⟩)
      (fun _ R s => s.heap.get? l = some { cls := .type "list", dict := dd, data := .seq items n, slots := sl } ∧ s.heap.get? b = some { cls := .type "list", dict := dd2, data := .seq items2 n2, slots := sl2 } ∧
        R (.ok (.ret (.bool (lexLt ns ms)))) s) := by
  intro prog w A R s h
  obtain ⟨hp, g, d, tk, os⟩ := s; obtain ⟨hl, hb, h⟩ := h
  have f3 := AutoSeq1.sub_list_list
  wp_walk using wpAny_loadPart' hl, wpAny_loadPart' hb
  exact ⟨plainId_quiet plain_eq_loop _, codeAny_builtin entry_eq_loop (by
    rw [Around.under_plainId plain_eq_loop _]
    exact lt_loop l b items items2 n n2 dd dd2 sl sl2 ns ms hi hj _ 0 rfl prog w A R _ ⟨hl, hb, Nat.zero_le _, Nat.zero_le _, by simpa using h⟩)⟩
end
end HT
namespace L2
open PySem PySem.Spec PyProof.Rows
section
variable {X : Cx}
def rLtL (K : PySem.W.Frag) : R2 := fun x y H Q => ∃ a b ns ms, x = .ref a ∧ y = .ref b ∧ SqL K H a (ns.map V.int) ∧ SqL K H b (ms.map V.int) ∧ Q (.bl (HT.lexLt ns ms)) H
theorem op_ltL (hu : X.A.units < cLine) : OpR X (compareOp .Lt) (rLtL X.K) := by
  intro pins s σ H x y v u Q I rx ry h
  obtain ⟨a, b, ns, ms, rfl, rfl, ha, hb, q⟩ := h
  cases rx
  cases ry
  obtain ⟨us, ru, pu, _⟩ := I.list ha
  obtain ⟨ws, rw', pw, _⟩ := I.list hb
  obtain ⟨⟨cls, dd, data, sl⟩, n, ho, hc, hn, hd⟩ := id pu
  obtain ⟨⟨cls2, dd2, data2, sl2⟩, n2, ho2, hc2, hn2, hd2⟩ := id pw
  have i1 : IntsAre us.toArray.toList ns := intsAre_of ru
  have i2 : IntsAre ws.toArray.toList ms := intsAre_of rw'
  simp only at hc hd hc2 hd2
  subst hc hd hc2 hd2
  exact richCompare_meets_room (op := .Lt) ⟨_, ho, rfl⟩ ⟨_, ho2, rfl⟩ PySem.F.slot_list_lt PySem.F.entry_list_lt (PySem.F.args_list_lt_2 _ _) (HT.list_lt_ints a b us.toArray ws.toArray n n2 dd dd2 sl sl2 ns ms i1 i2)
    ⟨ho, ho2, (fun x => nomatch x), .bl (HT.lexLt ns ms), H, I, rfl, q⟩ hu
end
end L2
namespace HT
open PySem PySem.Spec PyProof.Rows L2
section
open PySem.SeqAt
open PySem.AutoSeq1 (wpAny_loadPart')
open PySem.MeetsSeq PySem.MeetsSeq2 PySem.MeetsSeq3

end
end HT
namespace L2
open PySem PySem.Spec PyProof.Rows

def TupsAt (H : Hp) (ts : List Addr) (ns : List (List Int)) : Prop := ts.length = ns.length ∧ ∀ (i : Nat) (n : List Int), ns[i]? = some n → ∃ t, ts[i]? = some t ∧ H t = some (.tup (n.map V.int))
theorem TupsAt.tsame {H H' : Hp} {ts : List Addr} {ns : List (List Int)} (h : TupsAt H ts ns) (s : TSame H H') : TupsAt H' ts ns := ⟨h.1, fun i n e => by
  obtain ⟨t, h1, h2⟩ := h.2 i n e
  exact ⟨t, h1, s _ _ h2⟩⟩
theorem dints_at {K : PySem.W.Frag} {H : Hp} : ∀ ns : List Int, DsAt K H (ns.map V.int) (ns.map PyData.int)
  | [] => .nil
  | n :: ns => .cons (.int n) (dints_at ns)
theorem dints_lay : ∀ ns : List Int, PyData.canLayAll0 (ns.map PyData.int) = true
  | [] => rfl
  | n :: ns => by
    rw [List.map_cons, PyData.canLayAll0, dints_lay ns]
    rfl
theorem dints_depth : ∀ ns : List Int, PyData.depthAll (ns.map PyData.int) = 0
  | [] => rfl
  | n :: ns => by
    rw [List.map_cons, PyData.depthAll, dints_depth ns]
    rfl
theorem eqvs_ints : ∀ a c : List Int, PyData.eqvAll (a.map PyData.int) (c.map PyData.int) = decide (a = c)
  | [], [] => by simp [PyData.eqvAll]
  | [], _ :: _ => by simp [PyData.eqvAll]
  | _ :: _, [] => by simp [PyData.eqvAll]
  | x :: a, y :: c => by
    rw [List.map_cons, List.map_cons, PyData.eqvAll, eqvs_ints a c]
    show ((x == y) && _) = _
    by_cases e : x = y
    · subst e
      simp
    · simp [e]
section
variable {X : Cx}
def tTNotIn (P : Program) (w : World) (ty td : TE) : TE := fun σ H Q => ty σ H fun y H1 => td σ H1 fun x H2 => ∃ a xs o b k, x = .ref a ∧ H2 a = some (TD P w a xs o) ∧ TKs H2 xs ∧ y = .ref b ∧ TKy H2 k b ∧ Q (.bl (!(xs.any fun x => decide (x.1 = k)))) H2
theorem trel_some {xs : List (KTu × Addr × V)} {us : List (KTu × Addr × Value)} (r : Paired TRel xs us) (k : KTu) : (atKey us k).isSome = xs.any fun x => decide (x.1 = k) := by
  induction r with
  | nil => rfl
  | @cons p q ps qs h' t ih =>
    rw [List.any_cons, ← ih, h'.1]
    by_cases e : q.1 = k
    · simp [atKey, List.find?_cons, e]
    · simp [atKey, List.find?_cons, e]
theorem pc_tnotin {i o : Expr} {ty td : TE} (hu : X.A.units + 1 < cLine) (hi : PE X i ty) (ho : PE X o td) : PC X .NotIn i o (tTNotIn X.prog X.w ty td) := by
  intro pins s σ H Q I h
  refine thn (hi pins s σ H _ I h) fun iv s1 ⟨y, H1, I1, ry, q1⟩ => thn (ho pins s1 σ H1 _ I1 q1) fun u s2 ⟨x, H2, I2, rx, a, xs, ob, b, k, ex, g, hk, ey, kb, q2⟩ => ?_
  subst ex ey
  obtain rfl : u = Value.ref a := rx
  obtain rfl : iv = Value.ref b := ry
  obtain ⟨z, hd, us, rel, dd⟩ := td_of I2 g hk
  refine wpAny_notIn_heap (by show X.A.units + 1 < cLine; exact hu) (tk_is I2.hok kb) hd dd ?_
  rw [trel_some rel k]
  exact ⟨.bl _, H2, I2.tok _, rfl, q2⟩
end
end L2
namespace L2
open PySem PySem.Spec PyProof.Rows SO
section
variable {X : Cx}

def PrA (H : Hp) (z : Addr × KP) : Prop := ∃ b, H z.1 = some (.tup [.int z.2.1, .ref b]) ∧ H b = some (.tup (z.2.2.map V.int))
theorem PrA.tsame {H H' : Hp} {z : Addr × KP} (h : PrA H z) (s : TSame H H') : PrA H' z := by
  obtain ⟨b, h1, h2⟩ := h
  exact ⟨b, s _ _ h1, s _ _ h2⟩
theorem pra_is {pins : List (Addr × Obj)} {σ : St} {H : Hp} {s : Shared} (I : Inv X pins σ H s) {z : Addr × KP} (h : PrA H z) : PrK s.heap z.2 (.ref z.1) := by
  obtain ⟨b, h1, h2⟩ := h
  obtain ⟨its, r, p1, _⟩ := I.tuple (SqT.of h1)
  obtain ⟨jts, r2, p2, _⟩ := I.tuple (SqT.of h2)
  obtain ⟨u, v, rfl, ru, rv⟩ := vals2 r
  obtain ⟨t, rfl⟩ := ru
  cases rv
  exact ⟨z.1, b, t, jts.toArray, rfl, p1, p2, by simpa using intsAre_of r2⟩
theorem pras_are {pins : List (Addr × Obj)} {σ : St} {H : Hp} {s : Shared} (I : Inv X pins σ H s) : ∀ {zs : List (Addr × KP)}, (∀ z ∈ zs, PrA H z) → PrKs s.heap (zs.map (·.2)) (zs.map fun z => Value.ref z.1)
  | [], _ => .nil
  | z :: zs, h => .cons (pra_is I (h z List.mem_cons_self)) (pras_are I fun y hy => h y (List.mem_cons_of_mem _ hy))
theorem vals_refs : ∀ {zs : List (Addr × KP)} {us : List Value}, Vals (zs.map fun z => V.ref z.1) us → us = zs.map fun z => Value.ref z.1
  | [], _, .nil => rfl
  | z :: zs, _, .cons h r => by
    cases h
    rw [vals_refs r]
    rfl
theorem vals_of_refs : ∀ (zs : List (Addr × KP)), Vals (zs.map fun z => V.ref z.1) (zs.map fun z => Value.ref z.1)
  | [] => .nil
  | z :: zs => .cons rfl (vals_of_refs zs)
def adr : Value → Addr
  | .ref a => a
  | _ => 0
theorem pras_zip {pins : List (Addr × Obj)} {σ : St} {H : Hp} {s : Shared} (I : Inv X pins σ H s) : ∀ {zs : List (Addr × KP)}, (∀ z ∈ zs, PrA H z) → ((zs.map fun z => Value.ref z.1).zip (zs.map fun z => Value.ref z.1)).map (fun x => (adr x.2, kyP s.heap x)) = zs
  | [], _ => rfl
  | z :: zs, h => by
    rw [List.map_cons, List.zip_cons_cons, List.map_cons, pras_zip I fun y hy => h y (List.mem_cons_of_mem _ hy)]
    have := kyP_is (x := (Value.ref z.1, Value.ref z.1)) (pra_is I (h z List.mem_cons_self))
    rw [this]
    rfl
theorem call_sortedP (hu : X.A.units + 4 < cLine) : CallR X (.builtin "sorted") (fun xs H Q => ∃ p zs, xs = [.ref p] ∧ SqL X.K H p (zs.map fun z : Addr × KP => V.ref z.1) ∧ (∀ z ∈ zs, PrA H z) ∧ zs.length ≤ 1000 ∧ ∀ (l : Addr) (zs' : List (Addr × KP)), H l = none → zs'.Perm zs → zs'.Pairwise (fun x y => prLt y.2 x.2 = false) → Q (.ref l) (upd H l (.lst (zs'.map fun z => V.ref z.1)))) := by
  intro pins s σ H xs us Q I r h
  obtain ⟨p, zs, rfl, hq, hp, hz, q⟩ := h
  obtain ⟨u, rfl, rx⟩ := vals1 r
  cases rx
  obtain ⟨its, r', pl, hz'⟩ := I.list hq
  obtain rfl := vals_refs r'
  refine sorted_prs hu pl.isList (pras_are I hp) (by simpa using hz) fun st' a1 a2 => ?_
  have hpr : ((arrOf st').toList.map (fun x => (adr x.2, kyP s.heap x))).Perm zs := by
    have := (Array.perm_iff_toList_perm.mp a1).map (fun x => (adr x.2, kyP s.heap x))
    rw [show (pairsOf (zs.map fun z => Value.ref z.1)).toList = (zs.map fun z => Value.ref z.1).zip (zs.map fun z => Value.ref z.1) by simp [pairsOf], pras_zip I hp] at this
    exact this
  have hout : ((arrOf st').map (·.2)).toList = ((arrOf st').toList.map (fun x => (adr x.2, kyP s.heap x))).map fun z => Value.ref z.1 := by
    rw [Array.toList_map, List.map_map]
    refine List.map_congr_left fun x hx => ?_
    have hm := pairs_mem ((Array.perm_iff_toList_perm.mp a1).mem_iff.mp hx)
    obtain ⟨z, hz1, hz2⟩ := List.mem_map.mp hm.1
    show x.2 = Value.ref (adr x.2)
    rw [hm.2, ← hz2]
    rfl
  generalize hzs : (arrOf st').toList.map (fun x => (adr x.2, kyP s.heap x)) = zs' at hpr hout
  have hsrt : zs'.Pairwise (fun x y => prLt y.2 x.2 = false) := by
    rw [← hzs, List.pairwise_map]
    have hsz : (arrOf st').size = (pairsOf (zs.map fun z => Value.ref z.1)).size := a1.size_eq
    rw [← hsz] at a2
    have hh : SL (O := prOrd) (kyP s.heap) (arrOf st').toList := up_SL a2
    exact hh
  obtain ⟨c, he⟩ := sortedAll_at s.heap (zs.map fun z => Value.ref z.1) ((arrOf st').map (·.2))
  have hl' := hpr.length_eq
  have hout' : (arrOf st').map (·.2) = (zs'.map fun z => Value.ref z.1).toArray := by rw [← hout, Array.toArray_toList]
  rw [hout'] at he ⊢
  have hob : ObjOk X.prog X.w (upd H (s.heap.objs.size + 1) (.lst (zs'.map fun z => V.ref z.1))) (sortedAll s.heap (zs.map fun z => Value.ref z.1) (zs'.map fun z => Value.ref z.1).toArray) (s.heap.objs.size + 1) (.lst (zs'.map fun z => V.ref z.1)) :=
    ⟨by rw [List.length_map, hl']; exact Nat.le_of_lt (small1000 hz), zs'.map fun z => Value.ref z.1, c, vals_of_refs zs', he⟩
  exact ⟨.ref (s.heap.objs.size + 1), _, I.laid (t' := s.toks) (fun _ _ => sortedAll_old) (Nat.le_succ _) hob, rfl, q _ zs' (I.hok.fresh (Nat.le_succ _)) hpr hsrt⟩
end
end L2
namespace SO
open PySem PyProof PyProof.Rows HT
section
variable {prog : Program} {w : World} {A : Around} {E : Value → Shared → Prop} {s : Shared}
theorem rest_keyed {P : PySem.Fin → Shared → Prop} {a kS : Addr} {e1 : Nat} {f : Value} {vs : List Value} (hz : vs.length ≤ 1000) (J : Nat → List Value → Shared → Prop) (j0 : J 0 [] s)
    (step : ∀ i v ks s', vs[i]? = some v → ks.length = i → J i ks s' → wpAny (model prog w) A (call f [v]) (fun u s'' => (∃ c, s''.heap.get? kS = some (seqObj "list" ks.toArray c)) ∧ J (i + 1) (ks ++ [u]) { s'' with heap := s''.heap.update kS (Obj.mapSeq (·.push u)) }) (fun _ _ => False) s')
    (jk : ∀ i ks s', J i ks s' → ∃ c, s'.heap.get? kS = some (seqObj "list" ks.toArray c))
    (fin : ∀ ks s', ks.length = vs.length → J vs.length ks s' → wpAny (model prog w) A (ksk_end a false vs.toArray e1 (.ref kS) ks.toArray) P E s') :
    wpAny (model prog w) A (ksk_rest a f false vs.toArray e1 (.ref kS)) P E s := by
  unfold ksk_rest
  refine wpAny_bind (wpAny_rule ?_)
  first
    | rw [List.forIn_toArray]
    | (rw [← Array.forIn_toList]; simp only [List.toList_toArray])
    | rw [← Array.forIn_toList]
  refine wpAny_bind (ksk_fold (fun i s' => ∃ ks, ks.length = i ∧ J i ks s') vs 0 s ⟨[], rfl, j0⟩ ?step ?done)
  case step =>
    rintro j x s' hx ⟨ks, hl, hJ⟩
    rw [Nat.zero_add] at hl hJ ⊢
    have hj : j < vs.length := (List.getElem?_eq_some_iff.mp hx).1
    refine wpAny_bind (wpAny_attempt (wpAny_mono (step j x ks s' hx hl hJ) (fun u s'' he => ?_) fun _ _ hF => hF.elim))
    obtain ⟨⟨c, hc⟩, hJ'⟩ := he
    try dsimp only
    refine wpAny_bind (listUpdate_at hc rfl ?_ (by rw [List.size_toArray, sizeLine_eq]; omega) (Nat.le_trans (Nat.le_of_eq (Array.size_push ..)) (by rw [List.size_toArray, sizeLine_eq]; omega)))
    exact wpAny_pure ⟨rfl, ks ++ [u], by rw [List.length_append, hl]; rfl, hJ'⟩
  case done =>
    rintro s' ⟨ks, hl, hJ⟩
    rw [Nat.zero_add] at hl hJ
    obtain ⟨c, hc⟩ := jk _ _ _ hJ
    refine wpAny_bind (listItems_at hc rfl ?_)
    exact fin ks s' hl hJ
theorem zip_mem {ks vs : List Value} {x : Keyed} (h : x ∈ (ks.toArray.zip vs.toArray).toList) : x.1 ∈ ks ∧ x.2 ∈ vs := by
  have : (ks.toArray.zip vs.toArray).toList = ks.zip vs := by simp
  rw [this] at h
  exact ⟨(List.of_mem_zip h).1, (List.of_mem_zip h).2⟩
theorem end_keyed {P : PySem.Fin → Shared → Prop} {a kS : Addr} {e1 c : Nat} {vs ks : List Value} {kps : List KP} (hu : A.units + 2 < cLine) (hz : vs.length ≤ 1000) (hl : ks.length = vs.length) (hka : kS ≠ a)
    (hk : s.heap.get? kS = some (seqObj "list" ks.toArray c)) (ho : s.heap.get? a = some (seqObj "list" #[] e1)) (hx : PrKs s.heap kps ks)
    (h : ∀ st' : SortSt, (arrOf st').Perm (ks.toArray.zip vs.toArray) → Up (O := prOrd) (kyP s.heap) (arrOf st') 0 (ks.toArray.zip vs.toArray).size →
      P (.done (.ret .none)) { s with heap := (s.heap.update kS (Obj.mapSeq fun _ => #[])).update a (Obj.mapSeq fun _ => (arrOf st').map (·.2)) }) :
    wpAny (model prog w) A (ksk_end a false vs.toArray e1 (.ref kS) ks.toArray) P E s := by
  have hsz : (ks.toArray.zip vs.toArray).size = vs.length := by simp [hl]
  have tail : ∀ st' : SortSt, (arrOf st').Perm (ks.toArray.zip vs.toArray) → failedOf st' = none → Up (O := prOrd) (kyP s.heap) (arrOf st') 0 (ks.toArray.zip vs.toArray).size → wpAny (model prog w) A (ksk_tail a false e1 (.ref kS) st') P E s := by
    intro st' a1 a2 a3
    unfold ksk_tail
    refine wpAny_bind (listUpdate_at hk rfl ?_ (by rw [List.size_toArray, sizeLine_eq]; omega) (Nat.zero_le _))
    refine wpAny_bind (wpAny_letGo ?_)
    have ho' : (s.heap.update kS (Obj.mapSeq fun _ => #[])).get? a = some (seqObj "list" #[] e1) := by
      rw [Heap.get?_update_ne _ _ _ _ (fun e => hka e.symm)]; exact ho
    refine wpAny_bind (seqEpoch_at ho' rfl ?_)
    simp only [Bool.false_eq_true, if_false]
    refine wpAny_bind (listUpdate_at ho' rfl ?_ (Nat.zero_le _) (by rw [Array.size_map, a1.size_eq, hsz, sizeLine_eq]; omega))
    rw [a2]
    simp only [bne_self_eq_false, Bool.false_eq_true, if_false]
    exact wpAny_pure (h st' a1 a3)
  unfold ksk_end
  dsimp only
  simp only [Bool.false_eq_true, if_false]
  by_cases h2 : vs.toArray.size < 2
  · rw [if_pos h2, if_pos h2]
    refine wpAny_bind (wpAny_pure ?_)
    rw [StateT.run_pure]
    refine wpAny_bind (wpAny_pure ?_)
    refine tail _ (Array.Perm.refl _) rfl ?_
    intro i j hij hj
    rw [List.size_toArray] at h2
    have : i = j := by omega
    subst this; exact KeyOrd.kle_refl _
  · rw [if_neg h2, if_neg h2]
    rw [List.size_toArray] at h2
    refine wpAny_bind (prs_kind hx (by omega) ?_)
    refine wpAny_bind (wpAny_mono (wpS_sortAll (O := prOrd) (ky := kyP s.heap) (κ := tuples' true) (a₀ := ks.toArray.zip vs.toArray) (st := SortSt.mk' (tuples' true) (ks.toArray.zip vs.toArray) #[] 7 none)
      (Q := fun _ st' => (arrOf st').Perm (ks.toArray.zip vs.toArray) ∧ failedOf st' = none ∧ Up (O := prOrd) (kyP s.heap) (arrOf st') 0 (ks.toArray.zip vs.toArray).size)
      ?cmp ⟨Array.Perm.refl _, rfl, rfl⟩ rfl (by omega) fun st' a1 a2 => ⟨a1.perm, a1.failed, a2⟩) ?_ fun _ _ e => e)
    case cmp =>
      refine cmp_prs hu fun x hxm => ?_
      obtain ⟨k, k1, k2⟩ := hx.mem _ (zip_mem hxm).1
      exact ⟨k, k2⟩
    rintro ⟨⟨⟩, st'⟩ s' ⟨rfl, hp, hf, hs⟩
    exact tail st' hp hf hs
end
end SO
namespace L2
open PySem PySem.Spec PyProof.Rows SO
section
variable {X : Cx}

structure Nw (X : Cx) (pins : List (Addr × Obj)) (it : Addr) : Prop where
  loc : it ≠ X.env.locals
  fs : it ∉ X.fs
  new : X.s₀.heap.objs.size ≤ it
  cel : ∀ x c, X.env.cells.lookup x = some c → c ≠ it
  pin : ∀ p ∈ X.pn ++ pins, p.1 ≠ it
theorem nw_of {pins : List (Addr × Obj)} {σ : St} {H : Hp} {s : Shared} (I : Inv X pins σ H s) {it : Addr} (h : s.heap.objs.size ≤ it) : Nw X pins it where
  loc := Nat.ne_of_gt (Nat.lt_of_lt_of_le I.lt h)
  fs := I.nofs h
  new := Nat.le_trans I.sz h
  cel := fun x c e => by
    obtain ⟨v, o, ho, _⟩ := I.cell x c e
    exact Nat.ne_of_lt (Nat.lt_of_lt_of_le (Heap.lt_size ho) h)
  pin := fun p hp => Nat.ne_of_lt (Nat.lt_of_lt_of_le (Heap.lt_size (I.pin p hp).1) h)

theorem Inv.pin2 {pins : List (Addr × Obj)} {σ : St} {H : Hp} {s : Shared} {a b : Addr} {oa ob : Obj} (I : Inv X pins σ H s) (na : Nw X pins a) (nb : Nw X pins b) (ea : s.heap.get? a = some oa) (eb : s.heap.get? b = some ob) (ha : H a = none) (hb : H b = none) (ca : ∀ v, oa.data ≠ .cell v) (cb : ∀ v, ob.data ≠ .cell v) : Inv X ((a, oa) :: (b, ob) :: pins) σ H s :=
  I.pins_of fun p hp => by
    rcases List.mem_cons.mp hp with rfl | hp
    · exact ⟨ea, ha, na.loc, na.fs, ca⟩
    · rcases List.mem_cons.mp hp with rfl | hp
      · exact ⟨eb, hb, nb.loc, nb.fs, cb⟩
      · exact I.pin p (List.mem_append_right _ hp)
theorem Inv.unpin2 {pins : List (Addr × Obj)} {σ : St} {H : Hp} {s : Shared} {x y : Addr × Obj} (I : Inv X (x :: y :: pins) σ H s) : Inv X pins σ H s :=
  I.pins_of fun p hp => I.pin p (List.mem_append_right _ (List.mem_cons_of_mem _ (List.mem_cons_of_mem _ hp)))

structure KJ (X : Cx) (pins : List (Addr × Obj)) (σ : St) (H : Hp) (kS a : Addr) (e1 : Nat) (zs : List (Addr × KP)) (i : Nat) (ks : List Value) (s : Shared) : Prop where
  ex : ∃ (H' : Hp) (c : Nat) (qs : List (Addr × KP)), Inv X pins σ H' s ∧ Same H H' ∧ H' kS = none ∧ H' a = none ∧ s.heap.get? kS = some (seqObj "list" ks.toArray c) ∧ s.heap.get? a = some (seqObj "list" #[] e1) ∧ ks = qs.map (fun q : Addr × KP => Value.ref q.1) ∧ (∀ q ∈ qs, PrA H' q) ∧ qs.map (·.2) = (zs.take i).map (·.2)
theorem key_step {pins : List (Addr × Obj)} {σ : St} {H : Hp} {kS a : Addr} {e1 i k : Nat} {zs : List (Addr × KP)} {ks : List Value} {s : Shared} {f : Addr} {fd : FuncData} {ps : List Str} {sp : Sp} {z : Addr × KP}
    (F : FnOk X.prog X.w X.K X.mg X.base CX0 k f fd ps sp) (hr : Room k X.A.in1.in1) (hb : Binds X.K fd ps []) (nk : Nw X pins kS) (na : Nw X pins a) (hka : kS ≠ a) (hz : zs[i]? = some z)
    (hsp : ∀ H1, Same H H1 → ∀ (Q : VK) (E : XK), (∀ q H2, Same H1 H2 → PrA H2 (q, z.2) → Q (.ref q) H2) → sp [.ref z.1] H1 Q E) (J : KJ X pins σ H kS a e1 zs i ks s) :
    wpAny (model X.prog X.w) X.A.in1.in1 (call (.ref f) [.ref z.1]) (fun u s'' => (∃ c, s''.heap.get? kS = some (seqObj "list" ks.toArray c)) ∧ KJ X pins σ H kS a e1 zs (i + 1) (ks ++ [u]) { s'' with heap := s''.heap.update kS (Obj.mapSeq (·.push u)) }) (fun _ _ => False) s := by
  obtain ⟨H1, c, qs, I, hS, hk0, ha0, hk, ha, hks, hq, hqz⟩ := J.ex
  have I2 := I.pin2 nk na hk ha hk0 ha0 (fun v => nofun) (fun v => nofun)
  have hpost : sp [.ref z.1] H1 (fun v H2 => ∃ q, v = .ref q ∧ Same H1 H2 ∧ PrA H2 (q, z.2)) (fun _ _ _ => False) := hsp H1 hS _ _ fun q H2 s2 p2 => ⟨q, rfl, s2, p2⟩
  have hl : ([Value.ref z.1] ++ ([] : List Value)).length = ps.length := F.len _ _ _ _ hpost
  have hbt := hb s [.ref z.1] I2.kIn hl
  rw [List.append_nil] at hbt
  refine wpAny_call (codeAny_mono (F.run X.A.in1.in1 X.stack s H1 ⟨[.ref z.1], []⟩ [.ref z.1] [.ref z.1] _ _ hr I2.env0.in1.in1 hbt (.cons rfl .nil) hpost) fun r s' hc => ?_)
  cases r with
  | error e => exact hc
  | ok fl =>
    cases fl with
    | next => exact False.elim hc
    | brk => exact False.elim hc
    | cont => exact False.elim hc
    | ret u =>
      obtain ⟨v, H2, I3, rv, q, rfl, s2, p2⟩ := I2.after hc
      obtain rfl : u = .ref q := rv
      have pk := I3.pin (kS, _) (List.mem_append_right _ List.mem_cons_self)
      have pa := I3.pin (a, _) (List.mem_append_right _ (List.mem_cons_of_mem _ List.mem_cons_self))
      refine ⟨⟨c, pk.1⟩, ?_⟩
      have sb := Heap.SameBut.update s'.heap kS (Obj.mapSeq (·.push (.ref q)))
      obtain ⟨c2, hc2⟩ : ∃ c2, (s'.heap.update kS (Obj.mapSeq (·.push (.ref q)))).get? kS = some (seqObj "list" (ks.toArray.push (.ref q)) c2) := ⟨_, get?_update_seq pk.1 (·.push (.ref q))⟩
      have I4 : Inv X pins σ H2 { s' with heap := s'.heap.update kS (Obj.mapSeq (·.push (.ref q))), toks := s'.toks } := I3.unpin2.turned (fun b o hb e => (sb.2 b hb).trans e) pk.2.1 nk.loc (.inr nk.new) nk.cel nk.pin
      refine ⟨⟨H2, c2, qs ++ [(q, z.2)], I4, hS.trans s2, pk.2.1, pa.2.1, ?_, ?_, ?_, ?_, ?_⟩⟩
      · show (s'.heap.update kS _).get? kS = _
        rw [hc2]
        congr 2
        simp
      · exact (sb.2 a (fun e => hka e.symm)).trans pa.1
      · rw [hks, List.map_append]
        rfl
      · intro y hy
        rcases List.mem_append.mp hy with hy | hy
        · exact (hq y hy).tsame fun c ys e => s2 c _ e
        · rw [List.mem_singleton.mp hy]
          exact p2
      · rw [List.map_append, hqz, List.take_add_one, hz, List.map_append]
        rfl
end
end L2
namespace L2
open PySem PySem.Spec PyProof.Rows SO
section
variable {X : Cx}
theorem zip_pairs {h : Heap} : ∀ {qs zs : List (Addr × KP)}, (∀ q ∈ qs, PrK h q.2 (.ref q.1)) → qs.map (·.2) = zs.map (·.2) → (((qs.map fun q => Value.ref q.1).zip (zs.map fun z => Value.ref z.1)).map fun x => (adr x.2, kyP h x)) = zs
  | [], [], _, _ => rfl
  | [], _ :: _, _, e => by cases e
  | _ :: _, [], _, e => by cases e
  | q :: qs, z :: zs, hp, e => by
    rw [List.map_cons, List.map_cons] at e
    injection e with e1 e2
    rw [List.map_cons, List.map_cons, List.zip_cons_cons, List.map_cons, zip_pairs (fun y hy => hp y (List.mem_cons_of_mem _ hy)) e2]
    have := kyP_is (x := (Value.ref q.1, Value.ref z.1)) (hp q List.mem_cons_self)
    rw [this, e1]
    rfl

theorem Inv.adopt {pins : List (Addr × Obj)} {σ : St} {H : Hp} {s : Shared} {a : Addr} {o : HO} (I : Inv X pins σ H s) (nw : Nw X pins a) (hn : H a = none) (new : ObjOk X.prog X.w (upd H a o) s.heap a o) : Inv X pins σ (upd H a o) s where
  ok := I.ok
  os := I.os
  bare := I.bare
  base := ⟨I.base.keep, I.base.slot, fun b u q n hx => by rw [upd_ne (Nat.ne_of_lt (Nat.lt_of_lt_of_le (Heap.lt_size q) nw.new))]; exact I.base.free b u q n hx, I.base.there,
    fun b xs q => by have e := I.base.tups b xs q; rw [upd_ne (ne_of_none e hn)]; exact e, fun b u v q => by have e := I.base.frzs b u v q; rw [upd_ne (ne_of_none e hn)]; exact e,
    fun b ps q => by obtain ⟨m, e⟩ := I.base.tbls b ps q; exact ⟨m, by rw [upd_ne (ne_of_none e hn)]; exact e⟩⟩
  loc := I.loc
  cell := I.cell
  free := by rw [upd_ne (fun e => nw.loc e.symm)]; exact I.free
  freeC := fun x c e => by rw [upd_ne (nw.cel x c e)]; exact I.freeC x c e
  pin := fun p hp => by
    obtain ⟨p1, p2, p3⟩ := I.pin p hp
    exact ⟨p1, by rw [upd_ne (nw.pin p hp)]; exact p2, p3⟩
  hok := fun b u e => by
    by_cases hb : b = a
    · subst hb; rw [upd_same] at e; cases e; exact new
    · rw [upd_ne hb] at e
      exact (I.hok b u e).stay (fun c v _ q => q) (fun c q => by rw [upd_ne (ne_of_none q hn)]; exact q) fun c xs q => by rw [upd_ne (ne_of_none q hn)]; exact q
  len := I.len
theorem sortedK_run {pins : List (Addr × Obj)} {σ : St} {H : Hp} {s : Shared} {k : Nat} {p f : Addr} {fd : FuncData} {ps : List Str} {sp : Sp} {zs : List (Addr × KP)} {Q : VK}
    (I : Inv X pins σ H s) (F : FnOk X.prog X.w X.K X.mg X.base CX0 k f fd ps sp) (hr : Room k X.A.in1.in1) (hu : X.A.units + 4 < cLine) (hb : Binds X.K fd ps []) (hq : SqL X.K H p (zs.map fun z => V.ref z.1)) (hz : zs.length ≤ 1000)
    (hsp : ∀ z ∈ zs, ∀ H1, Same H H1 → ∀ (Q : VK) (E : XK), (∀ q H2, Same H1 H2 → PrA H2 (q, z.2) → Q (.ref q) H2) → sp [.ref z.1] H1 Q E)
    (q : ∀ (l : Addr) (zs' : List (Addr × KP)) (H' : Hp), Same H H' → H' l = none → zs'.Perm zs → zs'.Pairwise (fun x y => prLt y.2 x.2 = false) → Q (.ref l) (upd H' l (.lst (zs'.map fun z => V.ref z.1)))) :
    wpAny (model X.prog X.w) X.A (call (.builtin "sorted") [.ref p] [(Str.ofString "key", .ref f)]) (EP X pins σ Q) X.xe s := by
  obtain ⟨its, r', pl, hz'⟩ := I.list hq
  obtain rfl := vals_refs r'
  generalize hvs : (zs.map fun z => Value.ref z.1) = vs at pl
  have hlen : vs.length = zs.length := by rw [← hvs, List.length_map]
  refine PyProof.Rows.call_function_entry_kw kind_sorted plain_sorted entry_sorted (PyProof.Rows.ksk_s1 _ _) ?_
  unfold Builtin.«sorted»
  refine wpAny_bind (m := checkCount "sorted" 1 1 _) (wpAny_pure ?_)
  refine wpAny_bind (collect_list pl.isList ?_ (by rw [sizeLine_eq]; omega))
  refine wpAny_bind (wpAny_newList ?_ (by rw [sizeLine_eq]; omega))
  have hsz : ((s.heap.push (seqObj "list" #[] 0)).update s.heap.objs.size (Obj.mapSeq (· ++ vs.toArray))).objs.size = s.heap.objs.size + 1 := by
    rw [Heap.size_update, size_push']
  have hoL : (((s.heap.push (seqObj "list" #[] 0)).update s.heap.objs.size (Obj.mapSeq (· ++ vs.toArray))).push (seqObj "list" vs.toArray 0)).get? (s.heap.objs.size + 1) = some (seqObj "list" vs.toArray 0) := by
    rw [← hsz]; exact Heap.get?_push_size _ rfl
  have keep : ∀ b o, s.heap.get? b = some o → (((s.heap.push (seqObj "list" #[] 0)).update s.heap.objs.size (Obj.mapSeq (· ++ vs.toArray))).push (seqObj "list" vs.toArray 0)).get? b = some o := fun b o q => by
    have hlt : b < s.heap.objs.size := Heap.lt_size q
    rw [Heap.get?_push_ne _ _ _ (by rw [hsz]; exact Nat.ne_of_lt (Nat.lt_succ_of_lt hlt)), Heap.get?_update_ne _ _ _ _ (Nat.ne_of_lt hlt), Heap.get?_push_ne _ _ _ (Nat.ne_of_lt hlt)]
    exact q
  show wpAny _ _ _ _ _ { s with heap := ((s.heap.push (seqObj "list" #[] 0)).update s.heap.objs.size (Obj.mapSeq (· ++ vs.toArray))).push (seqObj "list" vs.toArray 0) }
  rw [hsz]
  have hpsz : (((s.heap.push (seqObj "list" #[] 0)).update s.heap.objs.size (Obj.mapSeq (· ++ vs.toArray))).push (seqObj "list" vs.toArray 0)).objs.size = s.heap.objs.size + 2 := by
    rw [size_push', hsz]
  generalize hhp : ((s.heap.push (seqObj "list" #[] 0)).update s.heap.objs.size (Obj.mapSeq (· ++ vs.toArray))).push (seqObj "list" vs.toArray 0) = hp at hoL keep hpsz
  refine wpAny_bind (wpAny_holding (wpAny_call_entry_kw slot_list_sort ⟨_, hoL, rfl⟩ entry_list_sort ?body (PyProof.Rows.ksk_l1 _ _)))
  case body =>
    show wpAny (model X.prog X.w) X.A.in1.in1 (Builtin.«list.sort» ⟨[.ref (s.heap.objs.size + 1)], [(Str.ofString "key", .ref f)]⟩) _ _ _
    rw [ksk_t1]
    unfold ksk_tree
    generalize ha : s.heap.objs.size + 1 = a at hoL
    have hage : s.heap.objs.size ≤ a := by omega
    refine wpAny_bind (listItems_at hoL rfl ?_)
    refine wpAny_bind (listUpdate_at hoL rfl ?_ (by rw [List.size_toArray, sizeLine_eq]; omega) (Nat.zero_le _))
    obtain ⟨e1, ho1⟩ : ∃ e1, (hp.update a (Obj.mapSeq fun _ => (#[] : Array Value))).get? a = some (seqObj "list" #[] e1) := ⟨_, get?_update_seq hoL fun _ => #[]⟩
    refine wpAny_bind (seqEpoch_at ho1 rfl ?_)
    refine wpAny_bind (wpAny_newTuple ?_ (by show vs.length ≤ _; rw [sizeLine_eq]; omega))
    refine wpAny_bind (wpAny_newList ?_ (Nat.zero_le _))
    refine wpAny_holding ?_
    have hksz : ((hp.update a (Obj.mapSeq fun _ => (#[] : Array Value))).push (seqObj "tuple" vs.toArray 0)).objs.size = s.heap.objs.size + 3 := by
      rw [size_push', Heap.size_update, hpsz]
    have hal : a < hp.objs.size := Heap.lt_size hoL
    have hk4 : (((hp.update a (Obj.mapSeq fun _ => (#[] : Array Value))).push (seqObj "tuple" vs.toArray 0)).push (seqObj "list" #[] 0)).get? ((hp.update a (Obj.mapSeq fun _ => (#[] : Array Value))).push (seqObj "tuple" vs.toArray 0)).objs.size = some (seqObj "list" #[] 0) := Heap.get?_push_size _ rfl
    have ha4 : (((hp.update a (Obj.mapSeq fun _ => (#[] : Array Value))).push (seqObj "tuple" vs.toArray 0)).push (seqObj "list" #[] 0)).get? a = some (seqObj "list" #[] e1) := Heap.get?_push_of_some _ (Heap.get?_push_of_some _ ho1)
    have keep4 : ∀ b o, s.heap.get? b = some o → (((hp.update a (Obj.mapSeq fun _ => (#[] : Array Value))).push (seqObj "tuple" vs.toArray 0)).push (seqObj "list" #[] 0)).get? b = some o := fun b o e => by
      have hlt : b < s.heap.objs.size := Heap.lt_size e
      refine Heap.get?_push_of_some _ (Heap.get?_push_of_some _ ?_)
      rw [Heap.get?_update_ne _ _ _ _ (Nat.ne_of_lt (Nat.lt_of_lt_of_le hlt hage))]
      exact keep b o e
    show wpAny (model X.prog X.w) X.A.in1.in1 (ksk_rest a (.ref f) false vs.toArray e1 (.ref ((hp.update a (Obj.mapSeq fun _ => (#[] : Array Value))).push (seqObj "tuple" vs.toArray 0)).objs.size)) _ _ { s with heap := ((hp.update a (Obj.mapSeq fun _ => (#[] : Array Value))).push (seqObj "tuple" vs.toArray 0)).push (seqObj "list" #[] 0) }
    generalize hkS : ((hp.update a (Obj.mapSeq fun _ => (#[] : Array Value))).push (seqObj "tuple" vs.toArray 0)).objs.size = kS at hksz hk4
    generalize hh4 : ((hp.update a (Obj.mapSeq fun _ => (#[] : Array Value))).push (seqObj "tuple" vs.toArray 0)).push (seqObj "list" #[] 0) = h4 at hk4 ha4 keep4
    have hkge : s.heap.objs.size ≤ kS := by omega
    have hka : kS ≠ a := by omega
    have nk := nw_of I hkge
    have na := nw_of I hage
    have I4 : Inv X pins σ H { s with heap := h4, toks := s.toks } := I.kept keep4
    have J0 : KJ X pins σ H kS a e1 zs 0 [] { s with heap := h4 } := ⟨⟨H, 0, [], I4, Same.refl H, I.hok.fresh hkge, I.hok.fresh hage, hk4, ha4, rfl, fun q hq => by (cases hq), rfl⟩⟩
    refine rest_keyed (by omega) (KJ X pins σ H kS a e1 zs) J0 (fun i v ks s' hv hl hJ => ?_) (fun i ks s' hJ => ?_) (fun ks s' hl hJ => ?_)
    · rw [← hvs, List.getElem?_map] at hv
      obtain ⟨z, hz1, rfl⟩ := Option.map_eq_some_iff.mp hv
      exact key_step F hr hb nk na hka hz1 (hsp z (List.mem_of_getElem? hz1)) hJ
    · obtain ⟨H1, c, qs, I1, _, _, _, hk, _⟩ := hJ.ex
      exact ⟨c, hk⟩
    · obtain ⟨H1, c, qs, I1, hS, hk0, ha0, hk, haa, hks, hpq, hqz⟩ := hJ.ex
      rw [hlen, List.take_length] at hqz
      have hPr : ∀ q ∈ qs, PrK s'.heap q.2 (.ref q.1) := fun q hq => pra_is I1 (hpq q hq)
      subst hks
      have hPs : PrKs s'.heap (qs.map (·.2)) (qs.map fun q => Value.ref q.1) := pras_are I1 hpq
      refine end_keyed (by show X.A.units + 1 + 1 + 2 < _; omega) (by omega) hl hka hk haa hPs fun st' a1 a2 => ⟨_, rfl, ?_⟩
      have hzl : ((qs.map fun q => Value.ref q.1).toArray.zip vs.toArray).toList = (qs.map fun q => Value.ref q.1).zip (zs.map fun z => Value.ref z.1) := by rw [← hvs]; simp
      have hpr : ((arrOf st').toList.map (fun x => (adr x.2, kyP s'.heap x))).Perm zs := by
        have := (Array.perm_iff_toList_perm.mp a1).map (fun x => (adr x.2, kyP s'.heap x))
        rw [hzl, zip_pairs hPr hqz] at this
        exact this
      have hout : ((arrOf st').map (·.2)).toList = ((arrOf st').toList.map (fun x => (adr x.2, kyP s'.heap x))).map fun z => Value.ref z.1 := by
        rw [Array.toList_map, List.map_map]
        refine List.map_congr_left fun x hx => ?_
        have hm := (zip_mem ((Array.perm_iff_toList_perm.mp a1).mem_iff.mp hx)).2
        rw [← hvs] at hm
        obtain ⟨z, hz1, hz2⟩ := List.mem_map.mp hm
        show x.2 = Value.ref (adr x.2)
        rw [← hz2]
        rfl
      have hsrt : ((arrOf st').toList.map (fun x => (adr x.2, kyP s'.heap x))).Pairwise (fun x y => prLt y.2 x.2 = false) := by
        rw [List.pairwise_map]
        rw [← a1.size_eq] at a2
        have hh : SL (O := prOrd) (kyP s'.heap) (arrOf st').toList := up_SL a2
        exact hh
      generalize hzs : (arrOf st').toList.map (fun x => (adr x.2, kyP s'.heap x)) = zs' at hpr hout hsrt
      have hout' : (arrOf st').map (·.2) = (zs'.map fun z => Value.ref z.1).toArray := by rw [← hout, Array.toArray_toList]
      rw [hout']
      have sb1 := Heap.SameBut.update s'.heap kS (Obj.mapSeq fun _ => (#[] : Array Value))
      have I5 : Inv X pins σ H1 { s' with heap := s'.heap.update kS (Obj.mapSeq fun _ => #[]), toks := s'.toks } := I1.turned (fun b o hb e => (sb1.2 b hb).trans e) hk0 nk.loc (.inr nk.new) nk.cel nk.pin
      have hl' := hpr.length_eq
      have ho' : (s'.heap.update kS (Obj.mapSeq fun _ => (#[] : Array Value))).get? a = some (seqObj "list" #[] e1) := by
        rw [Heap.get?_update_ne _ _ _ _ (fun e => hka e.symm)]; exact haa
      have sb2 := Heap.SameBut.update (s'.heap.update kS (Obj.mapSeq fun _ => (#[] : Array Value))) a (Obj.mapSeq fun _ => (zs'.map fun z => Value.ref z.1).toArray)
      obtain ⟨c2, hc2⟩ : ∃ c2, ((s'.heap.update kS (Obj.mapSeq fun _ => (#[] : Array Value))).update a (Obj.mapSeq fun _ => (zs'.map fun z => Value.ref z.1).toArray)).get? a = some (seqObj "list" (zs'.map fun z => Value.ref z.1).toArray c2) := ⟨_, get?_update_seq ho' fun _ => (zs'.map fun z => Value.ref z.1).toArray⟩
      have I6 : Inv X pins σ H1 { s' with heap := (s'.heap.update kS (Obj.mapSeq fun _ => #[])).update a (Obj.mapSeq fun _ => (zs'.map fun z => Value.ref z.1).toArray), toks := s'.toks } := I5.turned (fun b o hb e => (sb2.2 b hb).trans e) ha0 na.loc (.inr na.new) na.cel na.pin
      have new : ObjOk X.prog X.w (upd H1 a (.lst (zs'.map fun z => V.ref z.1))) ((s'.heap.update kS (Obj.mapSeq fun _ => (#[] : Array Value))).update a (Obj.mapSeq fun _ => (zs'.map fun z => Value.ref z.1).toArray)) a (.lst (zs'.map fun z => V.ref z.1)) :=
        ⟨by rw [List.length_map, hl']; exact Nat.le_of_lt (small1000 hz), zs'.map fun z => Value.ref z.1, c2, vals_of_refs zs', hc2⟩
      have I7 := I6.adopt na ha0 new
      exact wpAny_pure ⟨_, rfl, .ref a, _, I7, (by first | rfl | (rw [← ha]; rfl)), q a zs' H1 hS ha0 hpr hsrt⟩
end
end L2
namespace L2
open PySem PySem.Spec PyProof.Rows SO
section
variable {X : Cx} {k : Nat} {f : Addr} {fd : FuncData} {ps : List Str} {sp : Sp} {p pos kpos : Pos} {e ke : Expr} {t : TA} {tk : TE}
def oneV (R : V → Hp → Prop) : List V → Hp → Prop
  | [w], H => R w H
  | _, _ => False

def tSrtK (K : PySem.W.Frag) (f : Addr) (sp : Sp) (t : TA) (tk : TE) : TE := fun σ H Q => t σ H fun vs H1 => tk σ H1 fun w H2 => ∃ (p : Addr) (zs : List (Addr × KP)), vs = [.ref p] ∧ w = .ref f ∧ SqL K H2 p (zs.map fun z => V.ref z.1) ∧ zs.length ≤ 1000 ∧
  (∀ z ∈ zs, ∀ H3, Same H2 H3 → ∀ (Q : VK) (E : XK), (∀ q H4, Same H3 H4 → PrA H4 (q, z.2) → Q (.ref q) H4) → sp [.ref z.1] H3 Q E) ∧
  ∀ (l : Addr) (zs' : List (Addr × KP)) (H' : Hp), Same H2 H' → H' l = none → zs'.Perm zs → zs'.Pairwise (fun x y => prLt y.2 x.2 = false) → Q (.ref l) (upd H' l (.lst (zs'.map fun z => V.ref z.1)))
theorem pe_sortedK (F : FnOk X.prog X.w X.K X.mg X.base CX0 k f fd ps sp) (hr : Room k X.A.in1.in1) (hu : X.A.units + 4 < cLine) (hb : Binds X.K fd ps []) (hg : Gl X "sorted") (hm : X.mg "sorted" = none) (hv : bootBuiltins "sorted" = some (.builtin "sorted"))
    (ha : PA X [e] t) (hk : PE X ke tk) (he : backTo pos (starEach [e] X.env) = (false, eval e X.env) :: backTo pos (starEach [] X.env) := by rfl) (hplain : (backTo pos (starEach [e] X.env)).any (·.1) = false := by rfl)
    (hall : (backToKw pos (keywordEach [⟨some "key", ke, kpos⟩] X.env)).all (·.1.isSome) = true := by rfl) (hkw : (backToKw pos (keywordEach [⟨some "key", ke, kpos⟩] X.env)).any (·.1.isNone) = false := by rfl)
    (hks : (backToKw pos (keywordEach [⟨some "key", ke, kpos⟩] X.env)).filterMap (·.1) = [Str.ofString "key"] := by rfl) : PE X (.Call (.Name "sorted" p) [e] [⟨some "key", ke, kpos⟩] pos) (tSrtK X.K f sp t tk) := by
  intro pins s σ H Q I h
  refine wpAny_Call_Name_kw (ld_blt I hg hm hv ?_ (by decide) (by decide))
  refine callWith_kw (thn (ha pos pins s σ H _ I h) fun us s1 ⟨vs, H1, I1, r1, q1⟩ => ?_) he hplain hall hkw
  have q1' : tCons tk tNil σ H1 (oneV _) := q1
  refine thn (pk_cons (kpos := kpos) (nm := some "key") hk pk_nil pos pins s1 σ H1 _ I1 q1') fun ws s2 ⟨xs, H2, I2, rz, q2⟩ => ?_
  rw [hks]
  obtain ⟨w, rfl⟩ : ∃ w, xs = [w] := by
    match xs, q2 with
    | [w], _ => exact ⟨w, rfl⟩
  obtain ⟨u, rfl, ru⟩ := vals1 rz
  obtain ⟨p', zs, rfl, rfl, hq, hz, hsp, q⟩ := q2
  obtain ⟨u', rfl, rx⟩ := vals1 r1
  obtain rfl : u' = .ref p' := rx
  obtain rfl : u = .ref f := ru
  have fin := sortedK_run (Q := Q) I2 F hr hu hb hq hz hsp q
  rw [show [Str.ofString "key"].zip [Value.ref f] = [(Str.ofString "key", Value.ref f)] by rw [List.zip_cons_cons, List.zip_nil_left]]
  exact fin
end
end L2
namespace SO
open PySem PyProof PyProof.Rows HT PySem.W
section
variable {prog : Program} {w : World} {A : Around} {E : Value → Shared → Prop} {s : Shared}
theorem walks_ent (hh : A.handled = none) (I d : Addr) (hne : d ≠ I) {od : Obj} {es : Array DictEntry} {ep : Nat} (hdat : od.data = .dict es ep) :
    Walks prog w A I [I, d] [I] es.size (fun i v => ∃ e, es[i]? = some e ∧ v = e.key) (fun i h => h.IsKeyIter I d i es.size ep ∧ h.get? d = some od) where
  sub := fun b hb => by simp at hb; simp [hb]
  frame := fun _ _ _ st hk => ⟨st.1.at fun o e => hk I (by simp) o e, hk d (by simp) _ st.2⟩
  item := fun i s Q E hi st hQ => by
    obtain ⟨e, hx⟩ : ∃ p, es[i]? = some p := ⟨es[i], by simp [hi]⟩
    refine L2.next_keys_item st.1 st.2 hdat hx fun h' hit' hs' => ?_
    exact hQ e.key h' s.toks ⟨e, hx, rfl⟩ ⟨hit', hs'.extBut d od hne st.2⟩ fun b o hb e => hs'.extBut b o (fun h => hb (by simp [h])) e
  done := fun s Q E st hQ => L2.next_keys_end hh st.1 st.2 hdat (Nat.le_refl _) fun h' he' => hQ h' s.toks fun b o hb e => he' b o (fun h => hb (by simp [h])) e
  self := fun _ _ _ _ st hQ => wpAny_pyIter_keyiter st.1 hQ
theorem iter_dictE {d : Addr} {o : Obj} {es : Array DictEntry} {ep : Nat} {Q : Value → Shared → Prop} (hd : (d == sysModules) = false) (ho : s.heap.get? d = some o) (hx : o.ExactDict) (hdat : o.data = .dict es ep)
    (hQ : Q (.ref s.heap.objs.size) { s with heap := s.heap.push { cls := .type "dict_keyiterator", data := .fields #[.ref d, .int 0 0, .int es.size 0, .int ep 0] } }) :
    wpAny (model prog w) A (pyIter (.ref d)) Q E s := by
  have hT : s.TypeIs (.ref d) "dict" := ⟨o, ho, hx.1⟩
  refine wpAny_pyIter_slot hT F.slot_dict_iter (wpAny_call_entry F.slot_dict_iter hT F.entry_dict_iter ?_ (F.args_dict_iter_1 _))
  unfold Builtin.«dict.__iter__»
  refine wpAny_bind ?_
  unfold Builtin.Dict.dictSlotNone
  refine wpAny_bind (wpAny_notOrdered_dict hT ?_)
  show wpAny _ _ (pure (Value.ref d)) _ _ s
  refine wpAny_pure ?_
  show wpAny _ _ (Builtin.Dict.showsAll d >>= _) _ _ s
  unfold Builtin.Dict.showsAll
  rw [if_neg (by rw [hd]; exact Bool.false_ne_true)]
  refine wpAny_bind (wpAny_pure ?_)
  refine wpAny_bind (wpAny_dictEntries ho hdat ?_)
  refine wpAny_bind (wpAny_dictEpoch ho hdat ?_)
  refine wpAny_bind (wpAny_newObj_type (wpAny_pure ⟨_, rfl, "dict_keyiterator", _, ⟨_, Heap.get?_push_size _ rfl, rfl⟩, F.slot_dict_keyiterator_next.lookup, ?_⟩))
  simpa [rawInt] using hQ
theorem src_dictE {d : Addr} {od : Obj} {es : Array DictEntry} {ep : Nat} (lo : (d == sysModules) = false) (hx : od.ExactDict) (hdat : od.data = .dict es ep) :
    KdlSrc prog w "dict" d d es.size (fun i v => ∃ e, es[i]? = some e ∧ v = e.key) (fun h => h.get? d = some od) where
  type := fun _ hm => ⟨od, hm, hx.1⟩
  there := fun _ hm => ⟨Heap.lt_size hm, Heap.lt_size hm⟩
  keep := fun _ _ hm hk => hk d (.inl rfl) _ hm
  notList := by decide
  notTuple := by decide
  hint := fun _ _ _ _ hm hq => kdl_hint_dict ⟨od, hm, hx.1⟩ hq
  iter := fun _ _ hh hm => ⟨_, _, (fun _ _ hq => iter_dictE lo hm hx hdat hq), walks_ent hh _ d (Nat.ne_of_lt (Heap.lt_size hm)) hdat, ⟨⟨_, Heap.get?_push_size _ rfl, rfl, rfl⟩, Heap.get?_push_of_some _ hm⟩⟩
end
end SO
namespace L2
open PySem PySem.Spec PyProof.Rows SO
section
variable {X : Cx}
theorem ent_refs {P : Program} {w : World} {xs : List (KTu × Addr × V)} {us : List (KTu × Addr × Value)} {es : Array DictEntry} (r : Paired TRel xs us) (e : es.toList = us.map (entryOfKey (tupleKind (numKind P w)))) : es.size = xs.length ∧ ∀ (i : Nat) (v : Value), (∃ d : DictEntry, es[i]? = some d ∧ v = d.key) → ∃ p, xs[i]? = some p ∧ v = Value.ref p.2.1 := by
  have hl : us.length = xs.length := r.length.symm
  refine ⟨by rw [← Array.length_toList, e, List.length_map, hl], fun i v ⟨d, hd, hv⟩ => ?_⟩
  rw [← Array.getElem?_toList, e, List.getElem?_map] at hd
  obtain ⟨q, hq, rfl⟩ := Option.map_eq_some_iff.mp hd
  have hi : i < xs.length := by rw [← hl]; exact (List.getElem?_eq_some_iff.mp hq).1
  obtain ⟨q', h1, h2⟩ := trel_get r (List.getElem?_eq_getElem hi)
  rw [hq] at h1
  cases h1
  refine ⟨_, List.getElem?_eq_getElem hi, ?_⟩
  rw [hv, h2.2.1]
  rfl
theorem items_refs {xs : List (KTu × Addr × V)} {acc : Array Value} {Pv : Nat → Value → Prop} {n : Nat} (hn : n = xs.length) (h : ItemsOf Pv acc n) (hp : ∀ i v, Pv i v → ∃ p, xs[i]? = some p ∧ v = .ref p.2.1) : acc.toList = xs.map fun x => Value.ref x.2.1 := by
  apply List.ext_getElem?
  intro i
  rw [List.getElem?_map, Array.getElem?_toList]
  by_cases hi : i < acc.size
  · obtain ⟨p, h1, h2⟩ := hp i _ (h.2 i _ (getElem?_pos acc i hi))
    rw [getElem?_pos acc i hi, h1, h2]
    rfl
  · rw [getElem?_neg acc i hi, List.getElem?_eq_none (by rw [← hn, ← h.1]; omega)]
    rfl
theorem vals_adrs {α : Type} (g : α → Addr) : ∀ (xs : List α), Vals (xs.map fun x => V.ref (g x)) (xs.map fun x => Value.ref (g x))
  | [] => .nil
  | _ :: xs => .cons rfl (vals_adrs g xs)

theorem call_listTD (hc : X.calm = true) : CallR X (.type "list") (fun vs H Q => ∃ a xs o, vs = [V.ref a] ∧ H a = some (TD X.prog X.w a xs o) ∧ ∀ l, H l = none → Q (.ref l) (upd H l (.lst (xs.map fun x => V.ref x.2.1)))) := by
  intro pins s σ H vs us Q I r h
  obtain ⟨a, xs, o, rfl, ha, q⟩ := h
  obtain ⟨u, rfl, rx⟩ := vals1 r
  obtain rfl : u = .ref a := rx
  obtain ⟨ho, hd, hz, hx, ks, es, ep, hr, hdat, he, hnd⟩ := td_at I ha
  obtain ⟨hsz, hrf⟩ := ent_refs hr he
  refine PySem.W.kdl_call (src_dictE hd hx hdat) (I.ok.hd hc) ho (by rw [hsz]; exact hz) fun h' tk acc c hk hD hacc => ?_
  have hl := items_refs hsz hacc hrf
  have hD' : h'.get? s.heap.objs.size = some (seqObj "list" (xs.map fun x => Value.ref x.2.1).toArray c) := by rw [← hl, Array.toArray_toList]; exact hD
  have hob : ObjOk X.prog X.w (upd H s.heap.objs.size (.lst (xs.map fun x => V.ref x.2.1))) h' s.heap.objs.size (.lst (xs.map fun x => V.ref x.2.1)) :=
    ⟨by rw [List.length_map]; exact hz, xs.map fun x => Value.ref x.2.1, c, vals_adrs (fun x : KTu × Addr × V => x.2.1) xs, hD'⟩
  exact ⟨.ref s.heap.objs.size, _, I.laid (t' := tk) hk (Nat.le_refl _) hob, rfl, q _ (I.hok.fresh (Nat.le_refl _))⟩
end
end L2
namespace L2
open PySem PySem.Spec PyProof.Rows

section
variable {X : Cx}
def putV {κ : Type} [DecidableEq κ] (k : κ) (v : V) (x : κ × Addr × V) : κ × Addr × V := if x.1 = k then (x.1, x.2.1, v) else x
def putH {κ : Type} [DecidableEq κ] (xs : List (κ × Addr × V)) (k : κ) (b : Addr) (v : V) : List (κ × Addr × V) := if (xs.any fun x => decide (x.1 = k)) = true then xs.map (putV k v) else xs ++ [(k, b, v)]
abbrev KRel {κ : Type} : κ × Addr × V → κ × Addr × Value → Prop := fun p q => p.1 = q.1 ∧ p.2.1 = q.2.1 ∧ RelV p.2.2 q.2.2
theorem krel_some {κ : Type} [DecidableEq κ] {xs : List (κ × Addr × V)} {us : List (κ × Addr × Value)} (r : Paired KRel xs us) (k : κ) : (atKey us k).isSome = xs.any fun x => decide (x.1 = k) := by
  induction r with
  | nil => rfl
  | @cons p q ps qs h t ih =>
    rw [List.any_cons, ← ih]
    unfold atKey
    rw [List.find?_cons, ← h.1]
    by_cases e : p.1 = k <;> simp [e]
theorem krel_put {κ : Type} [DecidableEq κ] {xs : List (κ × Addr × V)} {us : List (κ × Addr × Value)} (r : Paired KRel xs us) (k : κ) (b : Addr) {v : V} {u : Value} (rv : RelV v u) : Paired KRel (putH xs k b v) (storedH us k b u) := by
  unfold putH storedH
  rw [krel_some r k]
  split
  · rename_i hh
    clear hh
    induction r with
    | nil => exact .nil
    | @cons p q ps qs h t ih =>
      rw [List.map_cons, List.map_cons]
      refine .cons ?_ ih
      unfold putV putAt
      rw [← h.1]
      by_cases e : p.1 = k
      · rw [if_pos e, if_pos e]
        exact ⟨rfl, h.2.1, rv⟩
      · rw [if_neg e, if_neg e]
        exact h
  · exact Paired.snoc r ⟨rfl, rfl, rv⟩
theorem putH_length {κ : Type} [DecidableEq κ] (xs : List (κ × Addr × V)) (k : κ) (b : Addr) (v : V) : (putH xs k b v).length ≤ xs.length + 1 := by
  unfold putH
  split
  · rw [List.length_map]; omega
  · rw [List.length_append]; exact Nat.le_refl _
def sTPutA (P : Program) (w : World) (td ty tv : TE) : TS := fun D σ H => tv σ H fun v H1 => td σ H1 fun x H2 => ty σ H2 fun y H3 => ∃ a xs o b k, x = .ref a ∧ H3 a = some (TD P w a xs o) ∧ TKs H3 xs ∧ y = .ref b ∧ TKy H3 k b ∧ xs.length < sizeLine ∧
  ∀ o', D.nx σ (upd H3 a (TD P w a (putH xs k b v) o'))
theorem ps_tputA {o i value : Expr} {pos pos' : Pos} {td ty tv : TE} (hu : X.A.units + 1 < cLine) (ho : PE X o td) (hi : PE X i ty) (hv : PE X value tv) (hs : swapsWith value (some (.Subscript o i pos')) pos.line X.env = pure false) :
    PS X (.Assign [.Subscript o i pos'] value pos) (sTPutA X.prog X.w td ty tv) := by
  intro pins s σ H D I h
  refine wpAny_Assign_Subscript (thn (hv pins s σ H _ I h) fun r s1 ⟨v, H1, I1, rv, q1⟩ => thn (ho pins s1 σ H1 _ I1 q1) fun u s2 ⟨x, H2, I2, rx, q2⟩ => thn (hi pins s2 σ H2 _ I2 q2) fun iv s3 ⟨y, H3, I3, ry, a, xs, ob, b, k, ex, e, hk, ey, kb, l, q3⟩ => ?_) hs
  subst ex ey
  obtain rfl : u = Value.ref a := rx
  obtain rfl : iv = Value.ref b := ry
  obtain ⟨z, hd, us, rel, dd⟩ := td_of I3 e hk
  refine wpAny_setItem_heap (hsz := by rw [← Paired.length rel]; exact z) (by show X.A.units + 1 < cLine; exact hu) (tk_is I3.hok kb) dd fun h' dd' hs' => ?_
  obtain ⟨o', ho'⟩ := td_new (P := X.prog) (w := X.w) (xs := putH xs k b v) (Nat.le_trans (putH_length _ _ _ _) l) hd (krel_put rel k b rv) dd'
  have he : ∃ q, h'.get? a = some q := let ⟨q, _, _, hq, _⟩ := dd'; ⟨q, hq⟩
  exact ⟨σ, _, d_write I3 (by rw [e]; exact True.intro) hs' he (ho' _), q3 o'⟩
def tDispTD (P : Program) (w : World) (ty tv : TE) : TE := fun σ H Q => ∀ p o, H p = none → tPairs [(ty, tv)] σ (upd H p (TD P w p [] o)) fun ps H2 => H2 p = some (TD P w p [] o) ∧ ∃ b v k, ps = [(.ref b, v)] ∧ TKy H2 k b ∧ ∀ o', Q (.ref p) (upd H2 p (TD P w p [(k, b, v)] o'))
theorem pe_dispTD {ke ve : Expr} {pos : Pos} {ty tv : TE} (hu : X.A.units < cLine) (h : PE X ke ty) (hv : PE X ve tv) : PE X (.Dict [some ke] [ve] pos) (tDispTD X.prog X.w ty tv) := by
  intro pins s σ H Q I q
  have hn := I.hok.fresh (Nat.le_refl s.heap.objs.size)
  obtain ⟨o, ho⟩ := td_new (P := X.prog) (w := X.w) (xs := []) (Nat.zero_le _) (beq_eq_false_iff_ne.mpr (Ne.symm (Nat.ne_of_lt I.big))) .nil (Heap.DictOfH.new s.heap)
  have I1 := I.laid (a := s.heap.objs.size) (o := TD X.prog X.w s.heap.objs.size [] o) (h' := s.heap.push { cls := .type "dict", data := .dict #[] }) (t' := s.toks) (fun _ _ q => Heap.get?_push_of_some _ q) (Nat.le_refl _) (ho _)
  refine wpAny_Dict_any rfl rfl (by simp) (by simp) (thn ((pps_cons h hv pps_nil) pins _ σ _ _ I1 (q _ o hn)) fun ws s2 ⟨ps, H2, I2, rel, e, b, v, k, ep, eb, q2⟩ => ?_)
  subst ep
  cases rel with
  | @cons p1 w1 ps1 ws1 h1 t =>
    cases t
    obtain ⟨u, r⟩ := w1
    obtain rfl : u = Value.ref b := h1.1
    obtain ⟨z, hd, us, r0, dd⟩ := td_of I2 e (fun x hx => by cases hx)
    cases r0
    unfold storeAll
    rw [List.forIn_cons]
    refine wpAny_bind (wpAny_bind (wpAny_dictSet_heap (hsz := Nat.zero_le _) (knd := tupleKind (numKind X.prog X.w)) hu (tk_is I2.hok eb) dd fun h' dd' hs => wpAny_pure ?_))
    simp only [List.forIn_nil]
    obtain ⟨o', ho'⟩ := td_new (P := X.prog) (w := X.w) (xs := [(k, b, v)]) (by show 1 ≤ sizeLine; decide) hd (.cons ⟨rfl, rfl, h1.2⟩ .nil) dd'
    have he : ∃ q, h'.get? s.heap.objs.size = some q := let ⟨q, _, _, hq, _⟩ := dd'; ⟨q, hq⟩
    exact wpAny_pure ⟨.ref s.heap.objs.size, _, d_write I2 (by rw [e]; exact True.intro) hs he (ho' _), rfl, q2 o'⟩
end
end L2
namespace L2
open PySem PySem.Spec PyProof.Rows SO

section
variable {X : Cx}
end
end L2
namespace L2
open PySem PySem.Spec PyProof.Rows

theorem lc_list2 {K : PySem.W.Frag} {a : Addr} {xs : List V} {caps : St} {tt : TT} {te : TE} {D : Addr} {Q : Hp → Prop} {H1 : Hp} (Pv : Nat → List V → Hp → Prop) (hz : xs.length ≤ sizeLine) (h0 : Pv 0 [] (upd H1 D (.lst []))) (hl : ∀ i ys H, Pv i ys H → ys.length ≤ i) (hq : ∀ i ys H, Pv i ys H → SqL K H a xs)
    (hs : ∀ i ys H (x : V), xs[i]? = some x → Pv i ys H → ∃ p v w, x = .ref p ∧ SqT K H p [v, w] ∧ ∀ (N : VK) (M : Hp → Prop), (∀ y H4, H4 D = some (.lst ys) → Pv (i + 1) (ys ++ [y]) (upd H4 D (.lst (ys ++ [y]))) → N y H4) → (∀ H3, Pv (i + 1) ys H3 → M H3) →
      tt (some v :: some w :: caps) H fun ok H3 => if ok = true then te (some v :: some w :: caps) H3 N else M H3)
    (hd : ∀ ys H, Pv xs.length ys H → Q H) : ∃ W : Nat → Nat → St → Hp → Prop, (∃ m, W 0 m (none :: none :: caps) (upd H1 D (.lst []))) ∧ LcW (Itl K a) (gTup K 2 (gCons (gName 0) (gCons (gName 1) gNil))) tt te D Q W := by
  refine ⟨fun i m σ H => m = xs.length - i ∧ i ≤ xs.length ∧ (∃ v w, σ = v :: w :: caps) ∧ ∃ ys, Pv i ys H, ⟨xs.length, by simp, Nat.zero_le _, ⟨none, none, rfl⟩, [], h0⟩, ?_⟩
  rintro i m σ H ⟨rfl, hi, ⟨v, w, rfl⟩, ys, p⟩
  have hy := hl i ys H p
  by_cases hlt : i < xs.length
  · refine .inr ⟨⟨xs, xs[i], hq i ys H p, by simp [hlt]⟩, fun x H1 y => ?_⟩
    obtain ⟨e, y⟩ := y
    subst e
    have hx := y xs (hq i ys _ p)
    obtain ⟨p', v', w', e1, e2, e3⟩ := hs i ys _ x hx p
    exact ⟨p', [v', w'], e1, e2, rfl, v', [w'], rfl, w', [], rfl, rfl, e3 _ _ (fun y H4 a c => ⟨ys, a, by omega, xs.length - (i + 1), by omega, rfl, hlt, ⟨_, _, rfl⟩, _, c⟩) (fun H3 c => ⟨xs.length - (i + 1), by omega, rfl, hlt, ⟨_, _, rfl⟩, ys, c⟩)⟩
  · have e : i = xs.length := by omega
    subst e
    exact .inl ⟨⟨xs, hq _ ys H p, Nat.le_refl _⟩, hd ys H p⟩
section
variable {X : Cx} {P : Program} {w : World}
theorem cut_take (xs : List V) (k : Nat) : cutV xs none (some (k : Int)) = xs.take k := by
  unfold cutV
  rw [HT.sIx_nat, HT.sIx_none, List.drop_zero, Nat.sub_zero, ← List.take_take, List.take_length]
theorem cut_drop (xs : List V) (k : Nat) : cutV xs (some (k : Int)) none = xs.drop k := by
  unfold cutV
  rw [HT.sIx_nat, HT.sIx_none]
  by_cases h : k ≤ xs.length
  · rw [Nat.min_eq_left h, List.take_of_length_le (by rw [List.length_drop]; omega)]
  · rw [Nat.min_eq_right (by omega), List.drop_eq_nil_of_le (Nat.le_refl _), List.drop_eq_nil_of_le (by omega), List.take_nil]

def SBut (p : Addr) (H H' : Hp) : Prop := ∀ b o, b ≠ p → H b = some o → H' b = some o
theorem SBut.refl {p : Addr} {H : Hp} : SBut p H H := fun _ _ _ e => e
theorem SBut.same {p : Addr} {H H1 H2 : Hp} (s : SBut p H H1) (t : Same H1 H2) : SBut p H H2 := fun b o n e => t _ _ (s b o n e)
theorem SBut.upd {p : Addr} {H H1 : Hp} {o : HO} (s : SBut p H H1) : SBut p H (upd H1 p o) := fun b q n e => by rw [upd_ne n]; exact s b q n e
theorem SBut.get {p a : Addr} {H H' : Hp} {o o' : HO} (s : SBut p H H') (hp : H p = some o') (h : H a = some o) (n : o ≠ o') : H' a = some o := s a o (fun e => by subst e; rw [hp] at h; exact n (Option.some.inj h).symm) h
end
end L2
namespace SO
open PySem PyProof PyProof.Rows HT
section
open PySem.SeqAt
open PySem.AutoSeq1 (wpAny_loadPart')
open PySem.MeetsSeq PySem.MeetsSeq2 PySem.MeetsSeq3
theorem tuple_lt_pair (l b c c' : Addr) (n n2 : Nat) (dd dd2 : Option Addr) (sl sl2 : Array (Option Value)) (k k' : KP) (t t' : Tok) :
    Meets (Builtin.«tuple.__lt__» ⟨[.ref l, .ref b], []⟩)
      (fun A R s => s.heap.get? l = some { cls := .type "tuple", dict := dd, data := .seq #[.int k.1 t, .ref c] n, slots := sl } ∧ s.heap.get? b = some { cls := .type "tuple", dict := dd2, data := .seq #[.int k'.1 t', .ref c'] n2, slots := sl2 } ∧
        EqAt A.in1 s (.ref c) (.ref c') (decide (k.2 = k'.2)) ∧ (∀ (prog : Program) (w : World) (E : Value → Shared → Prop) (Q : Value → Shared → Prop), Q (.bool (lexLt k.2 k'.2)) s → wpAny (model prog w) A.in1 (richCompare .Lt (.ref c) (.ref c')) Q E s) ∧
        R (.ok (.ret (.bool (prLt k k')))) s) := by
  intro prog w A R s h
  obtain ⟨hp, g, d, tk, os⟩ := s; obtain ⟨hl, hb, he, hri, h⟩ := h
  have f2 := AutoSeq1.sub_tuple_tuple
  wp_walk using wpAny_loadPart' hl, wpAny_loadPart' hb, wpAny_forIn_list _ (fun rest b s' => b.1 = none ∧ s' = ⟨hp, g, d, tk, os⟩ ∧
    ((rest = [(Value.int k.1 t, Value.int k'.1 t'), (Value.ref c, Value.ref c')] ∧ R (.ok (.ret (.bool (prLt k k')))) ⟨hp, g, d, tk, os⟩) ∨ (rest = [(Value.ref c, Value.ref c')] ∧ R (.ok (.ret (.bool (lexLt k.2 k'.2)))) ⟨hp, g, d, tk, os⟩) ∨ (rest = [] ∧ R (.ok (.ret (.bool false))) ⟨hp, g, d, tk, os⟩))) _
  case turn =>
    rintro ⟨y, x⟩ rest b s' ⟨hb', rfl, hz⟩
    rcases hz with ⟨hz, hR⟩ | ⟨hz, hR⟩ | ⟨hz, hR⟩
    · injection hz with hyx hrest
      injection hyx with hy hx
      subst hy hx hrest
      have hl' : prLt k k' = if k.1 = k'.1 then lexLt k.2 k'.2 else decide (k.1 < k'.1) := lexLt_cons _ _ _ _
      rw [hl'] at hR
      obtain ⟨e, he', hiff⟩ := eqAt_int A.in1 ⟨hp, g, d, tk, os⟩ k.1 t k'.1 t'
      refine wpAny_bind (he' prog w _ _ ?_)
      cases e with
      | true =>
        rw [if_pos (hiff.mp rfl)] at hR
        wp_walk
        exact ⟨rfl, rfl, .inr (.inl ⟨rfl, hR⟩)⟩
      | false =>
        rw [if_neg (fun q => absurd (hiff.mpr q) Bool.false_ne_true)] at hR
        have hri' := rcLt_int A.in1 ⟨hp, g, d, tk, os⟩ k.1 t k'.1 t' prog w
        wp_walk using hri'
        first | exact hR | exact ⟨_, rfl, by simpa using hR⟩
    · injection hz with hyx hrest
      injection hyx with hy hx
      subst hy hx hrest
      refine wpAny_bind (he prog w _ _ ?_)
      by_cases e : k.2 = k'.2
      · rw [decide_eq_true e]
        rw [e, lex_irr] at hR
        wp_walk
        exact ⟨rfl, rfl, .inr (.inr ⟨rfl, hR⟩)⟩
      · rw [decide_eq_false e]
        have hri' := hri prog w
        wp_walk using hri'
        first | exact hR | exact ⟨_, rfl, by simpa using hR⟩
    · cases hz
  case fin =>
    rintro ⟨b1, b2⟩ s' ⟨hb', rfl, hz⟩
    simp only at hb'
    subst hb'
    have hR : R (.ok (.ret (.bool false))) ⟨hp, g, d, tk, os⟩ := by
      rcases hz with ⟨hz, _⟩ | ⟨hz, _⟩ | ⟨_, hR⟩
      · cases hz
      · cases hz
      · exact hR
    wp_walk
    first | simpa [Builtin.Tuple.tupleCompareSizes] using hR | exact ⟨_, rfl, by simpa [Builtin.Tuple.tupleCompareSizes] using hR⟩
  case h =>
    exact ⟨rfl, rfl, .inl ⟨rfl, h⟩⟩
end
section
variable {prog : Program} {w : World} {A : Around} {E : Value → Shared → Prop} {s : Shared}
theorem ints_reads {h : Heap} : ∀ {vs : List Value} {ns : List Int}, IntsAre vs ns → ∃ as, ReadsAll h vs (ns.map PyData.int) as
  | _, _, .nil => ⟨_, .nil⟩
  | _, _, .cons i t r => by
    obtain ⟨as, ra⟩ := ints_reads r
    exact ⟨_, .cons (.int i t) ra⟩
theorem eqAt_tups {a b : Addr} {its jts : Array Value} {p c : List Int} (h1 : IsTup s.heap a its) (h2 : IsTup s.heap b jts) (i1 : IntsAre its.toList p) (i2 : IntsAre jts.toList c) (hu : A.units + 4 < cLine) : SeqAt.EqAt A s (.ref a) (.ref b) (decide (p = c)) := by
  obtain ⟨o, g1, g2, n, g3⟩ := h1
  obtain ⟨o', f1, f2, m, f3⟩ := h2
  obtain ⟨as, ra⟩ := ints_reads (h := s.heap) i1
  obtain ⟨bs, rb⟩ := ints_reads (h := s.heap) i2
  have he := SeqAt.eqAt_reads _ _ A s _ _ _ _ (Reads.tuple g1 g2 g3 ra) (Reads.tuple f1 f2 f3 rb) (L2.dints_lay p) (L2.dints_lay c) (by
    rw [PyData.depth, PyData.depth, L2.dints_depth, L2.dints_depth]
    have : min (0 + 1) (0 + 1) = 1 := rfl
    omega)
  have ee : PyData.eqv (.tuple (p.map PyData.int)) (.tuple (c.map PyData.int)) = decide (p = c) := by
    show PyData.eqvAll _ _ = _
    exact L2.eqvs_ints p c
  rw [ee] at he
  exact he
theorem lt_prs {k k' : KP} {x y : Value} {Q : Value → Shared → Prop} (hu : A.units + 8 < cLine) (hx : PrK s.heap k x) (hy : PrK s.heap k' y) (h : Q (.bool (prLt k k')) s) : wpAny (model prog w) A (richCompare .Lt x y) Q E s := by
  obtain ⟨a, b, t, its, rfl, h1, h2, h3⟩ := hx
  obtain ⟨a', b', t', its', rfl, h1', h2', h3'⟩ := hy
  obtain ⟨⟨cls, dd, data, sl⟩, ho, hc, n, hd⟩ := id h1
  obtain ⟨⟨cls2, dd2, data2, sl2⟩, ho2, hc2, n2, hd2⟩ := id h1'
  simp only at hc hd hc2 hd2
  subst hc hd hc2 hd2
  refine richCompare_meets_room (op := .Lt) ⟨_, ho, rfl⟩ ⟨_, ho2, rfl⟩ PySem.F.slot_tuple_lt PySem.F.entry_tuple_lt (PySem.F.args_tuple_lt_2 _ _) (tuple_lt_pair a a' b b' n n2 dd dd2 sl sl2 k k' t t')
    ⟨ho, ho2, ?_, fun prog' w' E' Q' hq => ?_, show Value.bool (prLt k k') ≠ Value.notImplemented ∧ Q (.bool (prLt k k')) s from ⟨(fun x => nomatch x), h⟩⟩ (by omega)
  · exact eqAt_tups h2 h2' h3 h3' (by show A.units + 1 + 4 < _; omega)
  · exact (HT.lt_tupInts h2 h2' h3 h3' (by show A.units + 1 < _; omega) hq : wpAny (model prog' w') A.in1 (compareOp .Lt (.ref b) (.ref b')) Q' E' s)
end
end SO
namespace L2
open PySem PySem.Spec PyProof.Rows SO

structure MKey (X : Cx) (O : KeyOrd) (KA : Hp → O.α → V → Prop) : Prop where
  same : ∀ {H H' : Hp} {k : O.α} {v : V}, Same H H' → KA H k v → KA H' k v
  cmp : ∀ {pins : List (Addr × Obj)} {σ : St} {H : Hp} {s : Shared}, Inv X pins σ H s → ∀ {k k' : O.α} {v v' : V} {u u' : Value}, KA H k v → KA H k' v' → RelV v u → RelV v' u' → ∀ (Q E : Value → Shared → Prop), Q (.bool (O.blt k k')) s → wpAny (model X.prog X.w) X.A.in1 (richCompare .Lt u u') Q E s

def Bst (O : KeyOrd) (zs : List (Addr × O.α)) (j : Nat) (z : Addr × O.α) : Prop := ∃ i, i < j ∧ zs[i]? = some z ∧ ∀ j' y, j' < j → zs[j']? = some y → O.blt y.2 z.2 = false ∧ (j' < i → O.blt z.2 y.2 = true)
theorem bst_one {O : KeyOrd} {zs : List (Addr × O.α)} {z : Addr × O.α} (h : zs[0]? = some z) : Bst O zs 1 z := ⟨0, by omega, h, fun j' y hj e => by
  have : j' = 0 := by omega
  subst this
  rw [h] at e
  cases e
  exact ⟨O.irrefl _, fun q => by omega⟩⟩
theorem bst_new {O : KeyOrd} {zs : List (Addr × O.α)} {z y : Addr × O.α} {j : Nat} (b : Bst O zs j z) (h : zs[j]? = some y) (lt : O.blt y.2 z.2 = true) : Bst O zs (j + 1) y := by
  obtain ⟨i, hi, ei, hb⟩ := b
  refine ⟨j, by omega, h, fun j' x hj e => ?_⟩
  by_cases q : j' = j
  · subst q
    rw [h] at e
    cases e
    exact ⟨O.irrefl _, fun q => by omega⟩
  · obtain ⟨b1, b2⟩ := hb j' x (by omega) e
    constructor
    · cases c : O.blt x.2 y.2 with
      | false => rfl
      | true => rw [O.trans _ _ _ c lt] at b1; cases b1
    · intro _
      rcases O.negTrans _ x.2 _ lt with c | c
      · exact c
      · rw [b1] at c; cases c
theorem bst_old {O : KeyOrd} {zs : List (Addr × O.α)} {z y : Addr × O.α} {j : Nat} (b : Bst O zs j z) (h : zs[j]? = some y) (lt : O.blt y.2 z.2 = false) : Bst O zs (j + 1) z := by
  obtain ⟨i, hi, ei, hb⟩ := b
  refine ⟨i, by omega, ei, fun j' x hj e => ?_⟩
  by_cases q : j' = j
  · subst q
    rw [h] at e
    cases e
    exact ⟨lt, fun q => by omega⟩
  · exact hb j' x (by omega) e
section
variable {X : Cx} {O : KeyOrd} {KA : Hp → O.α → V → Prop} {pins : List (Addr × Obj)} {σ : St} {H : Hp} {S I l f : Addr} {k : Nat} {fd : FuncData} {ps : List Str} {sp : Sp} {zs : List (Addr × O.α)}
theorem mk_call {H1 : Hp} {s : Shared} {oS oI : Obj} {z : Addr × O.α} (F : FnOk X.prog X.w X.K X.mg X.base CX0 k f fd ps sp) (hr : Room k X.A.in1) (hb : Binds X.K fd ps []) (nS : Nw X pins S) (nI : Nw X pins I)
    (I1 : Inv X pins σ H1 s) (hS0 : H1 S = none) (hI0 : H1 I = none) (hS : s.heap.get? S = some oS) (hI : s.heap.get? I = some oI) (cS : ∀ v, oS.data ≠ .cell v) (cI : ∀ v, oI.data ≠ .cell v)
    (hsp : ∀ (Q : VK) (E : XK), (∀ v H2, Same H1 H2 → KA H2 z.2 v → Q v H2) → sp [.ref z.1] H1 Q E) :
    wpAny (model X.prog X.w) X.A.in1 (call (.ref f) [.ref z.1]) (fun u s'' => ∃ H2 kv, Inv X pins σ H2 s'' ∧ Same H1 H2 ∧ H2 S = none ∧ H2 I = none ∧ s''.heap.get? S = some oS ∧ s''.heap.get? I = some oI ∧ KA H2 z.2 kv ∧ RelV kv u) (fun _ _ => False) s := by
  have I2 := I1.pin2 nS nI hS hI hS0 hI0 cS cI
  have hpost : sp [.ref z.1] H1 (fun v H2 => Same H1 H2 ∧ KA H2 z.2 v) (fun _ _ _ => False) := hsp _ _ fun v H2 s2 p2 => ⟨s2, p2⟩
  have hl : ([Value.ref z.1] ++ ([] : List Value)).length = ps.length := F.len _ _ _ _ hpost
  have hbt := hb s [.ref z.1] I2.kIn hl
  rw [List.append_nil] at hbt
  refine wpAny_call (codeAny_mono (F.run X.A.in1 X.stack s H1 ⟨[.ref z.1], []⟩ [.ref z.1] [.ref z.1] _ _ hr I2.env0.in1 hbt (.cons rfl .nil) hpost) fun r s' hc => ?_)
  cases r with
  | error e => exact hc
  | ok fl =>
    cases fl with
    | next => exact False.elim hc
    | brk => exact False.elim hc
    | cont => exact False.elim hc
    | ret u =>
      obtain ⟨v, H2, I3, rv, s2, p2⟩ := I2.after hc
      have pS := I3.pin (S, _) (List.mem_append_right _ List.mem_cons_self)
      have pI := I3.pin (I, _) (List.mem_append_right _ (List.mem_cons_of_mem _ List.mem_cons_self))
      exact ⟨H2, v, I3.unpin2, s2, pS.2.1, pI.2.1, pS.1, pI.1, p2, rv⟩
variable (M : MKey X O KA) (F : FnOk X.prog X.w X.K X.mg X.base CX0 k f fd ps sp) (hr : Room k X.A.in1) (hb : Binds X.K fd ps []) (hh : X.A.handled = none) (nS : Nw X pins S) (nI : Nw X pins I) (hSI : S ≠ I) (hlI : l ≠ I)
  (hl : ∀ H' s', Same H H' → Inv X pins σ H' s' → s'.heap.IsList l (zs.map fun z => Value.ref z.1).toArray)
  (hsp : ∀ z ∈ zs, ∀ H1, Same H H1 → ∀ (Q : VK) (E : XK), (∀ v H2, Same H1 H2 → KA H2 z.2 v → Q v H2) → sp [.ref z.1] H1 Q E)
include M F hr hb hh nS nI hSI hlI hl hsp
theorem min_loop {kw : List (Str × Value)} {R : Result → Shared → Prop}
    (hR : ∀ z H' s', Bst O zs zs.length z → Same H H' → Inv X pins σ H' s' → R (.ok (.ret (.ref z.1))) s') :
    ∀ (r j : Nat) (s : Shared) (H1 : Hp) (z : Addr × O.α) (kb : V) (ub : Value) (c : Nat) (oI : Obj), zs.length - j = r → j ≤ zs.length → Inv X pins σ H1 s → Same H H1 → H1 S = none → H1 I = none →
      s.heap.get? S = some (seqObj "list" #[.ref z.1, ub] c) → s.heap.get? I = some oI → oI.cls = .type "list_iterator" → s.heap.IsListIter I l j → KA H1 z.2 kb → RelV kb ub → Bst O zs j z →
      codeAny (model X.prog X.w) X.A (.builtin "min.loop" ⟨[.ref I, .ref f, .ref S], kw⟩) R s := by
  have hname : (toString "min" ++ toString ".loop" : String) = "min.loop" := by decide
  have W := Walks.list (prog := X.prog) (w := X.w) (A := X.A.in1) hh I l hlI (zs.map fun z => Value.ref z.1).toArray
  have hsz : (zs.map fun z => Value.ref z.1).toArray.size = zs.length := by simp
  intro r
  induction r with
  | zero =>
    intro j s H1 z kb ub c oI hr' hj I1 s1 hS0 hI0 hS hI hoc hit hk rk hB
    have hin : j = zs.length := by omega
    refine codeAny_builtin PySem.F.entry_min_loop ?_
    rw [Around.under_plainId PySem.F.plain_min_loop _]
    show wpAny _ X.A.in1 (seqItems? (.ref S) >>= _) _ _ _
    refine wpAny_bind (wpAny_seqItems hS rfl ?_)
    show wpAny _ X.A.in1 (tryCatch (pyNext (.ref I)) _ >>= _) _ _ _
    refine wpAny_bind (wpAny_tryCatch (W.done _ _ _ ⟨by rw [hsz, ← hin]; exact hit, hl H1 s s1 I1⟩ fun h' tk' hk' => ?_))
    have I2 : Inv X pins σ H1 { s with heap := h', toks := tk' } := I1.turned (fun b o hb e => hk' b o (by simpa using hb) e) hI0 nI.loc (.inr nI.new) nI.cel nI.pin
    have hS' := hk' S _ (by simpa using hSI) hS
    have sb := Heap.SameBut.update h' S (Obj.mapSeq fun _ => (#[] : Array Value))
    show wpAny _ X.A.in1 (updateSeq S (fun _ => #[]) >>= _) _ _ _
    refine wpAny_bind ?_
    refine wpAny_updateSeq hS' rfl (wpAny_bind (wpAny_letGo (wpAny_pure ?_)))
    have I3 := I2.turned (t' := tk') (h' := h'.update S (Obj.mapSeq fun _ => (#[] : Array Value))) (fun b o hb e => (sb.2 b hb).trans e) hS0 nS.loc (.inr nS.new) nS.cel nS.pin
    exact hR z H1 _ (by rw [← hin]; exact hB) s1 I3
  | succ r ih =>
    intro j s H1 z kb ub c oI hr' hj I1 s1 hS0 hI0 hS hI hoc hit hk rk hB
    have hlt : j < zs.length := by omega
    refine codeAny_builtin PySem.F.entry_min_loop ?_
    rw [Around.under_plainId PySem.F.plain_min_loop _]
    show wpAny _ X.A.in1 (seqItems? (.ref S) >>= _) _ _ _
    refine wpAny_bind (wpAny_seqItems hS rfl ?_)
    show wpAny _ X.A.in1 (tryCatch (pyNext (.ref I)) _ >>= _) _ _ _
    refine wpAny_bind (wpAny_tryCatch (W.item j _ _ _ (by rw [hsz]; exact hlt) ⟨hit, hl H1 s s1 I1⟩ fun v h' tk' hP hst' hk' => ?_))
    have I2 : Inv X pins σ H1 { s with heap := h', toks := tk' } := I1.turned (fun b o hb e => hk' b o (by simpa using hb) e) hI0 nI.loc (.inr nI.new) nI.cel nI.pin
    have hS' := hk' S _ (by simpa using hSI) hS
    obtain ⟨oI', hoI', hoc', hod'⟩ := id hst'.1
    have hv : (zs.map fun z => Value.ref z.1)[j]? = some v := by simpa using hP
    rw [List.getElem?_map] at hv
    obtain ⟨y, ey, rfl⟩ := Option.map_eq_some_iff.mp hv
    show wpAny _ X.A.in1 (tryCatch (holding [.ref y.1] (call (.ref f) [.ref y.1])) _ >>= _) _ _ _
    refine wpAny_bind (wpAny_tryCatch (wpAny_holding (wpAny_mono (mk_call F hr hb nS nI I2 hS0 hI0 hS' hoI' (fun v => nofun) (fun v => by rw [hod']; nofun) (hsp y (List.mem_of_getElem? ey) H1 s1)) (fun u s'' he => ?_) fun _ _ hF => hF.elim)))
    obtain ⟨H2, kv, I3, s2, hS2, hI2, gS2, gI2, hky, rky⟩ := he
    have hkb2 := M.same s2 hk
    have hit2 : s''.heap.IsListIter I l (j + 1) := ⟨oI', gI2, hoc', hod'⟩
    show wpAny _ X.A.in1 (tryCatch (holding [.ref y.1, u] (richCompare .Lt u ub >>= _)) _ >>= _) _ _ _
    refine wpAny_bind (wpAny_tryCatch (wpAny_holding (wpAny_bind (M.cmp I3 hky hkb2 rky rk _ _ ?_))))
    refine wpAny_bind (wpAny_holding (wpAny_truthy_bool ?_))
    refine wpAny_bind (wpAny_letGo (wpAny_pure ?_))
    cases hb' : O.blt y.2 z.2 with
    | true =>
      have sb := Heap.SameBut.update s''.heap S (Obj.mapSeq fun _ => #[.ref y.1, u])
      obtain ⟨c2, hc2⟩ : ∃ c2, (s''.heap.update S (Obj.mapSeq fun _ => #[.ref y.1, u])).get? S = some (seqObj "list" #[.ref y.1, u] c2) := ⟨_, get?_update_seq gS2 fun _ => #[.ref y.1, u]⟩
      simp only [if_true]
      refine wpAny_bind ?_
      refine wpAny_updateSeq gS2 rfl (wpAny_bind (wpAny_letGo ?_))
      rw [hname]
      have I4 := I3.turned (t' := s''.toks) (h' := s''.heap.update S (Obj.mapSeq fun _ => #[.ref y.1, u])) (fun b o hb e => (sb.2 b hb).trans e) hS2 nS.loc (.inr nS.new) nS.cel nS.pin
      exact wpAny_pure ⟨plainId_quiet PySem.F.plain_min_loop _, ih (j + 1) _ H2 y kv u c2 oI' (by omega) hlt I4 (s1.trans s2) hS2 hI2 hc2 ((sb.2 I hSI.symm).trans gI2) hoc' ⟨oI', (sb.2 I hSI.symm).trans gI2, hoc', hod'⟩ hky rky (bst_new hB ey hb')⟩
    | false =>
      simp only [Bool.false_eq_true, if_false]
      refine wpAny_bind (wpAny_letGo ?_)
      rw [hname]
      exact wpAny_pure ⟨plainId_quiet PySem.F.plain_min_loop _, ih (j + 1) _ H2 z kb ub c oI' (by omega) hlt I3 (s1.trans s2) hS2 hI2 gS2 gI2 hoc' hit2 hkb2 rk (bst_old hB ey hb')⟩
end
end L2
namespace L2
open PySem PySem.Spec PyProof.Rows SO
section
variable {X : Cx} {O : KeyOrd} {KA : Hp → O.α → V → Prop} {pins : List (Addr × Obj)} {σ : St} {H : Hp} {S I l f : Addr} {k : Nat} {fd : FuncData} {ps : List Str} {sp : Sp} {zs : List (Addr × O.α)}
variable (M : MKey X O KA) (F : FnOk X.prog X.w X.K X.mg X.base CX0 k f fd ps sp) (hr : Room k X.A.in1) (hb : Binds X.K fd ps []) (hh : X.A.handled = none) (nS : Nw X pins S) (nI : Nw X pins I) (hSI : S ≠ I) (hlI : l ≠ I)
  (hl : ∀ H' s', Same H H' → Inv X pins σ H' s' → s'.heap.IsList l (zs.map fun z => Value.ref z.1).toArray)
  (hsp : ∀ z ∈ zs, ∀ H1, Same H H1 → ∀ (Q : VK) (E : XK), (∀ v H2, Same H1 H2 → KA H2 z.2 v → Q v H2) → sp [.ref z.1] H1 Q E)
include M F hr hb hh nS nI hSI hlI hl hsp
theorem min_first {kw : List (Str × Value)} {R : Result → Shared → Prop} {s : Shared} {oI : Obj} {z : Addr × O.α} (ez : zs[0]? = some z)
    (hR : ∀ z H' s', Bst O zs zs.length z → Same H H' → Inv X pins σ H' s' → R (.ok (.ret (.ref z.1))) s')
    (I1 : Inv X pins σ H s) (hS0 : H S = none) (hI0 : H I = none) (hS : s.heap.get? S = some (seqObj "list" #[] 0)) (hI : s.heap.get? I = some oI) (hit : s.heap.IsListIter I l 0) :
    codeAny (model X.prog X.w) X.A (.builtin "min.loop" ⟨[.ref I, .ref f, .ref S], kw⟩) R s := by
  have hname : (toString "min" ++ toString ".loop" : String) = "min.loop" := by decide
  have W := Walks.list (prog := X.prog) (w := X.w) (A := X.A.in1) hh I l hlI (zs.map fun z => Value.ref z.1).toArray
  have hsz : (zs.map fun z => Value.ref z.1).toArray.size = zs.length := by simp
  have hlt : 0 < zs.length := (List.getElem?_eq_some_iff.mp ez).1
  refine codeAny_builtin PySem.F.entry_min_loop ?_
  rw [Around.under_plainId PySem.F.plain_min_loop _]
  show wpAny _ X.A.in1 (seqItems? (.ref S) >>= _) _ _ _
  refine wpAny_bind (wpAny_seqItems hS rfl ?_)
  show wpAny _ X.A.in1 (tryCatch (pyNext (.ref I)) _ >>= _) _ _ _
  refine wpAny_bind (wpAny_tryCatch (W.item 0 _ _ _ (by rw [hsz]; exact hlt) ⟨hit, hl H s (Same.refl H) I1⟩ fun v h' tk' hP hst' hk' => ?_))
  have I2 : Inv X pins σ H { s with heap := h', toks := tk' } := I1.turned (fun b o hb e => hk' b o (by simpa using hb) e) hI0 nI.loc (.inr nI.new) nI.cel nI.pin
  have hS' := hk' S _ (by simpa using hSI) hS
  obtain ⟨oI', hoI', hoc', hod'⟩ := id hst'.1
  have hv : (zs.map fun z => Value.ref z.1)[0]? = some v := by simpa using hP
  rw [List.getElem?_map, ez] at hv
  cases hv
  show wpAny _ X.A.in1 (tryCatch (holding [.ref z.1] (call (.ref f) [.ref z.1])) _ >>= _) _ _ _
  refine wpAny_bind (wpAny_tryCatch (wpAny_holding (wpAny_mono (mk_call F hr hb nS nI I2 hS0 hI0 hS' hoI' (fun v => nofun) (fun v => by rw [hod']; nofun) (hsp z (List.mem_of_getElem? ez) H (Same.refl H))) (fun u s'' he => ?_) fun _ _ hF => hF.elim)))
  obtain ⟨H2, kv, I3, s2, hS2, hI2, gS2, gI2, hky, rky⟩ := he
  have sb := Heap.SameBut.update s''.heap S (Obj.mapSeq fun _ => #[.ref z.1, u])
  obtain ⟨c2, hc2⟩ : ∃ c2, (s''.heap.update S (Obj.mapSeq fun _ => #[.ref z.1, u])).get? S = some (seqObj "list" #[.ref z.1, u] c2) := ⟨_, get?_update_seq gS2 fun _ => #[.ref z.1, u]⟩
  show wpAny _ X.A.in1 (updateSeq S (fun _ => #[.ref z.1, u]) >>= _) _ _ _
  refine wpAny_bind ?_
  refine wpAny_updateSeq gS2 rfl ?_
  rw [hname]
  have I4 := I3.turned (t' := s''.toks) (h' := s''.heap.update S (Obj.mapSeq fun _ => #[.ref z.1, u])) (fun b o hb e => (sb.2 b hb).trans e) hS2 nS.loc (.inr nS.new) nS.cel nS.pin
  exact wpAny_pure ⟨plainId_quiet PySem.F.plain_min_loop _, min_loop M F hr hb hh nS nI hSI hlI hl hsp hR _ 1 _ H2 z kv u c2 oI' rfl hlt I4 s2 hS2 hI2 hc2 ((sb.2 I hSI.symm).trans gI2) hoc' ⟨oI', (sb.2 I hSI.symm).trans gI2, hoc', hod'⟩ hky rky (bst_one ez)⟩
omit M F hr hb hsp in
theorem min_none {x : Str} {R : Result → Shared → Prop} {s : Shared} {oI : Obj} (ez : zs = [])
    (hR : ∀ s', Inv X pins σ H s' → R (.ok (.ret .none)) s')
    (I1 : Inv X pins σ H s) (hI0 : H I = none) (hS : s.heap.get? S = some (seqObj "list" #[] 0)) (hI : s.heap.get? I = some oI) (hit : s.heap.IsListIter I l 0) :
    codeAny (model X.prog X.w) X.A (.builtin "min.loop" ⟨[.ref I, .ref f, .ref S], [(x, .none)]⟩) R s := by
  have W := Walks.list (prog := X.prog) (w := X.w) (A := X.A.in1) hh I l hlI (zs.map fun z => Value.ref z.1).toArray
  have hsz : (zs.map fun z => Value.ref z.1).toArray.size = 0 := by rw [ez]; rfl
  refine codeAny_builtin PySem.F.entry_min_loop ?_
  rw [Around.under_plainId PySem.F.plain_min_loop _]
  show wpAny _ X.A.in1 (seqItems? (.ref S) >>= _) _ _ _
  refine wpAny_bind (wpAny_seqItems hS rfl ?_)
  show wpAny _ X.A.in1 (tryCatch (pyNext (.ref I)) _ >>= _) _ _ _
  refine wpAny_bind (wpAny_tryCatch (W.done _ _ _ ⟨by rw [hsz]; exact hit, hl H s (Same.refl H) I1⟩ fun h' tk' hk' => ?_))
  have I2 : Inv X pins σ H { s with heap := h', toks := tk' } := I1.turned (fun b o hb e => hk' b o (by simpa using hb) e) hI0 nI.loc (.inr nI.new) nI.cel nI.pin
  refine wpAny_bind (wpAny_rule ?_)
  exact wpAny_pure (hR _ I2)
end
theorem min_args2 (a v d : Value) : argsOk "min" ⟨[a], [(Str.ofString "key", v), (Str.ofString "default", d)]⟩ := by unfold argsOk; kernel_rfl
section
variable {X : Cx} {O : KeyOrd} {KA : Hp → O.α → V → Prop} {pins : List (Addr × Obj)} {σ : St} {H : Hp} {f : Addr} {k : Nat} {fd : FuncData} {ps : List Str} {sp : Sp} {zs : List (Addr × O.α)} {p : Addr} {s : Shared} {Q : VK}

theorem min_run {kws kwl : List (Str × Value)} (M : MKey X O KA) (F : FnOk X.prog X.w X.K X.mg X.base CX0 k f fd ps sp) (hr : Room k X.A.in1) (hb : Binds X.K fd ps []) (hh : X.A.handled = none)
    (ha : argsOk "min" ⟨[.ref p], kws⟩) (hbp : ∃ d : Option Value, Builtin.Builtins.bindParams "min" ["key", "default"] 0 ⟨[], kws⟩ = pure [some (.ref f), d] ∧ kwl = d.toList.map fun d => (Str.ofString "default", d))
    (hd : zs = [] → kwl = [(Str.ofString "default", .none)])
    (I0 : Inv X pins σ H s) (hq : SqL X.K H p (zs.map fun z => V.ref z.1)) (hz : zs.length ≤ 1000)
    (hsp : ∀ z ∈ zs, ∀ H1, Same H H1 → ∀ (Q : VK) (E : XK), (∀ v H2, Same H1 H2 → KA H2 z.2 v → Q v H2) → sp [.ref z.1] H1 Q E)
    (q1 : zs = [] → Q .non H) (q2 : ∀ z H', Bst O zs zs.length z → Same H H' → Q (.ref z.1) H') :
    wpAny (model X.prog X.w) X.A (call (.builtin "min") [.ref p] kws) (EP X pins σ Q) X.xe s := by
  have hname : (toString "min" ++ toString ".loop" : String) = "min.loop" := by decide
  have vr : ∀ {us : List Value}, Vals (zs.map fun z => V.ref z.1) us → us = zs.map fun z => Value.ref z.1 := by
    clear hsp hz hq q1 q2 hd
    induction zs with
    | nil => intro us r; cases r; rfl
    | cons z zs ih =>
      intro us r
      cases r with
      | cons h r =>
        cases h
        rw [ih r]
        rfl
  have hl : ∀ H' s', Same H H' → Inv X pins σ H' s' → s'.heap.IsList p (zs.map fun z => Value.ref z.1).toArray := fun H' s' s1 I' => by
    obtain ⟨its, r', pl, _⟩ := I'.list (s1.seq hq)
    obtain rfl := vr r'
    exact pl.isList
  have hls := hl H s (Same.refl H) I0
  obtain ⟨ol, hol, _⟩ := id hls
  have hll : p < s.heap.objs.size := Heap.lt_size hol
  refine kmk_tree PySem.F.kind_min PySem.F.plain_min PySem.F.entry_min ha ?_
  obtain ⟨d, hbp, rfl⟩ := hbp
  show wpAny _ X.A.in1 (Builtin.Builtins.bindParams "min" ["key", "default"] 0 ⟨[], kws⟩ >>= _) _ _ s
  refine wpAny_bind (wpAny_of_eq hbp ?_)
  refine wpAny_bind (wpAny_pure ?_)
  refine wpAny_bind (wpAny_pyIter_list hls ?_)
  refine wpAny_bind (wpAny_newList ?_ (Nat.zero_le _))
  rw [hname]
  have hS : (s.heap.push { cls := .type "list_iterator", data := .fields #[.ref p, .int 0 0] }).objs.size = s.heap.objs.size + 1 := size_push' ..
  have gI : ((s.heap.push { cls := .type "list_iterator", data := .fields #[.ref p, .int 0 0] }).push (seqObj "list" #[] 0)).get? s.heap.objs.size = some { cls := .type "list_iterator", data := .fields #[.ref p, .int 0 0] } :=
    Heap.get?_push_of_some _ (Heap.get?_push_size _ rfl)
  have gS : ((s.heap.push { cls := .type "list_iterator", data := .fields #[.ref p, .int 0 0] }).push (seqObj "list" #[] 0)).get? (s.heap.push { cls := .type "list_iterator", data := .fields #[.ref p, .int 0 0] }).objs.size = some (seqObj "list" #[] 0) := Heap.get?_push_size _ rfl
  have I1 : Inv X pins σ H { s with heap := (s.heap.push { cls := .type "list_iterator", data := .fields #[.ref p, .int 0 0] }).push (seqObj "list" #[] 0) } := I0.kept (t' := s.toks) fun b o e => Heap.get?_push_of_some _ (Heap.get?_push_of_some _ e)
  rw [hS] at gS
  refine wpAny_pure ⟨plainId_quiet PySem.F.plain_min_loop _, ?_⟩
  rw [hS]
  have hI0 := I0.hok.fresh (Nat.le_refl s.heap.objs.size)
  have hS0 := I0.hok.fresh (Nat.le_succ s.heap.objs.size)
  have nI := nw_of I0 (Nat.le_refl s.heap.objs.size)
  have nS := nw_of I0 (Nat.le_succ s.heap.objs.size)
  have hSI : s.heap.objs.size + 1 ≠ s.heap.objs.size := by omega
  have hlI : p ≠ s.heap.objs.size := Nat.ne_of_lt hll
  cases ez : zs[0]? with
  | none =>
    have e0 : zs = [] := by
      cases zs with
      | nil => rfl
      | cons z zs => simp at ez
    have ed := hd e0
    simp only [Option.getD_some, ed]
    exact min_none hh nS nI hSI hlI hl e0 (fun s' I' => ⟨.non, H, I', rfl, q1 e0⟩) I1 hI0 gS gI ⟨_, gI, rfl, rfl⟩
  | some z =>
    exact min_first M F hr hb hh nS nI hSI hlI hl hsp ez (fun z H' s' b s1 I' => ⟨.ref z.1, H', I', rfl, q2 z H' b s1⟩) I1 hS0 hI0 gS gI ⟨_, gI, rfl, rfl⟩
def twoV (R : V → V → Hp → Prop) : List V → Hp → Prop
  | [w, d], H => R w d H
  | _, _ => False

def tMinD (K : PySem.W.Frag) (O : KeyOrd) (KA : Hp → O.α → V → Prop) (f : Addr) (sp : Sp) (t : TA) (tk td : TE) : TE := fun σ H Q => t σ H fun vs H1 => tk σ H1 fun w H2 => td σ H2 fun d H3 => ∃ (p : Addr) (zs : List (Addr × O.α)), vs = [.ref p] ∧ w = .ref f ∧ d = .non ∧ SqL K H3 p (zs.map fun z => V.ref z.1) ∧ zs.length ≤ 1000 ∧
  (∀ z ∈ zs, ∀ H4, Same H3 H4 → ∀ (Q : VK) (E : XK), (∀ v H5, Same H4 H5 → KA H5 z.2 v → Q v H5) → sp [.ref z.1] H4 Q E) ∧ (zs = [] → Q .non H3) ∧ ∀ z H', Bst O zs zs.length z → Same H3 H' → Q (.ref z.1) H'
theorem pe_minD {p' pos kpos dpos : Pos} {e ke de : Expr} {t : TA} {tk td : TE} (M : MKey X O KA) (F : FnOk X.prog X.w X.K X.mg X.base CX0 k f fd ps sp) (hr : Room k X.A.in1) (hc : X.calm = true) (hb : Binds X.K fd ps []) (hg : Gl X "min") (hm : X.mg "min" = none) (hv : bootBuiltins "min" = some (.builtin "min"))
    (ha : PA X [e] t) (hk : PE X ke tk) (hde : PE X de td) (he : backTo pos (starEach [e] X.env) = (false, eval e X.env) :: backTo pos (starEach [] X.env) := by rfl) (hplain : (backTo pos (starEach [e] X.env)).any (·.1) = false := by rfl)
    (hall : (backToKw pos (keywordEach [⟨some "key", ke, kpos⟩, ⟨some "default", de, dpos⟩] X.env)).all (·.1.isSome) = true := by rfl) (hkw : (backToKw pos (keywordEach [⟨some "key", ke, kpos⟩, ⟨some "default", de, dpos⟩] X.env)).any (·.1.isNone) = false := by rfl)
    (hks : (backToKw pos (keywordEach [⟨some "key", ke, kpos⟩, ⟨some "default", de, dpos⟩] X.env)).filterMap (·.1) = [Str.ofString "key", Str.ofString "default"] := by rfl) : PE X (.Call (.Name "min" p') [e] [⟨some "key", ke, kpos⟩, ⟨some "default", de, dpos⟩] pos) (tMinD X.K O KA f sp t tk td) := by
  intro pins s σ H Q I h
  refine wpAny_Call_Name_kw (ld_blt I hg hm hv ?_ (by decide) (by decide))
  refine callWith_kw (thn (ha pos pins s σ H _ I h) fun us s1 ⟨vs, H1, I1, r1, q1⟩ => ?_) he hplain hall hkw
  have q1' : tCons tk (tCons td tNil) σ H1 (twoV _) := q1
  refine thn (pk_cons (kpos := kpos) (nm := some "key") hk (pk_cons (kpos := dpos) (nm := some "default") hde pk_nil) pos pins s1 σ H1 _ I1 q1') fun ws s2 ⟨xs, H2, I2, rz, q2⟩ => ?_
  rw [hks]
  obtain ⟨w, d, rfl⟩ : ∃ w d, xs = [w, d] := by
    match xs, q2 with
    | [w, d], _ => exact ⟨w, d, rfl⟩
  obtain ⟨u, u2, rfl, ru, ru2⟩ := vals2 rz
  obtain ⟨p', zs, rfl, rfl, rfl, hq, hz, hsp, q3, q4⟩ := q2
  obtain ⟨u', rfl, rx⟩ := vals1 r1
  obtain rfl : u' = .ref p' := rx
  obtain rfl : u = .ref f := ru
  obtain rfl : u2 = .none := ru2
  have fin := min_run (Q := Q) (kwl := [(Str.ofString "default", .none)]) M F hr hb (I2.ok.hd hc) (min_args2 _ _ _) ⟨some .none, rfl, rfl⟩ (fun _ => rfl) I2 hq hz hsp q3 q4
  rw [show [Str.ofString "key", Str.ofString "default"].zip [Value.ref f, Value.none] = [(Str.ofString "key", Value.ref f), (Str.ofString "default", Value.none)] by rfl]
  exact fin

def KaP : Hp → prOrd.α → V → Prop := fun H k v => ∃ q, v = .ref q ∧ PrA H (q, k)
theorem mkey_pr (hu : X.A.units + 16 < cLine) : MKey X prOrd KaP where
  same := fun s ⟨q, e, h⟩ => ⟨q, e, PrA.tsame h s.tups⟩
  cmp := by
    intro pins σ H s I k k' v v' u u' h h' r r' Q E hq
    obtain ⟨q, rfl, p⟩ := h
    obtain ⟨q', rfl, p'⟩ := h'
    obtain rfl : u = .ref q := r
    obtain rfl : u' = .ref q' := r'
    exact lt_prs (by show X.A.units + 1 + 8 < _; omega) (pra_is I p) (pra_is I p') hq

end
end L2
namespace L2
open PySem PySem.Spec PyProof.Rows

section
variable {X : Cx}
def tCutT (t : TT) : TT := fun σ H Q => ∃ M : Bool → Hp → Prop, t σ H M ∧ ∀ b H', M b H' → Q b H'
theorem pt_cut {e : Expr} {t : TT} (h : PT X e t) : PT X e (tCutT t) := by
  intro pins s σ H Q I ⟨M, h1, h2⟩
  exact thn (h pins s σ H M I h1) fun b s' ⟨H', I', m⟩ => ⟨H', I', h2 b H' m⟩

def rCatA (K : PySem.W.Frag) : R2 := fun x y H Q => ∃ a b xs ys, x = .ref a ∧ y = .ref b ∧ H a = some (.tup xs) ∧ H b = some (.tup ys) ∧ xs.length + ys.length ≤ sizeLine ∧ ∀ p H', Same H H' → H' p = some (.tup (xs ++ ys)) → Q (.ref p) H'
theorem op_catA : OpR X (binaryOp .Add) (rCatA X.K) := by
  intro pins s σ H x y v u Q I rx ry h
  obtain ⟨a, b, xs, ys, rfl, rfl, ha, hb, hz, q⟩ := h
  by_cases hx : xs = []
  · subst hx
    exact op_cat0 pins s σ H _ _ v u Q I rx ry ⟨a, b, ys, rfl, rfl, SqT.of ha, SqT.of hb, q b H (Same.refl H) hb⟩
  · exact op_cat1 pins s σ H _ _ v u Q I rx ry ⟨a, b, xs, ys, rfl, rfl, ha, SqT.of hb, hx, hz, q⟩
end
end L2
namespace L2
open PySem PySem.Spec PyProof.Rows


section
variable {X : Cx}

def rCatL (K : PySem.W.Frag) : R2 := fun x y H Q => ∃ l b xs zs, x = .ref l ∧ y = .ref b ∧ SqL K H l xs ∧ SqL K H b zs ∧ xs.length + zs.length ≤ sizeLine ∧ ∀ p, H p = none → Q (.ref p) (upd H p (.lst (xs ++ zs)))
theorem op_catL : OpR X (binaryOp .Add) (rCatL X.K) := by
  intro pins s σ H x y v u Q I rx ry h
  obtain ⟨l, b, xs, zs, rfl, rfl, ha, hb, hz, q⟩ := h
  cases rx
  cases ry
  obtain ⟨us, ru, pu, _⟩ := I.list ha
  obtain ⟨ws, rw', pw, _⟩ := I.list hb
  have l1 := ru.length
  have l2 := rw'.length
  obtain ⟨⟨cls, dd, data, sl⟩, n, ho, hc, hdd, hd⟩ := id pu
  obtain ⟨⟨cls2, dd2, data2, sl2⟩, n2, ho2, hc2, hdd2, hd2⟩ := id pw
  simp only at hc hd hc2 hd2
  subst hc hd hc2 hd2
  have st := list_addW l b us.toArray ws.toArray n n2 dd dd2 sl sl2 (by rw [List.size_toArray, List.size_toArray]; omega)
  refine concat_meets ⟨_, ho, rfl⟩ ⟨_, ho2, rfl⟩ noFill_list_add seq_list_add PySem.F.slot_list_add PySem.F.entry_list_add (PySem.F.args_list_add_2 _ _) st ⟨ho, ho2, ?_⟩
  have ea : us.toArray ++ ws.toArray = (us ++ ws).toArray := by simp
  rw [ea]
  exact ⟨.ref _, _, I.lnew (t' := s.toks) (ru.append rw') (by rw [List.length_append]; omega), rfl, q _ I.fresh⟩
end

end L2
namespace L2
open PySem PySem.Spec PyProof.Rows

def SqB (K : PySem.W.Frag) (kd : Bool) (H : Hp) (a : Addr) (xs : List V) : Prop := if kd = true then SqL K H a xs else SqT K H a xs
def hoB (kd : Bool) (xs : List V) : HO := if kd = true then .lst xs else .tup xs
theorem SqB.of {K : PySem.W.Frag} {kd : Bool} {H : Hp} {a : Addr} {xs : List V} (h : H a = some (hoB kd xs)) : SqB K kd H a xs := by
  cases kd with
  | true => exact (SqL.of h : SqL K H a xs)
  | false => exact (SqT.of h : SqT K H a xs)
def ItB (K : PySem.W.Frag) (kd : Bool) (a : Addr) : It := if kd = true then Itl K a else Itt K a
section
variable {X : Cx}
def rIxB (K : PySem.W.Frag) : R2 := fun x y H Q => ∃ p xs i v, x = .ref p ∧ y = .int i ∧ (SqL K H p xs ∨ SqT K H p xs) ∧ atI xs i = some v ∧ Q v H
theorem ix_both : IxR X (rIxB X.K) := by
  intro value slice pins s σ H x y v u Q I rx ry h hs
  obtain ⟨p, xs, i, z, rfl, rfl, hq, he, q⟩ := h
  rcases hq with hq | hq
  · exact ix_list value slice pins s σ H _ _ v u Q I rx ry ⟨p, xs, i, z, rfl, rfl, hq, he, q⟩ hs
  · exact ix_tup value slice pins s σ H _ _ v u Q I rx ry ⟨p, xs, i, z, rfl, rfl, hq, he, q⟩ hs
def iSeq (K : PySem.W.Frag) (tl : TE) : TI := fun σ H R => tl σ H fun x H1 => ∃ a kd, x = .ref a ∧ (∃ xs, SqB K kd H1 a xs) ∧ R (ItB K kd a) H1
theorem pi_seq {tg l : Expr} {tl : TE} (hl : PE X l tl) : PI X tg l (iSeq X.K tl) := by
  intro pins s σ H R I h
  refine thn (hl pins s σ H _ I h) fun v s1 ⟨x, H1, I1, r1, q1⟩ => ?_
  obtain ⟨a, kd, e, ⟨xs, hq⟩, q⟩ := q1
  subst e
  cases r1
  cases kd with
  | true =>
    obtain ⟨its, rv, p, hz⟩ := I1.list (show SqL X.K H1 a xs from hq)
    refine wpAny_pyIter_list p.isList ?_
    refine ⟨s1.heap.objs.size, [s1.heap.objs.size], _, _, H1, rfl, I1.kept (t' := s1.toks) fun b o e => Heap.get?_push_of_some _ e, turn_list a _, ⟨_, Heap.get?_push_size _ rfl, rfl, rfl⟩, fun b hb => ?_, q⟩
    have e : b = s1.heap.objs.size := by simpa using hb
    subst e
    exact I1.fpOk (Nat.le_refl _) (I1.hok.fresh (Nat.le_refl _))
  | false =>
    obtain ⟨its, rv, p, hz⟩ := I1.tuple (show SqT X.K H1 a xs from hq)
    refine wpAny_pyIter_tuple (show s1.heap.IsTuple a its.toArray from p) ?_
    refine ⟨s1.heap.objs.size, [s1.heap.objs.size], _, _, H1, rfl, I1.kept (t' := s1.toks) fun b o e => Heap.get?_push_of_some _ e, turn_tuple a _, ⟨_, Heap.get?_push_size _ rfl, rfl, rfl⟩, fun b hb => ?_, q⟩
    have e : b = s1.heap.objs.size := by simpa using hb
    subst e
    exact I1.fpOk (Nat.le_refl _) (I1.hok.fresh (Nat.le_refl _))

def rCatB (K : PySem.W.Frag) : R2 := fun x y H Q => ∃ a b xs ys kd, x = .ref a ∧ y = .ref b ∧ H a = some (hoB kd xs) ∧ H b = some (hoB kd ys) ∧ xs.length + ys.length ≤ sizeLine ∧ ∀ p H', Same H H' → H' p = some (hoB kd (xs ++ ys)) → Q (.ref p) H'
theorem op_catB : OpR X (binaryOp .Add) (rCatB X.K) := by
  intro pins s σ H x y v u Q I rx ry h
  obtain ⟨a, b, xs, ys, kd, rfl, rfl, ha, hb, hz, q⟩ := h
  cases kd with
  | true => exact op_catL pins s σ H _ _ v u Q I rx ry ⟨a, b, xs, ys, rfl, rfl, SqL.of ha, SqL.of hb, hz, fun p hp => q p _ ((Same.refl H).upd_free hp) upd_same⟩
  | false => exact op_catA pins s σ H _ _ v u Q I rx ry ⟨a, b, xs, ys, rfl, rfl, ha, hb, hz, fun p H' s' hp => q p H' s' hp⟩
end
theorem for_seq {K : PySem.W.Frag} {kd : Bool} {a : Addr} {xs : List V} {g : TG} {tb : TS} {D : Ends} {σ : St} {H : Hp} (Pv : Nat → St → Hp → Prop) (h0 : Pv 0 σ H) (hl : ∀ i σ H, i ≤ xs.length → Pv i σ H → SqB K kd H a xs)
    (hs : ∀ i x σ H, xs[i]? = some x → Pv i σ H → g x σ H fun σ2 H2 => tb { D with nx := Pv (i + 1), ct := Pv (i + 1), bk := D.nx } σ2 H2) (hd : ∀ σ H, Pv xs.length σ H → D.nx σ H) :
    ∃ W : Nat → Nat → St → Hp → Prop, (∃ m, W 0 m σ H) ∧ ∀ i m σ H, W i m σ H →
      ((ItB K kd a).stop i H ∧ D.nx σ H) ∨ ((ItB K kd a).go i H ∧ ∃ N : St → Hp → Prop, (∀ σ' H', N σ' H' → ∃ m', m' < m ∧ W (i + 1) m' σ' H') ∧ ∀ x H', (ItB K kd a).yld i H x H' → g x σ H' fun σ2 H2 => tb { D with nx := N, ct := N, bk := D.nx } σ2 H2) := by
  cases kd with
  | true => exact for_list Pv h0 hl hs hd
  | false => exact for_tup Pv h0 hl hs hd
end L2
namespace HT
open PySem PySem.Spec PyProof.Rows
section
variable {prog : Program} {w : World} {A : Around} {E : Value → Shared → Prop} {s : Shared}
theorem getItem_tuple_whole {t sl : Addr} {items : Array Value} {vl vu : Value} {lo hi : Option Int} {Q : Value → Shared → Prop} (ht : IsTup s.heap t items) (hs : s.heap.IsSliceOf sl vl vu .none) (pl : IsPart vl lo) (pu : IsPart vu hi)
    (h1 : sIx items.size 0 lo = 0) (h2 : sIx items.size items.size hi = items.size) (h : Q (.ref t) s) : wpAny (model prog w) A (getItem (.ref t) (.ref sl)) Q E s := by
  obtain ⟨os, hos, hcs, hds⟩ := id hs
  have hTs : s.TypeIs (.ref sl) "slice" := ⟨os, hos, hcs⟩
  unfold getItem
  try with_reducible refine wpAny_holding ?_
  first | refine wpAny_bind (wpAny_pure ?_) | skip
  refine wpAny_bind (wpAny_sequenceKey ht.typeIs (by decide) ?_)
  refine wpAny_bind (wpAny_callSpecial?_slot (name := Str.ofString "__getitem__") ht.typeIs PyProof.Rows.slot_tuple_getitem
    (wpAny_call_entry PyProof.Rows.slot_tuple_getitem ht.typeIs entry_tuple_getitem ?_ (args_tuple_getitem _ _)))
  show wpAny _ _ (Builtin.Tuple.tupleItemsOf (.ref t) >>= _) _ _ s
  refine wpAny_bind (tupleItemsOf_ ht ?_)
  refine wpAny_bind (wpAny_typeOf hTs ?_)
  rw [if_pos (by decide)]
  refine wpAny_bind (sliceApplied_gen hs pl pu ?_)
  have hyes : (((sIx items.size 0 lo : Nat) : Int) == 0 && (1 : Int) == 1 && (sIx items.size items.size hi - sIx items.size 0 lo) == items.size) = true := by
    rw [h1, h2]
    simp
  show wpAny _ _ (if (((sIx items.size 0 lo : Nat) : Int) == 0 && (1 : Int) == 1 && (sIx items.size items.size hi - sIx items.size 0 lo) == items.size) = true then _ else _) _ _ s
  rw [if_pos hyes]
  show wpAny _ _ (Builtin.Tuple.tupleIsExact (.ref t) >>= _) _ _ s
  refine wpAny_bind (wpAny_bind (wpAny_typeOf ht.typeIs (wpAny_pure ?_)))
  rw [if_pos (by decide)]
  refine wpAny_bind (wpAny_rule (wpAny_bind (wpAny_pure (wpAny_pure ⟨_, rfl, wpAny_pure h⟩))))
end
end HT
namespace L2
open PySem PySem.Spec PyProof.Rows

def rSlA : V → Option Int → Option Int → Hp → VK → Prop := fun x lo hi H Q => ∃ a xs, x = .ref a ∧ H a = some (.tup xs) ∧ ∀ p H', Same H H' → H' p = some (.tup (cutV xs lo hi)) → Q (.ref p) H'
theorem sl_tupA {X : Cx} : SlR X rSlA := by
  intro pins s σ H x v vl vu lo hi sl Q I rx hs pl pu h
  obtain ⟨a, xs, rfl, hx, q⟩ := h
  by_cases hw : HT.sIx xs.length 0 lo = 0 ∧ HT.sIx xs.length xs.length hi = xs.length
  · cases rx
    obtain ⟨its, r, ht, hz⟩ := I.tuple (SqT.of hx)
    have hlen : its.toArray.size = xs.length := by rw [List.size_toArray]; exact r.length.symm
    refine ⟨"tuple", _, PyProof.Rows.slot_tuple_getitem.lookup, ht.typeIs, ?_⟩
    refine HT.getItem_tuple_whole ht hs pl pu (by rw [hlen]; exact hw.1) (by rw [hlen]; exact hw.2) ⟨.ref a, H, I, rfl, q a H (Same.refl H) ?_⟩
    have e : cutV xs lo hi = xs := by
      unfold cutV
      rw [hw.1, hw.2, List.drop_zero, Nat.sub_zero, List.take_length]
    rw [e]
    exact hx
  · exact sl_tup pins s σ H _ v vl vu lo hi sl Q I rx hs pl pu ⟨a, xs, rfl, SqT.of hx, hw, fun p hp => q p _ ((Same.refl H).upd_free hp) upd_same⟩
end L2
namespace L2
open PySem PySem.Spec PyProof.Rows

section
variable {X : Cx}
theorem call_rng1 : CallR X (.type "range") (fun xs H Q => ∃ j : Int, xs = [.int j] ∧ ∀ a, H a = none → Q (.ref a) (upd H a (.rng 0 j))) := by
  intro pins s σ H xs us Q I r h
  obtain ⟨j, rfl, q⟩ := h
  obtain ⟨u, rfl, rx⟩ := vals1 r
  obtain ⟨t, rfl⟩ := rx
  refine call_range_1 ⟨.ref s.heap.objs.size, _, I.laid (t' := s.toks + 1 + 1) (o := .rng 0 j) (fun b o e => Heap.get?_push_of_some _ e) (Nat.le_refl _) ⟨_, _, _, Heap.get?_push_size _ rfl⟩, rfl, q _ (I.hok.fresh (Nat.le_refl _))⟩
def rangeI (lo : Int) (n : Nat) : List Int := (List.range n).map fun (i : Nat) => lo + (i : Int)
theorem items_vals {lo : Int} : ∀ (n : Nat) (us : List Value), us.length = n → (∀ (i : Nat) (v : Value), us[i]? = some v → ∃ t, v = .int (lo + (i : Int)) t) → Vals ((rangeI lo n).map V.int) us := by
  intro n
  induction n generalizing lo with
  | zero =>
    intro us hl _
    have : us = [] := List.length_eq_zero_iff.mp hl
    subst this
    exact .nil
  | succ n ih =>
    intro us hl h
    cases us with
    | nil => simp at hl
    | cons u us =>
      obtain ⟨t, rfl⟩ := h 0 u rfl
      have e : rangeI lo (n + 1) = (lo + ((0 : Nat) : Int)) :: rangeI (lo + 1) n := by
        unfold rangeI
        rw [List.range_succ_eq_map, List.map_cons, List.map_map]
        congr 1
        apply List.map_congr_left
        intro i _
        show lo + ((Nat.succ i : Nat) : Int) = lo + 1 + (i : Int)
        omega
      rw [e, List.map_cons]
      refine .cons ⟨t, rfl⟩ (ih us (by simpa using hl) fun i v hv => ?_)
      obtain ⟨t', rfl⟩ := h (i + 1) v (by simpa using hv)
      exact ⟨t', by congr 1; omega⟩
theorem call_list_rng (hc : X.calm = true) : CallR X (.type "list") (fun xs H Q => ∃ (p : Addr) (lo hi : Int), xs = [.ref p] ∧ H p = some (.rng lo hi) ∧ -(2 ^ 62) ≤ lo ∧ lo < 2 ^ 62 ∧ -(2 ^ 62) ≤ hi ∧ hi < 2 ^ 62 ∧ (hi - lo).toNat ≤ 1000 ∧ ∀ l, H l = none → Q (.ref l) (upd H l (.lst ((rangeI lo (hi - lo).toNat).map V.int)))) := by
  intro pins s σ H xs us Q I r h
  obtain ⟨p, lo, hi, rfl, hp, l0, l1, h0, h1, hn, q⟩ := h
  obtain ⟨u, rfl, rx⟩ := vals1 r
  cases rx
  obtain ⟨t, u, v, ho⟩ := show ∃ t u v, s.heap.get? p = some { cls := .type "range", data := .fields #[.int lo t, .int hi u, .int 1 v] } from I.hok _ _ hp
  refine call_list_range (n := (hi - lo).toNat) (I.ok.hd hc) ho (small_one l0 l1 h0 h1) (by rw [rangeSize_one]; split <;> omega) (by omega) fun h' tk acc' c' hk hS hI => ?_
  refine ⟨.ref s.heap.objs.size, _, I.laid (t' := tk) hk (Nat.le_refl _) (show ObjOk X.prog X.w _ h' _ (.lst ((rangeI lo (hi - lo).toNat).map V.int)) from ⟨?_, acc'.toList, c', ?_, ?_⟩), rfl, q _ (I.hok.fresh (Nat.le_refl _))⟩
  · unfold rangeI
    rw [List.length_map, List.length_map, List.length_range]
    exact Nat.le_of_lt (small1000 hn)
  · refine items_vals _ _ (by rw [Array.length_toList]; exact hI.1) fun i v hv => ?_
    obtain ⟨t, rfl⟩ := hI.2 i v (by simpa using hv)
    exact ⟨t, by rw [Int.mul_one]⟩
  · rw [Array.toArray_toList]
    exact hS
end
end L2
namespace K20
open PySem L2

abbrev Rms := List (Bool × List Int)
def nextOf (rs : Rms) (h l : Int) : Int := ((rs.getD h.toNat (false, [])).2).getD l.toNat 0
def walkM (rs : Rms) (h : Int) (run : List Int) : Int := run.foldl (nextOf rs) h
structure Good (many : Int) (rs : Rms) : Prop where
  mn : 0 ≤ many ∧ many ≤ 8
  pos : 0 < rs.length
  le : rs.length ≤ 100
  row : ∀ r ∈ rs, (r.2.length : Int) = many ∧ ∀ n ∈ r.2, 0 ≤ n ∧ n < (rs.length : Int)
theorem getD_of {α : Type} {l : List α} {i : Nat} {x d : α} (h : l[i]? = some x) : l.getD i d = x := by simp [List.getD, h]
theorem some_at {α : Type} (l : List α) (i : Int) (h0 : 0 ≤ i) (h : i < (l.length : Int)) : ∃ x, l[i.toNat]? = some x := by
  have h' : i.toNat < l.length := by omega
  exact ⟨l[i.toNat], by simp [h']⟩
theorem next_in {many : Int} {rs : Rms} (G : Good many rs) {h l : Int} (h0 : 0 ≤ h) (h1 : h < rs.length) (l0 : 0 ≤ l) (l1 : l < many) : 0 ≤ nextOf rs h l ∧ nextOf rs h l < (rs.length : Int) := by
  obtain ⟨r, er⟩ := some_at rs h h0 h1
  have hr := G.row r (List.mem_of_getElem? er)
  obtain ⟨n, en⟩ := some_at r.2 l l0 (by rw [hr.1]; exact l1)
  unfold nextOf
  rw [getD_of er, getD_of en]
  exact hr.2 n (List.mem_of_getElem? en)
theorem walk_in {many : Int} {rs : Rms} (G : Good many rs) : ∀ (run : List Int) (h : Int), 0 ≤ h → h < rs.length → (∀ l ∈ run, 0 ≤ l ∧ l < many) → 0 ≤ walkM rs h run ∧ walkM rs h run < (rs.length : Int)
  | [], h, h0, h1, _ => ⟨h0, h1⟩
  | l :: run, h, h0, h1, hl => by
    have hx := hl l List.mem_cons_self
    have q := next_in G h0 h1 hx.1 hx.2
    exact walk_in G run _ q.1 q.2 fun l' h' => hl l' (List.mem_cons_of_mem _ h')
theorem walk_take (rs : Rms) (h : Int) (run : List Int) (i : Nat) (l : Int) (e : run[i]? = some l) : walkM rs h (run.take (i + 1)) = nextOf rs (walkM rs h (run.take i)) l := by
  unfold walkM
  rw [List.take_add_one, e, List.foldl_append]
  rfl

end K20

namespace BG
open PySem L2 SO K20
structure Txt (mg : Str → Option Value) : Prop where
  len : mg "len" = none
  range : mg "range" = none
  tuple : mg "tuple" = none
  list : mg "list" = none
  sorted : mg "sorted" = none
  isin : mg "isinstance" = none
  int : mg "int" = none
  bool : mg "bool" = none
  max : mg "max" = none
  min : mg "min" = none
theorem atI_some {α : Type} (l : List α) (i : Int) (h0 : 0 ≤ i) (h : i < (l.length : Int)) : ∃ x, x ∈ l ∧ atI l i = some x ∧ l[i.toNat]? = some x := by
  obtain ⟨x, e⟩ := some_at l i h0 h
  refine ⟨x, List.mem_of_getElem? e, ?_, e⟩
  have z : i = ((i.toNat : Nat) : Int) := by omega
  rw [z]
  exact atI_nat e

abbrev RA (H : Hp) (t : Addr) (ns : List Int) : Prop := H t = some (.tup (ns.map V.int))

def cellM (ns : List Int) (k : Int) : Int := if k < ns.length then ns.getD k.toNat 0 else ((ns ++ [0]).getD 0 0 % 1000003 + 17) * (k * k + 30011) % 2147483647

def RwS (H : Hp) (qs : List Addr) (rs : Rms) : Prop := qs.length = rs.length ∧ ∀ (i : Nat) (r : Bool × List Int), rs[i]? = some r → ∃ q z, qs[i]? = some q ∧ H q = some (.tup [.bl r.1, .ref z]) ∧ (H z = some (.lst (r.2.map V.int)) ∨ H z = some (.tup (r.2.map V.int)))
def RmS (H : Hp) (r : Addr) (rs : Rms) : Prop := ∃ qs, (H r = some (.lst (qs.map V.ref)) ∨ H r = some (.tup (qs.map V.ref))) ∧ RwS H qs rs
theorem RwS.same {H H' : Hp} {qs : List Addr} {rs : Rms} (h : RwS H qs rs) (s : Same H H') : RwS H' qs rs := ⟨h.1, fun i r e => by
  obtain ⟨q, z, h1, h2, h3⟩ := h.2 i r e
  exact ⟨q, z, h1, s _ _ h2, h3.imp (s _ _) (s _ _)⟩⟩
theorem RmS.same {H H' : Hp} {r : Addr} {rs : Rms} (h : RmS H r rs) (s : Same H H') : RmS H' r rs := by
  obtain ⟨qs, h1, h2⟩ := h
  exact ⟨qs, h1.imp (s _ _) (s _ _), h2.same s⟩
theorem sq_or {K : PySem.W.Frag} {H : Hp} {a : Addr} {xs : List V} (h : H a = some (.lst xs) ∨ H a = some (.tup xs)) : SqL K H a xs ∨ SqT K H a xs := h.imp SqL.of SqT.of

def gdw (rs : Rms) (ns : List Int) : Bool := (rs.getD (walkM rs 0 ns).toNat (false, [])).1
section
variable {P : Program} {w : World} {K : PySem.W.Frag} {mg : Str → Option Value} {base : Heap}

def spRo : Sp := fun vs H Q _ => ∃ (t : Addr) (ns : List Int), vs = [.ref t] ∧ RA H t ns ∧ ns.length ≤ 1000 ∧ ∀ (q : Addr) (H' : Hp), Same H H' → PrA H' (q, ((ns.length : Int), ns)) → Q (.ref q) H'
theorem scRo : FnScope ["run"] ["run"] (defScope sRo) := ⟨rfl, rfl, rfl, by decide +kernel, rfl, by decide +kernel, by decide +kernel⟩
theorem ok_ro {f : Addr} {fd : FuncData} (F : Fun K "run_order" "run_order" sRo f fd) (T : Txt mg) : FnOk P w K mg base CX0 1 f fd ["run"] spRo := by
  refine F.ok scRo (fun vs H Q E h => ?_) (fun cdv A outer s H vs Q E hr h => ?_)
  · obtain ⟨t, ns, rfl, _⟩ := h
    rfl
  · obtain ⟨t, ns, rfl, ht, hn, k⟩ := h
    refine ⟨_, pss_one (ps_ret (pe_tup (pa_cons (pe_callB call_len_seq (by rfl) T.len PySem.boot_len (pa_cons (pv 0) pa_nil)) (pa_cons (pv 0) pa_nil)))), ?_⟩
    refine ⟨_, rfl, t, _, rfl, .inr (SqT.of ht), ?_⟩
    refine ⟨_, rfl, (by show 2 ≤ sizeLine; decide), fun p hp => ?_⟩
    have s1 : Same H (upd H p (.tup [.int ((ns.map V.int).length : Int), .ref t])) := (Same.refl H).upd_free hp
    refine k p _ s1 ⟨t, ?_, s1 _ _ ht⟩
    show upd H p _ p = _
    rw [upd_same, List.length_map]

def spCe (K : PySem.W.Frag) : Sp := fun vs H Q _ => ∃ (a : Addr) (ns : List Int) (k : Int), vs = [.ref a, .int k] ∧ SqL K H a (ns.map V.int) ∧ ns.length ≤ 1000 ∧ 0 ≤ k ∧ k ≤ 2000 ∧ ∀ (H' : Hp), Same H H' → Q (.int (cellM ns k)) H'
theorem scCe : FnScope ["_law_script", "_law_k"] ["_law_script", "_law_k"] (defScope sCe) := ⟨rfl, rfl, rfl, by decide +kernel, rfl, by decide +kernel, by decide +kernel⟩
theorem ok_ce {f : Addr} {fd : FuncData} (F : Fun K "_law_cell_at" "_law_cell_at" sCe f fd) (T : Txt mg) : FnOk P w K mg base CX0 1 f fd ["_law_script", "_law_k"] (spCe K) := by
  refine F.ok scCe (fun vs H Q E h => ?_) (fun cdv A outer s H vs Q E hr h => ?_)
  · obtain ⟨a, ns, k, rfl, _⟩ := h
    rfl
  · obtain ⟨a, ns, k, rfl, hS, hln, k0, k1, kk⟩ := h
    refine ⟨_, pss_cons (ps_if (pt_cmpR op_lt (pv 1) (pe_callB call_len_seq (by rfl) T.len PySem.boot_len (pa_cons (pv 0) pa_nil)) (nomark _)) (pss_one (ps_ret (pe_ix ix_list (pv 0) (pv 1) (fun _ _ => rfl)))) pss_nil)
      (pss_one (ps_ret (pe_op op_mod (pe_op op_mul (pe_op op_add (pe_op op_mod (pe_ix ix_list (pe_op op_catL (pv 0) (pe_lst (pa_cons pe_int pa_nil))) pe_int (fun _ _ => rfl)) pe_int) pe_int) (pe_op op_add (pe_op op_mul (pv 1) (pv 1)) pe_int)) pe_int))), ?_⟩
    refine ⟨_, rfl, _, rfl, a, _, rfl, .inl hS, _, _, rfl, rfl, _, rfl, ?_⟩
    refine ite2 (fun hlt => ?_) (fun hge => ?_)
    · have hlt' : k < ((ns.map V.int).length : Int) := of_decide_eq_true hlt
      rw [List.length_map] at hlt'
      obtain ⟨x, hx, _, ex⟩ := atI_some ns k k0 hlt'
      have ec : cellM ns k = x := by
        unfold cellM
        rw [if_pos hlt', getD_of ex]
      refine ⟨_, rfl, _, rfl, a, _, _, .int x, rfl, rfl, hS, atI_int k0 (by rw [List.getElem?_map, ex]; rfl), ?_⟩
      have := kk H (Same.refl H)
      rw [ec] at this
      exact this
    · have hge' : ¬ k < (ns.length : Int) := fun q => hge (decide_eq_true (by rw [List.length_map]; exact q))
      refine ⟨_, rfl, (by show 1 ≤ sizeLine; decide), fun l hl => ?_⟩
      have s1 : Same H (upd H l (.lst [.int 0])) := (Same.refl H).upd_free hl
      refine ⟨a, l, _, _, rfl, rfl, s1.seq hS, SqL.of upd_same, ?_, fun p hp => ?_⟩
      · rw [List.length_map]
        exact Nat.le_of_lt (small9 (by show ns.length + 1 ≤ 100000; omega))
      have s2 : Same H (upd (upd H l (.lst [.int 0])) p (.lst (ns.map V.int ++ [.int 0]))) := s1.upd_free (s1.free hp)
      obtain ⟨x, hx, _, ex⟩ := atI_some (ns ++ [0]) 0 (Int.le_refl 0) (by simp)
      have e0 : ns.map V.int ++ [V.int 0] = (ns ++ [0]).map V.int := by simp
      have ec : cellM ns k = (x % 1000003 + 17) * (k * k + 30011) % 2147483647 := by
        unfold cellM
        rw [if_neg hge', getD_of (show (ns ++ [0])[0]? = some x from ex)]
      have fin := kk _ s2
      rw [ec] at fin
      refine ⟨p, _, _, .int x, rfl, rfl, SqL.of upd_same, ?_, _, _, rfl, rfl, (by show (0 : Int) < 1000003; decide), _, _, rfl, rfl, _, rfl, _, rfl, _, _, rfl, rfl, .inl ⟨by omega, by omega⟩, _, _, rfl, rfl, _, _, rfl, rfl, .inl ⟨by omega, by omega⟩, _, _, rfl, rfl, (by show (0 : Int) < 2147483647; decide), fin⟩
      rw [e0]
      exact atI_int (Int.le_refl 0) (by rw [List.getElem?_map, ex]; rfl)

def spPk : Sp := fun vs H Q _ => ∃ c k many : Int, vs = [.int c, .int k, .int many] ∧ 0 ≤ k ∧ k ≤ 2000 ∧ 0 < many ∧ ∀ z : Int, 0 ≤ z → z < many → Q (.int z) H
theorem scPk : FnScope ["_law_cell", "_law_k", "_law_many"] ["_law_cell", "_law_k", "_law_many"] (defScope sPk) := ⟨rfl, rfl, rfl, by decide +kernel, rfl, by decide +kernel, by decide +kernel⟩
theorem ok_pk {f : Addr} {fd : FuncData} (F : Fun K "_law_pick" "_law_pick" sPk f fd) : FnOk P w K mg base CX0 1 f fd ["_law_cell", "_law_k", "_law_many"] spPk := by
  refine F.ok scPk (fun vs H Q E h => ?_) (fun cdv A outer s H vs Q E hr h => ?_)
  · obtain ⟨c, k, many, rfl, _⟩ := h
    rfl
  · obtain ⟨c, k, many, rfl, k0, k1, m0, kk⟩ := h
    have p0 : 0 ≤ k * k := Int.mul_nonneg k0 k0
    have p1 : k * k ≤ 2000 * 2000 := Int.mul_le_mul k1 k1 k0 (by decide)
    have p2 : 0 ≤ k * k * k := Int.mul_nonneg p0 k0
    have p3 : k * k * k ≤ 2000 * 2000 * 2000 := Int.mul_le_mul p1 k1 k0 (by decide)
    refine ⟨_, pss_one (ps_ret (pe_op op_mod (pe_op op_mod (pe_op op_mul (pe_op op_add (pe_op op_mod (pv 0) pe_int) pe_int) (pe_op op_add (pe_op op_mul (pe_op op_mul (pv 1) (pv 1)) (pv 1)) pe_int)) pe_int) (pv 2))), ?_⟩
    refine ⟨_, rfl, _, _, rfl, rfl, (by show (0 : Int) < 1000003; decide), _, _, rfl, rfl, _, rfl, _, rfl, _, _, rfl, rfl, .inl ⟨by omega, by omega⟩, _, rfl, _, _, rfl, rfl, .inl ⟨by omega, by omega⟩, _, _, rfl, rfl, _, _, rfl, rfl, .inl ⟨by omega, by omega⟩, _, _, rfl, rfl, (by show (0 : Int) < 65537; decide), _, rfl, _, _, rfl, rfl, m0, ?_⟩
    exact kk _ (Int.emod_nonneg _ (by omega)) (Int.emod_lt_of_pos _ m0)

def spHi : Sp := fun vs H Q _ => ∃ c many size : Int, vs = [.int c, .int many, .int size] ∧ 0 ≤ many ∧ many ≤ 8 ∧ 1 ≤ size ∧ size ≤ 5 ∧ ∀ (r : Addr) (rs : Rms) (H' : Hp), Same H H' → RmS H' r rs → Good many rs → (rs.length : Int) = size → Q (.ref r) H'
abbrev nHi : List Str := ["_law_cell", "_law_many", "_law_size", "_law_rooms", "_law_room", "_law_nexts"]
theorem scHi : FnScope nHi ["_law_cell", "_law_many", "_law_size"] (defScope sHi) := ⟨rfl, rfl, rfl, by decide +kernel, rfl, by decide +kernel, by decide +kernel⟩
def scopeHi : Scope := { kind := .function, names := [(".0", .local), ("_law_letter", .local), ("_law_pick", .globalImplicit), ("_law_cell", .free), ("_law_room", .free), ("_law_size", .free)], isGenerator := false, isCoroutine := false, more := [] }
theorem scHb : BlkScope (defScope sHi) nHi ["_law_letter"] ["_law_cell", "_law_room", "_law_size"] [0, 4, 2] scopeHi := ⟨rfl, by decide +kernel, by decide +kernel, by decide +kernel, rfl, by decide +kernel, by decide +kernel⟩
theorem ok_hi {f fP : Addr} {fd fdP : FuncData} (F : Fun K "_law_hidden" "_law_hidden" sHi f fd) (T : Txt mg) (FP : Fun K "_law_pick" "_law_pick" sPk fP fdP) (bP : Binds K fdP ["_law_cell", "_law_k", "_law_many"] []) (gP : mg "_law_pick" = some (.ref fP)) :
    FnOk P w K mg base CX0 2 f fd ["_law_cell", "_law_many", "_law_size"] spHi := by
  have GP : FnOk P w K mg base CX0 1 fP fdP ["_law_cell", "_law_k", "_law_many"] spPk := ok_pk FP
  refine F.ok scHi (fun vs H Q E h => ?_) (fun cdv A outer s H vs Q E hr h => ?_)
  · obtain ⟨c, many, size, rfl, _⟩ := h
    rfl
  · obtain ⟨c, many, size, rfl, m0, m1, z0, z1, k⟩ := h
    refine ⟨_, pss_cons (ps_set (i := 3) scHi.nd rfl (Or.inl rfl) (pe_lst pa_nil))
      (pss_cons (ps_for PassesOwn.never rfl (pi_range1 rfl T.range (pa_cons (pv 2) pa_nil)) (pg_name (i := 4) scHi.nd rfl (Or.inr rfl))
        (pss_cons (ps_setlc (i := 5) scHb rfl rfl rfl (pi_range1 rfl T.range (pa_cons (pv 1) pa_nil)) (fun fp C s1 H1 => pg_name (i := 0) scHb.nd rfl (Or.inl rfl)) (fun fp C s1 H1 => pts_nil)
          (fun fp C s1 H1 => pe_call GP hr rfl gP FP.kp bP .nil pass0 (pa_cons (pv 1) (pa_cons (pe_op op_add (pe_op op_mul pe_int (pv 2)) (pv 0)) (pa_cons (pv 3) pa_nil)))) scHi.nd rfl rfl rfl)
        (pss_one (ps_expr (pe_bm PySem.F.plainAttrs_list PySem.F.slot_list_append PySem.F.type_list_append mt_append (pv 3) (pa_cons (pe_tup (pa_cons (pe_cmpR op_eq (pe_call GP hr rfl gP FP.kp bP .nil pass0 (pa_cons (pv 0) (pa_cons (pe_op op_add pe_int (pv 4)) (pa_cons pe_int pa_nil)))) pe_int (nomark _)) (pa_cons (pv 5) pa_nil))) pa_nil))))))
      (pss_one (ps_ret (pv 3)))), ?_⟩
    refine ⟨Nat.zero_le _, fun l hl => ?_⟩
    have s2 : Same H (upd H l (.lst [])) := (Same.refl H).upd_free hl
    refine ⟨_, rfl, _, rfl, by omega, by omega, ?_⟩
    refine for_range (n := size.toNat) (fun i σ H2 => ∃ (qs : List Addr) (rs : Rms) (v4 v5 : Option V), σ = [some (.int c), some (.int many), some (.int size), some (.ref l), v4, v5] ∧
        Same H H2 ∧ H2 l = some (.lst (qs.map V.ref)) ∧ RwS H2 qs rs ∧ (∀ q ∈ qs, ∀ xs, H2 q = some (.tup xs) → V.ref l ∉ xs) ∧ rs.length = i ∧ ∀ r ∈ rs, (r.2.length : Int) = many ∧ ∀ n ∈ r.2, 0 ≤ n ∧ n < size)
      ⟨[], [], none, none, rfl, s2, upd_same, ⟨rfl, fun i r e => by simp at e⟩, fun q hq => by (cases hq), rfl, fun r hr => by simp at hr⟩ ?_ ?_
    · rintro i σ H2 hi ⟨qs, rs, v4, v5, rfl, t2, hL, hR, hno, hlen, hrow⟩
      have i1 : (i : Int) < size := by omega
      refine ⟨_, rfl, _, rfl, by omega, by omega, fun D hD => ?_⟩
      have hDH : H D = none := t2.free hD
      have sD : Same H2 (upd H2 D (.lst [])) := (Same.refl H2).upd_free hD
      refine lc_range (n := many.toNat) (fun j ys H3 => Same H2 H3 ∧ H3 D = some (.lst ys) ∧ ys.length = j ∧ ∃ xs : List Int, ys = xs.map V.int ∧ ∀ x ∈ xs, 0 ≤ x ∧ x < size) (Nat.le_of_lt (small1000 (by omega)))
        ⟨sD, upd_same, rfl, [], rfl, fun x hx => by simp at hx⟩ (fun j ys H3 h => Nat.le_of_eq h.2.2.1) ?_ ?_
      · rintro j ys H3 N M hj ⟨u1, u2, u3, xs, rfl, u5⟩ hN hM
        refine ⟨_, rfl, _, rfl, _, _, rfl, rfl, .inl ⟨by omega, by omega⟩, _, rfl, _, _, rfl, rfl, _, rfl, _, _, _, rfl, by omega, by omega, by omega, fun z z0 z1 => ?_⟩
        refine hN _ H3 u2 ⟨u1.upd_free hD, upd_same, by rw [List.length_append, List.length_singleton, u3], xs ++ [z], by rw [List.map_append]; rfl, fun x hx => ?_⟩
        rcases List.mem_append.mp hx with hx | hx
        · exact u5 x hx
        · rw [List.mem_singleton] at hx
          subst hx
          exact ⟨z0, z1⟩
      · rintro ys H3 ⟨u1, u2, u3, xs, rfl, u5⟩
        have xl : (xs.length : Int) = many := by rw [List.length_map] at u3; omega
        have nlD : l ≠ D := ne_of_none hL hD
        refine ⟨_, rfl, .inl ⟨rfl, _, SqL.of (u1 _ _ hL)⟩, _, rfl, _, rfl, _, _, rfl, rfl, _, _, _, rfl, by omega, by omega, by decide, fun z z0 z1 => ?_⟩
        refine ⟨rfl, _, rfl, (by show 2 ≤ sizeLine; decide), fun q hq => ?_⟩
        have v3 : Same H2 (upd H3 q (.tup [.bl (decide (V.int z = V.int 1)), .ref D])) := u1.upd_free (u1.free hq)
        have nlq : l ≠ q := ne_of_none hL (u1.free hq)
        refine ⟨l, _, _, rfl, rfl, v3 _ _ hL, ?_, ?_⟩
        · rw [List.length_map, hR.1, hlen]
          exact small1000 (by omega)
        have hq3 : upd H3 q (.tup [.bl (decide (V.int z = V.int 1)), .ref D]) q = some (.tup [.bl (decide (V.int z = V.int 1)), .ref D]) := upd_same
        have hD3 : upd H3 q (.tup [.bl (decide (V.int z = V.int 1)), .ref D]) D = some (.lst (xs.map V.int)) := by
          rw [upd_ne (fun e => by rw [e] at u2; rw [hq] at u2; cases u2)]; exact u2
        generalize upd H3 q (.tup [.bl (decide (V.int z = V.int 1)), .ref D]) = H4 at v3 hq3 hD3
        have hl4 := v3 _ _ hL
        have ne : ∀ {a : Addr} {o : HO}, H4 a = some o → a ≠ l → upd H4 l (.lst (qs.map V.ref ++ [.ref q])) a = some o := fun h n => by rw [upd_ne n]; exact h
        refine ⟨qs ++ [q], rs ++ [(decide (V.int z = V.int 1), xs)], _, _, rfl, (t2.trans v3).upd_free hl, by rw [upd_same, List.map_append]; rfl, ⟨?_, fun j r e => ?_⟩, fun q' hq' ys hys => ?_, by rw [List.length_append, hlen]; rfl, fun r hr' => ?_⟩
        · rw [List.length_append, List.length_append, hR.1]; rfl
        · by_cases hj : j < rs.length
          · rw [List.getElem?_append_left hj] at e
            obtain ⟨q', z', e1, e2, e3⟩ := hR.2 j r e
            have nz : z' ≠ l := fun ez => by
              have := hno q' (List.mem_of_getElem? e1) _ e2
              rw [ez] at this
              simp at this
            refine ⟨q', z', by rw [List.getElem?_append_left (by rw [hR.1]; exact hj)]; exact e1, ne (v3 _ _ e2) (ne_of e2 hL (fun z => nomatch z)), e3.imp (fun h => ne (v3 _ _ h) nz) fun h => ne (v3 _ _ h) nz⟩
          · rw [List.getElem?_append_right (by omega)] at e
            have ej : j - rs.length = 0 := by
              have := (List.getElem?_eq_some_iff.mp e).1
              simp at this
              omega
            rw [ej] at e
            cases e
            refine ⟨q, D, by rw [List.getElem?_append_right (by rw [hR.1]; omega), hR.1, ej]; rfl, ne hq3 nlq.symm, .inl (ne hD3 nlD.symm)⟩
        · rcases List.mem_append.mp hq' with h | h
          · obtain ⟨i', hi', ei'⟩ := List.getElem_of_mem h
            have hlt : i' < rs.length := by rw [← hR.1]; exact hi'
            obtain ⟨q'', z', e1, e2, e3⟩ := hR.2 i' rs[i'] (List.getElem?_eq_getElem hlt)
            rw [List.getElem?_eq_getElem hi', ei'] at e1
            cases e1
            have := ne (v3 _ _ e2) (ne_of e2 hL (fun z => nomatch z))
            rw [this] at hys
            cases hys
            exact hno q' h _ e2
          · rw [List.mem_singleton.mp h] at hys
            rw [ne hq3 nlq.symm] at hys
            cases hys
            simp [nlD]
        · rcases List.mem_append.mp hr' with h | h
          · exact hrow r h
          · rw [List.mem_singleton.mp h]
            exact ⟨xl, u5⟩
    · rintro σ H2 ⟨qs, rs, v4, v5, rfl, t2, hL, hR, hno, hlen, hrow⟩
      refine ⟨_, rfl, k l rs H2 t2 ⟨qs, .inl hL, hR⟩ ⟨⟨m0, m1⟩, by omega, by omega, fun r hr' => ?_⟩ (by omega)⟩
      obtain ⟨h1, h2⟩ := hrow r hr'
      exact ⟨h1, fun n hn => ⟨(h2 n hn).1, by have := (h2 n hn).2; omega⟩⟩

def spRu : Sp := fun vs H Q _ => ∃ c many longest : Int, vs = [.int c, .int many, .int longest] ∧ 0 ≤ many ∧ many ≤ 8 ∧ 0 ≤ longest ∧ longest ≤ 8 ∧ ∀ (t : Addr) (ns : List Int) (H' : Hp), Same H H' → RA H' t ns → (ns.length : Int) ≤ longest → (∀ x ∈ ns, 0 ≤ x ∧ x < many) → Q (.ref t) H'
theorem scRu : FnScope ["_law_cell", "_law_many", "_law_longest", "_law_run_here", "_law_size", "_law_k"] ["_law_cell", "_law_many", "_law_longest"] (defScope sRu) := ⟨rfl, rfl, rfl, by decide +kernel, rfl, by decide +kernel, by decide +kernel⟩
theorem ok_ru {f : Addr} {fd : FuncData} (F : Fun K "_law_run" "_law_run" sRu f fd) (T : Txt mg) : FnOk P w K mg base CX0 1 f fd ["_law_cell", "_law_many", "_law_longest"] spRu := by
  refine F.ok scRu (fun vs H Q E h => ?_) (fun cdv A outer s H vs Q E hr h => ?_)
  · obtain ⟨c, many, lo, rfl, _⟩ := h
    rfl
  · obtain ⟨c, many, lo, rfl, m0, m1, t0, t1, k⟩ := h
    refine ⟨_, pss_cons (ps_set (i := 3) scRu.nd rfl (Or.inl rfl) (pe_lst pa_nil))
      (pss_cons (ps_set (i := 4) scRu.nd rfl (Or.inl rfl) (pe_op op_mod (pv 0) (pe_op op_add (pv 2) pe_int)))
      (pss_cons (ps_set (i := 0) scRu.nd rfl (Or.inl rfl) (pe_op op_fdiv (pv 0) (pe_op op_add (pv 2) pe_int)))
      (pss_cons (ps_for PassesOwn.never rfl (pi_range1 rfl T.range (pa_cons (pv 4) pa_nil)) (pg_name (i := 5) scRu.nd rfl (Or.inl rfl))
        (pss_one (ps_if (pt_cmpR op_gt (pv 1) pe_int (nomark _))
          (pss_cons (ps_expr (pe_bm PySem.F.plainAttrs_list PySem.F.slot_list_append PySem.F.type_list_append mt_append (pv 3) (pa_cons (pe_op op_mod (pv 0) (pv 1)) pa_nil)))
          (pss_one (ps_set (i := 0) scRu.nd rfl (Or.inl rfl) (pe_op op_fdiv (pv 0) (pv 1))))) pss_nil)))
      (pss_one (ps_ret (pe_callTy call_tuple_of (by rfl) T.tuple PyProof.Rows.boot_tuple (pa_cons (pv 3) pa_nil))))))), ?_⟩
    refine ⟨Nat.zero_le _, fun l hl => ?_⟩
    have s1 : Same H (upd H l (.lst [])) := (Same.refl H).upd_free hl
    refine ⟨_, rfl, _, rfl, _, _, rfl, rfl, _, _, rfl, rfl, by omega, ?_⟩
    refine ⟨_, rfl, _, rfl, _, _, rfl, rfl, _, _, rfl, rfl, ⟨by omega, by omega⟩, ?_⟩
    have b0 : 0 ≤ c % (lo + 1) := Int.emod_nonneg _ (by omega)
    have b1 : c % (lo + 1) < lo + 1 := Int.emod_lt_of_pos _ (by omega)
    refine ⟨_, rfl, _, rfl, by omega, by omega, ?_⟩
    refine for_range (n := (c % (lo + 1)).toNat) (fun i σ H2 => ∃ (n : Int) (ls : List Int) (v : Option V), σ = [some (.int n), some (.int many), some (.int lo), some (.ref l), some (.int (c % (lo + 1))), v] ∧ Same H H2 ∧ H2 l = some (.lst (ls.map V.int)) ∧ ls.length ≤ i ∧ ∀ x ∈ ls, 0 ≤ x ∧ x < many)
      ⟨_, [], none, rfl, s1, upd_same, Nat.le_refl _, fun x hx => by cases hx⟩ ?_ ?_
    · rintro i σ H2 hi ⟨n, ls, v, rfl, s2, hL, hlen, hle⟩
      refine ⟨_, rfl, _, _, rfl, rfl, _, rfl, ?_⟩
      refine ite2 (fun hg => ?_) (fun hg => ?_)
      · have hm : 0 < many := of_decide_eq_true hg
        refine ⟨_, rfl, .inl ⟨rfl, _, SqL.of hL⟩, _, rfl, _, rfl, _, _, rfl, rfl, hm, l, _, _, rfl, rfl, hL, ?_, ?_⟩
        · rw [List.length_map]
          exact small1000 (by omega)
        · refine ⟨_, rfl, _, rfl, _, _, rfl, rfl, ⟨by omega, by omega⟩, ?_⟩
          refine ⟨_, ls ++ [n % many], _, rfl, s2.upd_free hl, ?_, ?_, fun x hx => ?_⟩
          · rw [upd_same, List.map_append]
            rfl
          · rw [List.length_append, List.length_singleton]
            omega
          · rcases List.mem_append.mp hx with h | h
            · exact hle x h
            · rw [List.mem_singleton.mp h]
              exact ⟨Int.emod_nonneg _ (by omega), Int.emod_lt_of_pos _ hm⟩
      · exact ⟨n, ls, _, rfl, s2, hL, by omega, hle⟩
    · rintro σ H2 ⟨n, ls, v, rfl, s2, hL, hlen, hle⟩
      refine ⟨_, rfl, l, _, rfl, .inl ⟨SqL.of hL, fun p hp => ?_⟩⟩
      exact k p ls _ (s2.upd_free (s2.free hp)) upd_same (by omega) hle

def spRi : Sp := fun vs H Q _ => ∃ (r t : Addr) (many : Int) (rs : Rms) (ns : List Int), vs = [.ref r, .ref t] ∧ RmS H r rs ∧ Good many rs ∧ RA H t ns ∧ (∀ x ∈ ns, 0 ≤ x ∧ x < many) ∧ Q (.bl (gdw rs ns)) H
theorem scRi : FnScope ["_law_rooms", "_law_run_here", "_law_room", "_law_letter"] ["_law_rooms", "_law_run_here"] (defScope sRi) := ⟨rfl, rfl, rfl, by decide +kernel, rfl, by decide +kernel, by decide +kernel⟩
theorem room_at {many : Int} {rs : Rms} (G : Good many rs) {H : Hp} {qs : List Addr} (R : RwS H qs rs) {h : Int} (h0 : 0 ≤ h) (h1 : h < rs.length) :
    ∃ (q z : Addr) (ns : List Int), atI (qs.map V.ref) h = some (.ref q) ∧ H q = some (.tup [.bl (rs.getD h.toNat (false, [])).1, .ref z]) ∧ (H z = some (.lst (ns.map V.int)) ∨ H z = some (.tup (ns.map V.int))) ∧ ∀ l, 0 ≤ l → l < many → atI (ns.map V.int) l = some (.int (nextOf rs h l)) := by
  obtain ⟨r, er⟩ := some_at rs h h0 h1
  have hr := G.row r (List.mem_of_getElem? er)
  obtain ⟨q, z, e1, e2, e3⟩ := R.2 _ _ er
  refine ⟨q, z, r.2, atI_int h0 (by rw [List.getElem?_map, e1]; rfl), by rw [getD_of er]; exact e2, e3, fun l l0 l1 => ?_⟩
  obtain ⟨n, en⟩ := some_at r.2 l l0 (by rw [hr.1]; exact l1)
  refine atI_int l0 ?_
  unfold nextOf
  rw [getD_of er, getD_of en, List.getElem?_map, en]
  rfl
theorem ok_ri {f : Addr} {fd : FuncData} (F : Fun K "_law_right" "_law_right" sRi f fd) : FnOk P w K mg base CX0 1 f fd ["_law_rooms", "_law_run_here"] spRi := by
  refine F.ok scRi (fun vs H Q E h => ?_) (fun cdv A outer s H vs Q E hr h => ?_)
  · obtain ⟨r, t, many, rs, ns, rfl, _⟩ := h
    rfl
  · obtain ⟨r, t, many, rs, ns, rfl, ⟨qs, hq, hR⟩, G, ht, hx, k⟩ := h
    have gpos := G.pos
    refine ⟨_, pss_cons (ps_set (i := 2) scRi.nd rfl (Or.inl rfl) pe_int)
      (pss_cons (ps_for PassesOwn.never rfl (pi_tup (pv 1)) (pg_name (i := 3) scRi.nd rfl (Or.inl rfl))
        (pss_one (ps_set (i := 2) scRi.nd rfl (Or.inl rfl) (pe_ix ix_both (pe_ix ix_tup (pe_ix ix_both (pv 0) (pv 2) (fun _ _ => rfl)) pe_int (fun _ _ => rfl)) (pv 3) (fun _ _ => rfl)))))
      (pss_one (ps_ret (pe_ix ix_tup (pe_ix ix_both (pv 0) (pv 2) (fun _ _ => rfl)) pe_int (fun _ _ => rfl))))), ?_⟩
    refine ⟨_, rfl, t, rfl, ⟨_, SqT.of ht⟩, ?_⟩
    have hw : ∀ i, 0 ≤ walkM rs 0 (ns.take i) ∧ walkM rs 0 (ns.take i) < (rs.length : Int) := fun i => walk_in G _ _ (Int.le_refl 0) (by omega) fun l hl => hx l (List.mem_of_mem_take hl)
    refine for_tup (K := K) (a := t) (xs := ns.map V.int) (fun i σ H2 => ∃ v3 : Option V, σ = [some (.ref r), some (.ref t), some (.int (walkM rs 0 (ns.take i))), v3] ∧ H2 = H) ⟨none, rfl, rfl⟩ (fun i σ H2 _ ⟨_, _, e⟩ => by rw [e]; exact SqT.of ht) ?_ ?_
    · rintro i x σ H2 ex ⟨v3, rfl, rfl⟩
      rw [List.getElem?_map] at ex
      obtain ⟨l, el, rfl⟩ := Option.map_eq_some_iff.mp ex
      obtain ⟨l0, l1⟩ := hx l (List.mem_of_getElem? el)
      obtain ⟨q, z, zs, a1, a2, a3, a4⟩ := room_at G hR (hw i).1 (hw i).2
      refine ⟨_, rfl, _, rfl, r, _, _, _, rfl, rfl, sq_or hq, a1, q, _, _, _, rfl, rfl, SqT.of a2, rfl, _, rfl, z, _, _, _, rfl, rfl, sq_or a3, a4 l l0 l1, ?_⟩
      have e1 := walk_take rs 0 ns i l el
      refine ⟨some (.int l), ?_, rfl⟩
      rw [e1]
      rfl
    · rintro σ H2 ⟨v3, rfl, rfl⟩
      rw [List.length_map, List.take_length]
      have hw' := hw ns.length
      rw [List.take_length] at hw'
      obtain ⟨q, z, zs, a1, a2, a3, a4⟩ := room_at G hR hw'.1 hw'.2
      exact ⟨_, rfl, _, rfl, r, _, _, _, rfl, rfl, sq_or hq, a1, q, _, _, _, rfl, rfl, SqT.of a2, rfl, k⟩
end
end BG
namespace BG
open PySem L2 SO HT

def isB (rs : List (List Int)) (ns : List Int) : Prop := ns = [] ∨ ∃ r ∈ rs, ∃ j, j ≤ r.length ∧ ns = r.take j
def kOf (ns : List Int) : SO.KP := ((ns.length : Int), ns)
def Srt (l : List (List Int)) : Prop := l.Pairwise fun a b => prLt (kOf a) (kOf b) = true
theorem kOf_inj {a b : List Int} (h : kOf a = kOf b) : a = b := (Prod.mk.inj h).2
theorem prLt_asym {x y : SO.KP} (h1 : prLt x y = true) (h2 : prLt y x = true) : False := lex_asym _ _ h1 h2
theorem prLt_tot {x y : SO.KP} (h1 : prLt x y = false) (h2 : prLt y x = false) : x = y := prOrd.total x y h1 h2
theorem srt_eq : ∀ {a b : List (List Int)}, Srt a → Srt b → (∀ x, x ∈ a ↔ x ∈ b) → a = b
  | [], [], _, _, _ => rfl
  | [], y :: b, _, _, h => by have := (h y).mpr List.mem_cons_self; cases this
  | x :: a, [], _, _, h => by have := (h x).mp List.mem_cons_self; cases this
  | x :: a, y :: b, ha, hb, h => by
    have ha' := List.pairwise_cons.mp ha
    have hb' := List.pairwise_cons.mp hb
    have hxy : x = y := by
      rcases List.mem_cons.mp ((h x).mp List.mem_cons_self) with e | e
      · exact e
      · rcases List.mem_cons.mp ((h y).mpr List.mem_cons_self) with e' | e'
        · exact e'.symm
        · exact (prLt_asym (hb'.1 x e) (ha'.1 y e')).elim
    subst hxy
    have irr : ∀ z : List Int, prLt (kOf z) (kOf z) = true → False := fun z q => prLt_asym q q
    congr 1
    refine srt_eq ha'.2 hb'.2 fun z => ⟨fun hz => ?_, fun hz => ?_⟩
    · rcases List.mem_cons.mp ((h z).mp (List.mem_cons_of_mem _ hz)) with e | e
      · subst e; exact (irr _ (ha'.1 _ hz)).elim
      · exact e
    · rcases List.mem_cons.mp ((h z).mpr (List.mem_cons_of_mem _ hz)) with e | e
      · subst e; exact (irr _ (hb'.1 _ hz)).elim
      · exact e

theorem srt_of {l : List (List Int)} (h : l.Pairwise fun a b => prLt (kOf b) (kOf a) = false) (nd : l.Nodup) : Srt l := by
  refine (h.and nd).imp fun {a b} ⟨h1, h2⟩ => ?_
  cases q : prLt (kOf a) (kOf b) with
  | true => rfl
  | false => exact absurd (kOf_inj (prLt_tot q h1)) h2
section

structure ME (H : Hp) (xs : List (KTu × Addr × V)) (S : List Int → Prop) (n : Nat) : Prop where
  at' : ∀ x ∈ xs, H x.2.1 = some (.tup (x.1.map V.int))
  nd : (xs.map (·.1)).Nodup
  mem : ∀ ns, ns ∈ xs.map (·.1) ↔ S ns
  len : xs.length ≤ n
  sh : ∀ x ∈ xs, x.1.length ≤ 8
theorem ME.same {H H' : Hp} {xs : List (KTu × Addr × V)} {S : List Int → Prop} {n : Nat} (h : ME H xs S n) (s : TSame H H') : ME H' xs S n := ⟨fun x hx => s _ _ (h.at' x hx), h.nd, h.mem, h.len, h.sh⟩
theorem ME.tks {H : Hp} {xs : List (KTu × Addr × V)} {S : List Int → Prop} {n : Nat} (h : ME H xs S n) : TKs H xs := fun x hx => ⟨_, h.at' x hx, nums_ints x.1⟩
theorem putV_fst {κ : Type} [DecidableEq κ] (k : κ) (v : V) (x : κ × Addr × V) : (putV k v x).1 = x.1 ∧ (putV k v x).2.1 = x.2.1 := by
  unfold putV
  split <;> exact ⟨rfl, rfl⟩
theorem ME.put {H : Hp} {xs : List (KTu × Addr × V)} {S : List Int → Prop} {n : Nat} {k : List Int} {p : Addr} {v : V} (h : ME H xs S n) (hk : H p = some (.tup (k.map V.int))) (hs : k.length ≤ 8) : ME H (putH xs k p v) (fun ns => S ns ∨ ns = k) (n + 1) := by
  have hlen := putH_length xs k p v
  have hl := h.len
  unfold putH at hlen ⊢
  by_cases c : (xs.any fun x => decide (x.1 = k)) = true
  · rw [if_pos c] at hlen ⊢
    have hm : (xs.map (putV k v)).map (·.1) = xs.map (·.1) := by
      rw [List.map_map]
      exact List.map_congr_left fun x _ => (putV_fst k v x).1
    obtain ⟨x, hx, ex⟩ := List.any_eq_true.mp c
    have ex' : x.1 = k := of_decide_eq_true ex
    refine ⟨fun y hy => ?_, by rw [hm]; exact h.nd, fun ns => ?_, by rw [List.length_map]; omega, fun y hy => ?_⟩
    · obtain ⟨z, hz, rfl⟩ := List.mem_map.mp hy
      rw [(putV_fst k v z).1, (putV_fst k v z).2]
      exact h.at' z hz
    · rw [hm, h.mem]
      refine ⟨.inl, fun q => q.elim id fun e => ?_⟩
      rw [← h.mem, e, ← ex']
      exact List.mem_map_of_mem hx
    · obtain ⟨z, hz, rfl⟩ := List.mem_map.mp hy
      rw [(putV_fst k v z).1]
      exact h.sh z hz
  · rw [if_neg c] at hlen ⊢
    have hno : k ∉ xs.map (·.1) := fun q => by
      obtain ⟨x, hx, ex⟩ := List.mem_map.mp q
      exact c (List.any_eq_true.mpr ⟨x, hx, decide_eq_true ex⟩)
    refine ⟨fun y hy => ?_, ?_, fun ns => ?_, by omega, fun y hy => ?_⟩
    · rcases List.mem_append.mp hy with hy | hy
      · exact h.at' y hy
      · rw [List.mem_singleton.mp hy]; exact hk
    · rw [List.map_append]
      refine List.nodup_append.mpr ⟨h.nd, by simp, fun a ha b hb => ?_⟩
      have : b = k := by simpa using hb
      rw [this]
      intro e
      exact hno (e ▸ ha)
    · rw [List.map_append, List.mem_append, h.mem]
      simp
    · rcases List.mem_append.mp hy with hy | hy
      · exact h.sh y hy
      · rw [List.mem_singleton.mp hy]; exact hs
theorem ME.iff {H : Hp} {xs : List (KTu × Addr × V)} {S S' : List Int → Prop} {n : Nat} (h : ME H xs S n) (e : ∀ ns, S ns ↔ S' ns) : ME H xs S' n := ⟨h.at', h.nd, fun ns => (h.mem ns).trans (e ns), h.len, h.sh⟩

def S2 (rs : List (List Int)) (r : List Int) (j : Nat) (ns : List Int) : Prop := isB rs ns ∨ ∃ m, m < j ∧ ns = r.take m
theorem S2_zero {rs : List (List Int)} {r ns : List Int} : isB rs ns ↔ S2 rs r 0 ns := ⟨.inl, fun h => h.elim id fun ⟨m, h1, _⟩ => by omega⟩
theorem S2_succ {rs : List (List Int)} {r : List Int} {j : Nat} {ns : List Int} : (S2 rs r j ns ∨ ns = r.take j) ↔ S2 rs r (j + 1) ns := by
  unfold S2
  constructor
  · rintro ((h | ⟨m, h1, h2⟩) | h)
    · exact .inl h
    · exact .inr ⟨m, by omega, h2⟩
    · exact .inr ⟨j, by omega, h⟩
  · rintro (h | ⟨m, h1, h2⟩)
    · exact .inl (.inl h)
    · by_cases e : m = j
      · subst e; exact .inr h2
      · exact .inl (.inr ⟨m, by omega, h2⟩)
theorem S2_end {rs : List (List Int)} {r ns : List Int} : S2 rs r (r.length + 1) ns ↔ isB (rs ++ [r]) ns := by
  unfold S2 isB
  constructor
  · rintro ((h | ⟨q, h1, h2⟩) | ⟨m, h1, h2⟩)
    · exact .inl h
    · exact .inr ⟨q, List.mem_append_left _ h1, h2⟩
    · exact .inr ⟨r, List.mem_append_right _ List.mem_cons_self, m, by omega, h2⟩
  · rintro (h | ⟨q, h1, j, h2, h3⟩)
    · exact .inl (.inl h)
    · rcases List.mem_append.mp h1 with h1 | h1
      · exact .inl (.inr ⟨q, h1, j, h2, h3⟩)
      · rw [List.mem_singleton.mp h1] at h2 h3
        exact .inr ⟨j, by omega, h3⟩
end
end BG
namespace BG
open PySem L2 SO K20

def dRun (ns : List Int) : PyData := .tuple (ns.map PyData.int)
theorem dRun_ok (ns : List Int) : DOk (dRun ns) := ⟨dints_lay ns, by
  unfold dRun
  rw [PyData.depth, dints_depth]
  decide⟩
theorem dRun_eqv (a c : List Int) : PyData.eqv (dRun a) (dRun c) = decide (a = c) := eqvs_ints a c
theorem run_dat {K : PySem.W.Frag} {H : Hp} {t : Addr} {ns : List Int} (h : RA H t ns) : DAt K H (.ref t) (dRun ns) := .tup (SqT.of h) (dints_at ns)
theorem tups_cons {H : Hp} {t : Addr} {ts : List Addr} {g : List Int} {gs : List (List Int)} (h : TupsAt H (t :: ts) (g :: gs)) : RA H t g ∧ TupsAt H ts gs := by
  refine ⟨?_, by simpa using h.1, fun i n e => ?_⟩
  · obtain ⟨t', e1, e2⟩ := h.2 0 g rfl
    cases e1
    exact e2
  · obtain ⟨t', e1, e2⟩ := h.2 (i + 1) n (by simpa using e)
    exact ⟨t', by simpa using e1, e2⟩
theorem runs_dat {K : PySem.W.Frag} {H : Hp} : ∀ {ts : List Addr} {gs : List (List Int)}, TupsAt H ts gs → DsAt K H (ts.map V.ref) (gs.map dRun)
  | [], [], _ => .nil
  | [], _ :: _, h => by have := h.1; cases this
  | _ :: _, [], h => by have := h.1; cases this
  | t :: ts, g :: gs, h => .cons (run_dat (tups_cons h).1) (runs_dat (tups_cons h).2)
theorem dRuns_lay : ∀ gs : List (List Int), PyData.canLayAll0 (gs.map dRun) = true
  | [] => rfl
  | g :: gs => by
    rw [List.map_cons, PyData.canLayAll0, (dRun_ok g).1, dRuns_lay gs]
    rfl
theorem dRuns_any (gs : List (List Int)) (r : List Int) : ((gs.map dRun).any fun d => PyData.eqv d (dRun r)) = decide (r ∈ gs) := by
  rw [List.any_map]
  induction gs with
  | nil => rfl
  | cons g gs ih =>
    rw [List.any_cons, ih]
    show (PyData.eqv (dRun g) (dRun r) || decide (r ∈ gs)) = _
    rw [dRun_eqv]
    by_cases e : g = r
    · subst e; simp
    · simp [e, Ne.symm e]
theorem nil_ok : DOk (.list []) := ⟨rfl, by decide⟩

theorem in_runs {K : PySem.W.Frag} {H : Hp} {t l : Addr} {ts : List Addr} {r : List Int} {gs : List (List Int)} {neg : Bool} {Q : VK} (ht : RA H t r) (hl : SqL K H l (ts.map V.ref) ∨ SqT K H l (ts.map V.ref)) (hT : TupsAt H ts gs) (q : Q (.bl (if neg then !decide (r ∈ gs) else decide (r ∈ gs))) H) : rInD K neg (.ref t) (.ref l) H Q := by
  refine ⟨l, _, dRun r, gs.map dRun, rfl, hl, runs_dat hT, run_dat ht, dRun_ok r, dRuns_lay gs, ?_⟩
  rw [dRuns_any]
  exact q
theorem tups_app {H : Hp} {ts us : List Addr} {gs bs : List (List Int)} (h : TupsAt H ts gs) (h' : TupsAt H us bs) : TupsAt H (ts ++ us) (gs ++ bs) := by
  refine ⟨by rw [List.length_append, List.length_append, h.1, h'.1], fun i n e => ?_⟩
  by_cases hi : i < gs.length
  · rw [List.getElem?_append_left hi] at e
    obtain ⟨t, e1, e2⟩ := h.2 i n e
    exact ⟨t, by rw [List.getElem?_append_left (by rw [h.1]; exact hi)]; exact e1, e2⟩
  · rw [List.getElem?_append_right (by omega)] at e
    obtain ⟨t, e1, e2⟩ := h'.2 _ n e
    exact ⟨t, by rw [List.getElem?_append_right (by rw [h.1]; omega), h.1]; exact e1, e2⟩
theorem tups_snoc {H : Hp} {ts : List Addr} {t : Addr} {gs : List (List Int)} {g : List Int} (h : TupsAt H ts gs) (e : RA H t g) : TupsAt H (ts ++ [t]) (gs ++ [g]) :=
  tups_app h ⟨rfl, fun i n q => by
    cases i with
    | zero => cases q; exact ⟨t, rfl, e⟩
    | succ i => simp at q⟩
theorem tups_of {H : Hp} : ∀ {zs : List (Addr × List Int)}, (∀ z ∈ zs, RA H z.1 z.2) → TupsAt H (zs.map (·.1)) (zs.map (·.2)) := fun {zs} h => ⟨by rw [List.length_map, List.length_map], fun i n e => by
  rw [List.getElem?_map] at e
  obtain ⟨z, ez, rfl⟩ := Option.map_eq_some_iff.mp e
  exact ⟨z.1, by rw [List.getElem?_map, ez]; rfl, h z (List.mem_of_getElem? ez)⟩⟩
theorem tups_take {H : Hp} {ts : List Addr} {gs : List (List Int)} (h : TupsAt H ts gs) (n : Nat) : TupsAt H (ts.take n) (gs.take n) := ⟨by rw [List.length_take, List.length_take, h.1], fun i m e => by
  rw [List.getElem?_take] at e
  split at e
  · rename_i hi
    obtain ⟨t, e1, e2⟩ := h.2 i m e
    exact ⟨t, by rw [List.getElem?_take, if_pos hi]; exact e1, e2⟩
  · cases e⟩
theorem tups_nil {H : Hp} : TupsAt H [] [] := ⟨rfl, fun i n e => by simp at e⟩

def RsB (kd : Bool) (H : Hp) (g : Addr) (gs : List (List Int)) : Prop := ∃ ts, H g = some (hoB kd (ts.map V.ref)) ∧ TupsAt H ts gs
abbrev RsT (H : Hp) (g : Addr) (gs : List (List Int)) : Prop := RsB false H g gs
abbrev RsL (H : Hp) (g : Addr) (gs : List (List Int)) : Prop := RsB true H g gs
theorem RsB.same {kd : Bool} {H H' : Hp} {g : Addr} {gs : List (List Int)} (h : RsB kd H g gs) (s : Same H H') : RsB kd H' g gs := by
  obtain ⟨ts, h1, h2⟩ := h
  exact ⟨ts, s _ _ h1, h2.tsame s.tups⟩

structure SrA (H : Hp) (zs : List (Addr × List Int)) (S : List Int → Prop) : Prop where
  at' : ∀ z ∈ zs, RA H z.1 z.2
  srt : Srt (zs.map (·.2))
  mem : ∀ ns, ns ∈ zs.map (·.2) ↔ S ns
  len : zs.length ≤ 1000
  sh : ∀ z ∈ zs, z.2.length ≤ 8
def S3 (S : List Int → Prop) (r : List Int) (j : Nat) (ns : List Int) : Prop := S ns ∨ ∃ m, m < j ∧ ns = r.take m
theorem S3_succ {S : List Int → Prop} {r : List Int} {j : Nat} {ns : List Int} : (S3 S r j ns ∨ ns = r.take j) ↔ S3 S r (j + 1) ns := by
  unfold S3
  constructor
  · rintro ((h | ⟨m, h1, h2⟩) | h)
    · exact .inl h
    · exact .inr ⟨m, by omega, h2⟩
    · exact .inr ⟨j, by omega, h⟩
  · rintro (h | ⟨m, h1, h2⟩)
    · exact .inl (.inl h)
    · by_cases e : m = j
      · subst e; exact .inr h2
      · exact .inl (.inr ⟨m, by omega, h2⟩)
theorem S3_one {rs : List (List Int)} {r ns : List Int} : isB rs ns ↔ S3 (isB rs) r 1 ns := ⟨.inl, fun h => h.elim id fun ⟨m, h1, h2⟩ => by
  have : m = 0 := by omega
  subst this
  exact .inl h2⟩
theorem S3_endB {rs : List (List Int)} {r ns : List Int} : S3 (isB rs) r (r.length + 1) ns ↔ isB (rs ++ [r]) ns := by
  unfold S3 isB
  constructor
  · rintro ((h | ⟨q, h1, h2⟩) | ⟨m, h1, h2⟩)
    · exact .inl h
    · exact .inr ⟨q, List.mem_append_left _ h1, h2⟩
    · exact .inr ⟨r, List.mem_append_right _ List.mem_cons_self, m, by omega, h2⟩
  · rintro (h | ⟨q, h1, j, h2, h3⟩)
    · exact .inl (.inl h)
    · rcases List.mem_append.mp h1 with h1 | h1
      · exact .inl (.inr ⟨q, h1, j, h2, h3⟩)
      · rw [List.mem_singleton.mp h1] at h2 h3
        exact .inr ⟨j, by omega, h3⟩

theorem srt_keys {H : Hp} {us : List (Addr × L2.KP)} {S : List Int → Prop} (h1 : ∀ u ∈ us, PrA H u) (h2 : ∀ u ∈ us, u.2 = kOf u.2.2) (h3 : (us.map (·.2.2)).Nodup) (h4 : ∀ ns, ns ∈ us.map (·.2.2) ↔ S ns) (h5 : ∀ u ∈ us, u.2.2.length ≤ 8) {zs : List (Addr × L2.KP)} (hp : zs.Perm us) (hs : zs.Pairwise fun x y => prLt y.2 x.2 = false) :
    (∀ z ∈ zs, PrA H z) ∧ Srt (zs.map (·.2.2)) ∧ (∀ ns, ns ∈ zs.map (·.2.2) ↔ S ns) ∧ zs.length = us.length ∧ ∀ z ∈ zs, z.2.2.length ≤ 8 := by
  have hz2 : ∀ z ∈ zs, z.2 = kOf z.2.2 := fun z hz => h2 z (hp.mem_iff.mp hz)
  refine ⟨fun z hz => h1 z (hp.mem_iff.mp hz), srt_of ?_ ?_, fun ns => ?_, hp.length_eq, fun z hz => h5 z (hp.mem_iff.mp hz)⟩
  · rw [List.pairwise_map]
    refine hs.imp_of_mem fun {a c} ha hc hh => ?_
    rw [hz2 a ha, hz2 c hc] at hh
    exact hh
  · exact ((hp.map fun z : Addr × L2.KP => z.2.2).nodup_iff).mpr h3
  · exact ((hp.map fun z : Addr × L2.KP => z.2.2).mem_iff (a := ns)).trans (h4 ns)
end BG
namespace L2
open PySem PySem.Spec PyProof.Rows
section
variable {X : Cx} {P : Program} {w : World}
theorem ps_tputW (hP : X.prog = P) (hw : X.w = w) {o i value : Expr} {pos pos' : Pos} {td ty tv : TE} (hu : X.A.units + 1 < cLine) (ho : PE X o td) (hi : PE X i ty) (hv : PE X value tv) (hs : swapsWith value (some (.Subscript o i pos')) pos.line X.env = pure false) :
    PS X (.Assign [.Subscript o i pos'] value pos) (sTPutA P w td ty tv) := by subst hP hw; exact ps_tputA hu ho hi hv hs
theorem pe_dispTW (hP : X.prog = P) (hw : X.w = w) {ke ve : Expr} {pos : Pos} {ty tv : TE} (hu : X.A.units < cLine) (h : PE X ke ty) (hv : PE X ve tv) : PE X (.Dict [some ke] [ve] pos) (tDispTD P w ty tv) := by subst hP hw; exact pe_dispTD hu h hv
theorem call_listTW (hP : X.prog = P) (hw : X.w = w) (hc : X.calm = true) : CallR X (.type "list") (fun vs H Q => ∃ a xs o, vs = [V.ref a] ∧ H a = some (TD P w a xs o) ∧ ∀ l, H l = none → Q (.ref l) (upd H l (.lst (xs.map fun x => V.ref x.2.1)))) := by subst hP hw; exact call_listTD hc
theorem pi_keysW {tg o : Expr} {td : TE} {apos cpos : Pos} (hP : X.prog = P) (hw : X.w = w) (ho : PE X o td) (hbase : attributeBase o "keys" X.env (eval o X.env) = eval o X.env := by rfl) (hline : (apos.endLine == cpos.line) = true := by rfl) :
    PI X tg (.Call (.Attribute o "keys" apos) [] [] cpos) (iKeys P w td) := by subst hP hw; exact pi_keys ho hbase hline
end
end L2
namespace BG
open PySem L2 SO K20
section
variable {P : Program} {w : World} {K : PySem.W.Frag} {mg : Str → Option Value} {base : Heap}

def spBe : Sp := fun vs H Q _ => ∃ (g b : Addr) (kd : Bool) (gs bs : List (List Int)), vs = [.ref g, .ref b] ∧ RsB kd H g gs ∧ RsB kd H b bs ∧ gs.length ≤ 24 ∧ bs.length ≤ 24 ∧ (∀ r ∈ gs ++ bs, r.length ≤ 8) ∧
  ∀ (l : Addr) (zs : List (Addr × List Int)) (H' : Hp), Same H H' → H l = none → H' l = some (.lst (zs.map fun z => V.ref z.1)) → SrA H' zs (isB (gs ++ bs)) → Q (.ref l) H'
theorem scBe : FnScope ["_law_good", "_law_bad", "_law_there", "_law_run_here", "_law_stop"] ["_law_good", "_law_bad"] (defScope sBe) := ⟨rfl, rfl, rfl, by decide +kernel, rfl, by decide +kernel, by decide +kernel⟩
def scopeB1 : Scope := { kind := .function, names := [(".0", .local), ("_law_run_here", .local), ("len", .globalImplicit)], isGenerator := false, isCoroutine := false, more := [] }
def scopeB2 : Scope := { kind := .function, names := [(".0", .local), ("_law_size", .local), ("_law_run_here", .local)], isGenerator := false, isCoroutine := false, more := [] }
theorem scB1 : BlkScope (defScope sBe) ["_law_good", "_law_bad", "_law_there", "_law_run_here", "_law_stop"] ["_law_run_here"] [] [] scopeB1 := ⟨rfl, by decide +kernel, by decide +kernel, by decide +kernel, rfl, by decide +kernel, by decide +kernel⟩
theorem scB2 : BlkScope (defScope sBe) ["_law_good", "_law_bad", "_law_there", "_law_run_here", "_law_stop"] ["_law_size", "_law_run_here"] [] [] scopeB2 := ⟨rfl, by decide +kernel, by decide +kernel, by decide +kernel, rfl, by decide +kernel, by decide +kernel⟩
theorem ok_be {f : Addr} {fd : FuncData} (F : Fun K "_law_begins" "_law_begins" sBe f fd) (T : Txt mg) : FnOk P w K mg base CX0 1 f fd ["_law_good", "_law_bad"] spBe := by
  refine F.ok scBe (fun vs H Q E h => ?_) (fun cdv A outer s H vs Q E hr h => ?_)
  · obtain ⟨g, b, kd, gs, bs, rfl, _⟩ := h
    rfl
  · obtain ⟨g, b, kd, gs, bs, rfl, ⟨tg, hg, tgs⟩, ⟨tb, hb, tbs⟩, lg, lb, hsh, k⟩ := h
    have hu64 := hr.units
    have hu1 := Nat.lt_of_le_of_lt (Nat.add_le_add_left (by decide : 1 ≤ 64) _) hu64
    have hu4 := Nat.lt_of_le_of_lt (Nat.add_le_add_left (by decide : 4 ≤ 64) _) hu64
    have hu0 := Nat.lt_of_le_of_lt (Nat.le_add_right _ 64) hu64
    refine ⟨_, pss_cons (ps_set (i := 2) scBe.nd rfl (Or.inl rfl) (pe_dispTW (P := P) (w := w) rfl rfl hu0 (pe_tup pa_nil) pe_bl))
      (pss_cons (ps_for PassesOwn.never rfl (pi_seq (pe_op op_catB (pv 0) (pv 1))) (pg_name (i := 3) scBe.nd rfl (Or.inl rfl))
        (pss_one (ps_for PassesOwn.never rfl (pi_range1 rfl T.range (pa_cons (pe_callB call_len_seq (by rfl) T.len PySem.boot_len (pa_cons (pv 3) pa_nil)) pa_nil)) (pg_name (i := 4) scBe.nd rfl (Or.inl rfl))
          (pss_one (ps_tputW (P := P) (w := w) rfl rfl hu1 (pv 2) (pe_slice sl_tupA (pv 3) po_none (po_some (pe_op op_add (pv 4) pe_int))) pe_bl rfl)))))
      (pss_one (ps_ret (pe_lc (g := gTup K 2 (gCons (gName 0) (gCons (gName 1) gNil))) scB2 rfl rfl rfl (pi_list (pe_callB (call_sortedP hu4) (by rfl) T.sorted PyProof.Rows.boot_sorted
        (pa_cons (pe_lc scB1 rfl rfl rfl (pi_keysW (P := P) (w := w) rfl rfl (pv 2)) (fun fp C s1 H1 => pg_name (i := 0) scB1.nd rfl (Or.inl rfl)) (fun fp C s1 H1 => pts_nil)
          (fun fp C s1 H1 => pe_tup (pa_cons (pe_callB (r := fun xs H Q => ∃ p ys, xs = [.ref p] ∧ (SqL K H p ys ∨ SqT K H p ys) ∧ Q (.int (ys.length : Int)) H) call_len_seq (by rfl) T.len PySem.boot_len (pa_cons (pv 0) pa_nil)) (pa_cons (pv 0) pa_nil)))) pa_nil)))
        (fun fp C s1 H1 => pg_tup (n := 2) rfl (pgs_cons (pg_name (i := 0) scB2.nd rfl (Or.inl rfl)) (pgs_cons (pg_name (i := 1) scB2.nd rfl (Or.inl rfl)) pgs_nil))) (fun fp C s1 H1 => pts_nil) (fun fp C s1 H1 => pv 1))))), ?_⟩
    refine fun p o hp => ⟨Nat.zero_le _, fun t ht => ?_⟩
    have htp : t ≠ p := fun e => by rw [e, upd_same] at ht; cases ht
    have hp1 : upd (upd H p (TD P w p [] o)) t (.tup []) p = some (TD P w p [] o) := by rw [upd_ne (fun e => htp e.symm)]; exact upd_same
    refine ⟨hp1, t, _, [], rfl, ⟨[], upd_same, rfl⟩, fun o1 => ?_⟩
    have s1 : Same H (upd (upd (upd H p (TD P w p [] o)) t (.tup [])) p (TD P w p [([], t, .bl true)] o1)) := (((Same.refl H).upd_free hp).upd_free (by rw [upd_ne htp] at ht; exact ht)).upd_free hp
    have ht1 : upd (upd (upd H p (TD P w p [] o)) t (.tup [])) p (TD P w p [([], t, .bl true)] o1) t = some (.tup []) := by rw [upd_ne htp]; exact upd_same
    have hp2 : upd (upd (upd H p (TD P w p [] o)) t (.tup [])) p (TD P w p [([], t, .bl true)] o1) p = some (TD P w p [([], t, .bl true)] o1) := upd_same
    generalize upd (upd (upd H p (TD P w p [] o)) t (.tup [])) p (TD P w p [([], t, .bl true)] o1) = H1 at s1 ht1 hp2
    refine ⟨_, rfl, _, rfl, g, b, _, _, kd, rfl, rfl, s1 _ _ hg, s1 _ _ hb, ?_, fun q H2 s2 hq => ?_⟩
    · rw [List.length_map, List.length_map, tgs.1, tbs.1]
      exact Nat.le_of_lt (small1000 (by omega))
    rw [← List.map_append] at hq
    refine ⟨q, kd, rfl, ⟨_, SqB.of hq⟩, ?_⟩
    have hT : TupsAt H2 (tg ++ tb) (gs ++ bs) := tups_app (tgs.tsame (s1.trans s2).tups) (tbs.tsame (s1.trans s2).tups)
    have hM0 : ME H2 [([], t, .bl true)] (isB []) 1 := ⟨fun x hx => by rw [List.mem_singleton.mp hx]; exact s2 _ _ ht1, by simp, fun ns => ⟨fun h => .inl (by simpa using h), fun h => h.elim (fun e => by simp [e]) fun ⟨r, h1, _⟩ => by cases h1⟩, Nat.le_refl _, fun x hx => by rw [List.mem_singleton.mp hx]; exact Nat.zero_le _⟩
    have hlen : (gs ++ bs).length ≤ 48 := by rw [List.length_append]; omega
    have hp3 := s2 _ _ hp2
    have sH2 := s1.trans s2
    generalize hrs : gs ++ bs = rs at hT hsh hlen k
    generalize tg ++ tb = ts at hT hq
    refine for_seq (K := K) (kd := kd) (a := q) (xs := ts.map V.ref) (fun i σ H3 => ∃ (xs : List (KTu × Addr × V)) (o3 : Obj) (v3 v4 : Option V), σ = [some (.ref g), some (.ref b), some (.ref p), v3, v4] ∧ Same H H3 ∧ SBut p H2 H3 ∧ H3 p = some (TD P w p xs o3) ∧ ME H3 xs (isB (rs.take i)) (1 + 9 * i))
      ⟨[([], t, .bl true)], o1, none, none, rfl, sH2, SBut.refl, hp3, hM0⟩ (fun i σ H3 _ ⟨_, _, _, _, _, _, sb, _⟩ => SqB.of (sb.get hp3 hq (fun z => by cases kd <;> cases z))) ?_ ?_
    · rintro i x σ H3 hx ⟨xs, o3, v3, v4, rfl, s3, sb3, hp4, hM3⟩
      have hi : i < rs.length := by
        have := (List.getElem?_eq_some_iff.mp hx).1
        rw [List.length_map, hT.1] at this
        exact this
      have er : rs[i]? = some rs[i] := List.getElem?_eq_getElem hi
      generalize rs[i] = r at er
      have hr8 : r.length ≤ 8 := hsh r (List.mem_of_getElem? er)
      obtain ⟨tr, e1, e2⟩ := hT.2 i r er
      rw [List.getElem?_map, e1] at hx
      cases hx
      have hrt : H3 tr = some (.tup (r.map V.int)) := sb3.get hp3 e2 (fun z => nomatch z)
      have hlr : (r.map V.int).length = r.length := List.length_map _
      refine ⟨_, rfl, tr, _, rfl, .inr (SqT.of hrt), _, rfl, by omega, by omega, ?_⟩
      have hn : (((r.map V.int).length : Nat) : Int).toNat = r.length := by omega
      refine for_range (n := (((r.map V.int).length : Nat) : Int).toNat) (fun j σ H4 => ∃ (xs : List (KTu × Addr × V)) (o4 : Obj) (v4 : Option V), σ = [some (.ref g), some (.ref b), some (.ref p), some (.ref tr), v4] ∧ Same H H4 ∧ SBut p H2 H4 ∧ H4 p = some (TD P w p xs o4) ∧ ME H4 xs (S3 (isB (rs.take i)) r (j + 1)) (1 + 9 * i + j))
        ⟨xs, o3, v4, rfl, s3, sb3, hp4, hM3.iff fun ns => S3_one⟩ ?_ ?_
      · rintro j σ H4 hj ⟨xs4, o4, v4', rfl, s4, sb4, hp5, hM4⟩
        rw [hn] at hj
        have hrt4 : H4 tr = some (.tup (r.map V.int)) := sb4.get hp3 e2 (fun z => nomatch z)
        refine ⟨_, rfl, _, rfl, _, rfl, _, _, rfl, rfl, _, rfl, tr, _, rfl, hrt4, fun pz H5 s5 hpz => ?_⟩
        have ej : (0 : Int) + (j : Int) + 1 = ((j + 1 : Nat) : Int) := by omega
        rw [ej, cut_take, ← List.map_take] at hpz
        have hM5 := hM4.same s5.tups
        have hl4 := hM4.len
        have hil : i ≤ 47 := by omega
        refine ⟨p, xs4, o4, pz, r.take (j + 1), rfl, s5 _ _ hp5, hM5.tks, rfl, ⟨_, hpz, nums_ints _⟩, small1000 (by omega), fun o5 => ?_⟩
        have tsU : TSame H5 (upd H5 p (TD P w p (putH xs4 (r.take (j + 1)) pz (.bl true)) o5)) := fun c ys e => by
          rw [upd_ne (ne_of e (s5 _ _ hp5) (fun z => nomatch z))]; exact e
        have hM6 := (hM5.put (v := .bl true) hpz (by rw [List.length_take]; omega)).same tsU
        exact ⟨_, o5, _, rfl, (s4.trans s5).upd_free hp, (sb4.same s5).upd, upd_same, hM6.iff fun ns => S3_succ⟩
      · rintro σ H4 ⟨xs4, o4, v4', rfl, s4, sb4, hp5, hM4⟩
        rw [hn] at hM4
        have e : rs.take (i + 1) = rs.take i ++ [r] := by rw [List.take_add_one, er]; rfl
        refine ⟨xs4, o4, _, _, rfl, s4, sb4, hp5, ?_⟩
        rw [e]
        have := hM4.iff fun ns => S3_endB
        exact ⟨this.at', this.nd, this.mem, by have := this.len; omega, this.sh⟩
    · rintro σ H3 ⟨xs, o3, v3, v4, rfl, s3, sb3, hp4, hM3⟩
      rw [List.length_map, hT.1, List.take_length] at hM3
      have hxl : xs.length ≤ 1000 := by
        have := hM3.len
        omega
      refine ⟨_, rfl, p, xs, o3, rfl, hp4, fun D hD => ?_⟩
      refine lc_keys (P := P) (w := w) (a := p) (xs := xs) (o := o3) (fun i ys H4 => Same H3 H4 ∧ H4 D = some (.lst ys) ∧ ∃ us : List (Addr × L2.KP), ys = us.map (fun u => V.ref u.1) ∧ us.map (·.2) = (xs.take i).map (fun x => kOf x.1) ∧ ∀ u ∈ us, PrA H4 u ∧ u.1 ≠ D) (Nat.le_of_lt (small9 (by omega)))
        ⟨(Same.refl H3).upd_free hD, upd_same, [], rfl, rfl, fun u hu => by cases hu⟩ (fun i ys H4 h => ?_) (fun i ys H4 h => h.1 _ _ hp4) ?_ ?_
      · obtain ⟨_, _, us, rfl, h2, _⟩ := h
        have := congrArg List.length h2
        rw [List.length_map, List.length_map, List.length_take] at this
        rw [List.length_map]
        omega
      · rintro i ys H4 x N M hx ⟨u1, u2, us, rfl, h2, h3⟩ hN hM
        have hxa : H4 x.2.1 = some (.tup (x.1.map V.int)) := u1 _ _ (hM3.at' x (List.mem_of_getElem? hx))
        refine ⟨_, rfl, x.2.1, _, rfl, .inr (SqT.of hxa), _, rfl, (by show 2 ≤ sizeLine; decide), fun q hq => ?_⟩
        have s5 := (Same.refl H4).upd_free (o := .tup [.int ((x.1.map V.int).length : Int), .ref x.2.1]) hq
        have hq5 : upd H4 q (.tup [.int ((x.1.map V.int).length : Int), .ref x.2.1]) q = some (.tup [.int ((x.1.map V.int).length : Int), .ref x.2.1]) := upd_same
        generalize upd H4 q (.tup [.int ((x.1.map V.int).length : Int), .ref x.2.1]) = H5 at s5 hq5
        rw [List.length_map] at hq5
        have nqD : q ≠ D := fun e => by rw [e] at hq; rw [hq] at u2; cases u2
        have tsD : TSame H5 (upd H5 D (.lst (us.map (fun u => V.ref u.1) ++ [.ref q]))) := TSame.upd_lst (fun _ _ e => e) (s5 _ _ u2)
        refine hN _ H5 (s5 _ _ u2) ⟨(u1.trans s5).upd_free hD, upd_same, us ++ [(q, kOf x.1)], by rw [List.map_append]; rfl, ?_, fun u hu => ?_⟩
        · rw [List.map_append, h2, List.take_add_one, hx, List.map_append]
          rfl
        · rcases List.mem_append.mp hu with h | h
          · exact ⟨((h3 u h).1.tsame s5.tups).tsame tsD, (h3 u h).2⟩
          · rw [List.mem_singleton.mp h]
            exact ⟨PrA.tsame ⟨x.2.1, hq5, s5 _ _ hxa⟩ tsD, nqD⟩
      · rintro ys H4 ⟨u1, u2, us, rfl, h2, h3⟩
        rw [List.take_length] at h2
        have hul : us.length = xs.length := by
          have := congrArg List.length h2
          rwa [List.length_map, List.length_map] at this
        have hmm : us.map (·.2.2) = xs.map (·.1) := by
          have := congrArg (List.map Prod.snd) h2
          rw [List.map_map, List.map_map] at this
          exact this
        refine ⟨D, us, rfl, SqL.of u2, fun u hu => (h3 u hu).1, by omega, fun ls zs hls hpm hso => ?_⟩
        have h2' : ∀ u ∈ us, u.2 = kOf u.2.2 ∧ u.2.2.length ≤ 8 := fun u hu => by
          have : u.2 ∈ us.map (·.2) := List.mem_map_of_mem hu
          rw [h2] at this
          obtain ⟨x, hx, ex⟩ := List.mem_map.mp this
          rw [← ex]
          exact ⟨rfl, hM3.sh x hx⟩
        obtain ⟨a1, a2, a3, a4, a5⟩ := srt_keys (S := isB rs) (fun u hu => (h3 u hu).1) (fun u hu => (h2' u hu).1) (by rw [hmm]; exact hM3.nd) (fun ns => by rw [hmm]; exact hM3.mem ns) (fun u hu => (h2' u hu).2) hpm hso
        have s9 := (Same.refl H4).upd_free (o := .lst (zs.map fun z => V.ref z.1)) hls
        have hls7 : upd H4 ls (.lst (zs.map fun z => V.ref z.1)) ls = some (.lst (zs.map fun z => V.ref z.1)) := upd_same
        generalize upd H4 ls (.lst (zs.map fun z => V.ref z.1)) = H7 at s9 hls7
        have sH7 : Same H H7 := s3.trans (u1.trans s9)
        refine ⟨ls, rfl, ⟨_, SqL.of hls7⟩, fun D2 hD2 => ?_⟩
        have hzl : (zs.map fun z => V.ref z.1).length = zs.length := List.length_map _
        refine lc_list2 (K := K) (a := ls) (xs := zs.map fun z => V.ref z.1) (fun i ys H8 => Same H7 H8 ∧ H8 D2 = some (.lst ys) ∧ ∃ vs : List (Addr × List Int), ys = vs.map (fun z => V.ref z.1) ∧ vs.map (·.2) = (zs.map (·.2.2)).take i ∧ ∀ u ∈ vs, RA H7 u.1 u.2) (Nat.le_of_lt (small9 (by omega)))
          ⟨(Same.refl H7).upd_free hD2, upd_same, [], rfl, rfl, fun u hu => by cases hu⟩ (fun i ys H8 h => ?_) (fun i ys H8 h => SqL.of (h.1 _ _ hls7)) ?_ ?_
        · obtain ⟨_, _, vs, rfl, h2, _⟩ := h
          have := congrArg List.length h2
          rw [List.length_map, List.length_take] at this
          rw [List.length_map]
          omega
        · rintro i ys H8 x hx ⟨u1, u2, vs, rfl, h2, h3⟩
          have hi : i < zs.length := by
            have := (List.getElem?_eq_some_iff.mp hx).1
            omega
          have ez : zs[i]? = some zs[i] := List.getElem?_eq_getElem hi
          generalize zs[i] = z at ez
          rw [List.getElem?_map, ez] at hx
          cases hx
          obtain ⟨c, c1, c2⟩ := a1 z (List.mem_of_getElem? ez)
          refine ⟨z.1, _, _, rfl, SqT.of (u1 _ _ (s9 _ _ c1)), fun N M' hN hM' => ?_⟩
          refine ⟨_, rfl, hN _ H8 u2 ⟨u1.upd_free hD2, upd_same, vs ++ [(c, z.2.2)], by simp, ?_, fun u hu => ?_⟩⟩
          · rw [List.map_append, h2, List.take_add_one, List.getElem?_map, ez]
            rfl
          · rcases List.mem_append.mp hu with hu | hu
            · exact h3 u hu
            · rw [List.mem_singleton.mp hu]
              exact s9 _ _ c2
        · rintro ys H8 ⟨u1, u2, vs, rfl, h2, h3⟩
          rw [hzl, List.take_of_length_le (by rw [List.length_map]; exact Nat.le_refl _)] at h2
          have hvl : vs.length = zs.length := by
            have := congrArg List.length h2
            rwa [List.length_map, List.length_map] at this
          refine k D2 vs H8 (sH7.trans u1) (sH7.free hD2) u2 ⟨fun z hz => u1 _ _ (h3 z hz), by rw [h2]; exact a2, fun ns => ?_, by rw [hvl, a4]; omega, fun z hz => ?_⟩
          · rw [h2]; exact a3 ns
          · have : z.2 ∈ vs.map (·.2) := List.mem_map_of_mem hz
            rw [h2] at this
            obtain ⟨y, hy, ey⟩ := List.mem_map.mp this
            rw [← ey]
            exact a5 y hy
end
end BG
namespace BG
open PySem L2 SO K20

def Cnt (rs : List (List Int)) (n : Nat) : Prop := ∃ l : List (List Int), Srt l ∧ (∀ ns, ns ∈ l ↔ isB rs ns) ∧ l.length ≤ n
theorem isB_sub {a b : List (List Int)} (h : ∀ r ∈ a, r ∈ b) {ns : List Int} (q : isB a ns) : isB b ns := q.imp id fun ⟨r, h1, h2⟩ => ⟨r, h r h1, h2⟩
open Classical in
theorem Cnt.sub {a b : List (List Int)} {n : Nat} (h : Cnt b n) (hs : ∀ r ∈ a, r ∈ b) : Cnt a n := by
  obtain ⟨l, h1, h2, h3⟩ := h
  refine ⟨l.filter fun ns => decide (isB a ns), List.Pairwise.filter _ h1, fun ns => ?_, Nat.le_trans (List.length_filter_le _ _) h3⟩
  rw [List.mem_filter, h2, decide_eq_true_iff]
  exact ⟨fun q => q.2, fun q => ⟨isB_sub hs q, q⟩⟩
theorem cnt_of {H : Hp} {zs : List (Addr × List Int)} {rs : List (List Int)} {n : Nat} (h : SrA H zs (isB rs)) (hn : zs.length ≤ n) : Cnt rs n := ⟨_, h.srt, h.mem, by rw [List.length_map]; exact hn⟩
theorem Cnt.len {H : Hp} {zs : List (Addr × List Int)} {rs : List (List Int)} {n : Nat} (c : Cnt rs n) (h : SrA H zs (isB rs)) : zs.length ≤ n := by
  obtain ⟨l, h1, h2, h3⟩ := c
  have : l = zs.map (·.2) := srt_eq h1 h.srt fun ns => (h2 ns).trans (h.mem ns).symm
  rw [this, List.length_map] at h3
  exact h3
theorem cut_init (xs : List V) : cutV xs none (some (-1)) = xs.dropLast := by
  unfold cutV
  have e : HT.sIx xs.length xs.length (some (-1)) = xs.length - 1 := by
    have e1 : HT.sIx xs.length xs.length (some (-1)) = ((-1 : Int) + (xs.length : Int)).toNat := by
      unfold HT.sIx
      simp
    rw [e1]
    omega
  rw [e, HT.sIx_none, List.drop_zero, Nat.sub_zero, List.dropLast_eq_take]
theorem tups_init {H : Hp} {ts : List Addr} {gs : List (List Int)} (h : TupsAt H ts gs) : TupsAt H ts.dropLast gs.dropLast := by
  rw [List.dropLast_eq_take, List.dropLast_eq_take, h.1]
  exact tups_take h _
theorem mem_init {gs g2 : List (List Int)} {r : List Int} (h : g2 = gs ∨ g2 = gs ++ [r]) : ∀ x ∈ g2.dropLast, x ∈ gs := by
  rcases h with rfl | rfl
  · exact fun x hx => (List.dropLast_sublist _).subset hx
  · rw [List.dropLast_concat]
    exact fun x hx => hx

structure Twos (many longest : Int) (fr : Prop) (rms : Rms) (gs bs : List (List Int)) : Prop where
  g12 : gs.length ≤ 12
  b12 : bs.length ≤ 12
  sh : ∀ r ∈ gs ++ bs, (r.length : Int) ≤ longest
  le : ∀ r ∈ gs ++ bs, ∀ x ∈ r, 0 ≤ x ∧ x < many
  dis : ∀ r ∈ gs, r ∉ bs
  hid : fr ∨ (∀ r ∈ gs, gdw rms r = true) ∧ ∀ r ∈ bs, gdw rms r = false
theorem Twos.sub {many longest : Int} {fr : Prop} {rms : Rms} {gs bs g2 b2 : List (List Int)} (h : Twos many longest fr rms gs bs) (hg : ∀ r ∈ g2, r ∈ gs) (hb : ∀ r ∈ b2, r ∈ bs) (l1 : g2.length ≤ 12) (l2 : b2.length ≤ 12) : Twos many longest fr rms g2 b2 := by
  have hh : ∀ r ∈ g2 ++ b2, r ∈ gs ++ bs := fun r hr => (List.mem_append.mp hr).elim (fun q => List.mem_append_left _ (hg r q)) fun q => List.mem_append_right _ (hb r q)
  exact ⟨l1, l2, fun r hr => h.sh r (hh r hr), fun r hr => h.le r (hh r hr), fun r hr q => h.dis r (hg r hr) (hb r q), h.hid.imp id fun ⟨a, b⟩ => ⟨fun r hr => a r (hg r hr), fun r hr => b r (hb r hr)⟩⟩
section
variable {P : Program} {w : World} {K : PySem.W.Frag} {mg : Str → Option Value} {base : Heap}
def spTw (K : PySem.W.Frag) : Sp := fun vs H Q _ => ∃ (a : Addr) (ns : List Int) (many size longest limit : Int), vs = [.ref a, .int many, .int size, .int longest, .int limit] ∧ SqL K H a (ns.map V.int) ∧ ns.length ≤ 63 ∧ 0 ≤ many ∧ many ≤ 8 ∧ 1 ≤ size ∧ size ≤ 5 ∧ 0 ≤ longest ∧ longest ≤ 8 ∧ 1 ≤ limit ∧ limit ≤ 100 ∧
  ∀ (t g b : Addr) (gs bs : List (List Int)) (rms : Rms) (H' : Hp), Same H H' → H' t = some (.tup [.ref g, .ref b]) → RsT H' g gs → RsT H' b bs → Good many rms → (rms.length : Int) = size → Twos many longest (cellM ns 2 / 13 % 4 = 3) rms gs bs → Cnt (gs ++ bs) limit.toNat → Q (.ref t) H'
abbrev nTw : List Str := ["_law_script", "_law_many", "_law_size", "_law_longest", "_law_limit", "_law_hidden_here", "_law_good", "_law_bad", "_law_k", "_law_cell", "_law_run_here", "_law_right_here"]
theorem scTw : FnScope nTw ["_law_script", "_law_many", "_law_size", "_law_longest", "_law_limit"] (defScope sTw) := ⟨rfl, rfl, rfl, by decide +kernel, rfl, by decide +kernel, by decide +kernel⟩
theorem ok_tw {f fC fH fR fI fB : Addr} {fd fdC fdH fdR fdI fdB : FuncData} (F : Fun K "_law_two" "_law_two" sTw f fd) (T : Txt mg)
    (FC : Fun K "_law_cell_at" "_law_cell_at" sCe fC fdC) (bC : Binds K fdC ["_law_script", "_law_k"] []) (gC : mg "_law_cell_at" = some (.ref fC)) (GC : FnOk P w K mg base CX0 1 fC fdC ["_law_script", "_law_k"] (spCe K))
    (FH : Fun K "_law_hidden" "_law_hidden" sHi fH fdH) (bH : Binds K fdH ["_law_cell", "_law_many", "_law_size"] []) (gH : mg "_law_hidden" = some (.ref fH)) (GH : FnOk P w K mg base CX0 2 fH fdH ["_law_cell", "_law_many", "_law_size"] spHi)
    (FR : Fun K "_law_run" "_law_run" sRu fR fdR) (bR : Binds K fdR ["_law_cell", "_law_many", "_law_longest"] []) (gR : mg "_law_run" = some (.ref fR)) (GR : FnOk P w K mg base CX0 1 fR fdR ["_law_cell", "_law_many", "_law_longest"] spRu)
    (FI : Fun K "_law_right" "_law_right" sRi fI fdI) (bI : Binds K fdI ["_law_rooms", "_law_run_here"] []) (gI : mg "_law_right" = some (.ref fI)) (GI : FnOk P w K mg base CX0 1 fI fdI ["_law_rooms", "_law_run_here"] spRi)
    (FB : Fun K "_law_begins" "_law_begins" sBe fB fdB) (bB : Binds K fdB ["_law_good", "_law_bad"] []) (gB : mg "_law_begins" = some (.ref fB)) (GB : FnOk P w K mg base CX0 1 fB fdB ["_law_good", "_law_bad"] spBe) :
    FnOk P w K mg base CX0 3 f fd ["_law_script", "_law_many", "_law_size", "_law_longest", "_law_limit"] (spTw K) := by
  refine F.ok scTw (fun vs H Q E h => ?_) (fun cdv A outer s H vs Q E hr h => ?_)
  · obtain ⟨a, ns, many, size, longest, limit, rfl, _⟩ := h
    rfl
  · obtain ⟨a, ns, many, size, longest, limit, rfl, hS, hn63, m0, m1, z0, z1, l0, l1, t0, t1, k⟩ := h
    have hr1 : Room 1 _ := hr.mono (by decide)
    have hu64 := hr.units
    refine ⟨_, pss_cons (ps_set (i := 5) scTw.nd rfl (Or.inl rfl) (pe_call GH hr rfl gH FH.kp bH .nil pass0 (pa_cons (pe_call GC hr1 rfl gC FC.kp bC .nil pass0 (pa_cons (pv 0) (pa_cons pe_int pa_nil))) (pa_cons (pv 1) (pa_cons (pv 2) pa_nil)))))
      (pss_cons (ps_set (i := 6) scTw.nd rfl (Or.inl rfl) (pe_lst pa_nil))
      (pss_cons (ps_set (i := 7) scTw.nd rfl (Or.inl rfl) (pe_lst pa_nil))
      (pss_cons (ps_for PassesOwn.never rfl (pi_range2 rfl T.range (pa_cons pe_int (pa_cons (pe_callB (call_max2 rfl) (by rfl) T.max PyProof.Rows.boot_max (pa_cons (pe_op op_add pe_int (pe_op op_mod (pe_call GC hr1 rfl gC FC.kp bC .nil pass0 (pa_cons (pv 0) (pa_cons pe_int pa_nil))) pe_int)) (pa_cons (pe_callB (call_min2 rfl) (by rfl) T.min PyProof.Rows.boot_min (pa_cons (pe_callB call_len_seq (by rfl) T.len PySem.boot_len (pa_cons (pv 0) pa_nil)) (pa_cons pe_int pa_nil))) pa_nil))) pa_nil))) (pg_name (i := 8) scTw.nd rfl (Or.inl rfl))
        (pss_cons (ps_set (i := 9) scTw.nd rfl (Or.inl rfl) (pe_call GC hr1 rfl gC FC.kp bC .nil pass0 (pa_cons (pv 0) (pa_cons (pv 8) pa_nil))))
        (pss_cons (ps_set (i := 10) scTw.nd rfl (Or.inl rfl) (pe_call GR hr1 rfl gR FR.kp bR .nil pass0 (pa_cons (pe_op op_fdiv (pv 9) pe_int) (pa_cons (pv 1) (pa_cons (pv 3) pa_nil)))))
        (pss_cons (ps_set (i := 11) scTw.nd rfl (Or.inl rfl) (pe_call GI hr1 rfl gI FI.kp bI .nil pass0 (pa_cons (pv 5) (pa_cons (pv 10) pa_nil))))
        (pss_cons (ps_cut (ps_if (pt_cmpR op_eq (pe_op op_mod (pe_op op_fdiv (pe_call GC hr1 rfl gC FC.kp bC .nil pass0 (pa_cons (pv 0) (pa_cons pe_int pa_nil))) pe_int) pe_int) pe_int (nomark _)) (pss_one (ps_set (i := 11) scTw.nd rfl (Or.inl rfl) (pe_cmpR op_eq (pe_op op_mod (pv 9) pe_int) pe_int (nomark _)))) pss_nil))
        (pss_cons (ps_cut (ps_if (PW.pt (pw_and (pt_val (pv 11)) (pw_and (pt_cmpR (op_notInD hu64) (pv 10) (pv 7) (by with_unfolding_all rfl)) (pw_and1 (pt_cmpR op_lt (pe_callB call_len_seq (by rfl) T.len PySem.boot_len (pa_cons (pv 6) pa_nil)) pe_int (nomark _))))))
          (pss_one (ps_expr (pe_bm PySem.F.plainAttrs_list PySem.F.slot_list_append PySem.F.type_list_append mt_append (pv 6) (pa_cons (pv 10) pa_nil)))) pss_nil))
        (pss_cons (ps_cut (ps_if (PW.pt (pw_and (pt_not (pt_val (pv 11))) (pw_and (pt_cmpR (op_notInD hu64) (pv 10) (pv 6) (by with_unfolding_all rfl)) (pw_and1 (pt_cmpR op_lt (pe_callB call_len_seq (by rfl) T.len PySem.boot_len (pa_cons (pv 7) pa_nil)) pe_int (nomark _))))))
          (pss_one (ps_expr (pe_bm PySem.F.plainAttrs_list PySem.F.slot_list_append PySem.F.type_list_append mt_append (pv 7) (pa_cons (pv 10) pa_nil)))) pss_nil))
        (pss_one (ps_if (pt_cmpR op_gt (pe_callB call_len_seq (by rfl) T.len PySem.boot_len (pa_cons (pe_call GB hr1 rfl gB FB.kp bB .nil pass0 (pa_cons (pv 6) (pa_cons (pv 7) pa_nil))) pa_nil)) (pv 4) (nomark _))
          (pss_cons (ps_set (i := 6) scTw.nd rfl (Or.inl rfl) (pe_slice sl_list (pv 6) po_none (po_some (pe_un un_neg pe_int))))
          (pss_one (ps_set (i := 7) scTw.nd rfl (Or.inl rfl) (pe_slice sl_list (pv 7) po_none (po_some (pe_un un_neg pe_int)))))) pss_nil)))))))))
      (pss_one (ps_ret (pe_tup (pa_cons (pe_callTy call_tuple_of (by rfl) T.tuple PyProof.Rows.boot_tuple (pa_cons (pv 6) pa_nil)) (pa_cons (pe_callTy call_tuple_of (by rfl) T.tuple PyProof.Rows.boot_tuple (pa_cons (pv 7) pa_nil)) pa_nil)))))))), ?_⟩
    refine ⟨_, rfl, a, ns, 1, rfl, hS, by omega, by decide, by decide, fun H1 s1 => ?_⟩
    refine ⟨_, rfl, _, rfl, _, many, size, rfl, m0, m1, z0, z1, fun r rms H0 s01 hR G hsz => ?_⟩
    have sH0 := s1.trans s01
    refine ⟨Nat.zero_le _, fun g0 hg0 => ⟨Nat.zero_le _, fun b0 hb0 => ?_⟩⟩
    have sA := (Same.refl H0).upd_free (o := .lst []) hg0
    have qg : upd H0 g0 (.lst []) g0 = some (.lst []) := upd_same
    have hb0' := sA.free hb0
    have ngb : g0 ≠ b0 := fun e => by rw [← e] at hb0; rw [hb0] at qg; cases qg
    generalize upd H0 g0 (.lst []) = H2 at sA qg hb0
    have sB := (Same.refl H2).upd_free (o := .lst []) hb0
    have qb : upd H2 b0 (.lst []) b0 = some (.lst []) := upd_same
    have qg' := sB _ _ qg
    generalize upd H2 b0 (.lst []) = H3 at sB qb qg'
    have sH3 := sH0.trans (sA.trans sB)
    refine ⟨_, rfl, a, ns, 2, rfl, sH3.seq hS, by omega, by decide, by decide, fun H4 s4 => ?_⟩
    refine ⟨_, _, rfl, rfl, (by show (0 : Int) < 13; decide), _, _, rfl, rfl, _, rfl, a, _, rfl, .inl ((sH3.trans s4).seq hS), _, _, rfl, _, _, rfl, ?_⟩
    have hc2 : 0 ≤ cellM ns 2 % 13 ∧ cellM ns 2 % 13 < 13 := ⟨Int.emod_nonneg _ (by decide), Int.emod_lt_of_pos _ (by decide)⟩
    generalize hhi : (if (if (27 : Int) < ((ns.map V.int).length : Int) then (27 : Int) else ((ns.map V.int).length : Int)) > 3 + cellM ns 2 % 13 then (if (27 : Int) < ((ns.map V.int).length : Int) then (27 : Int) else ((ns.map V.int).length : Int)) else 3 + cellM ns 2 % 13) = hi
    have hib : 3 ≤ hi ∧ hi ≤ 63 := by
      rw [List.length_map] at hhi
      rw [← hhi]
      constructor <;> (split <;> (try split) <;> omega)
    refine ⟨_, _, rfl, ⟨by omega, by omega, by omega, by omega⟩, ?_⟩
    have c0 : Cnt ([] ++ []) limit.toNat := ⟨[[]], List.pairwise_singleton _ _, fun ns => ⟨fun h => .inl (by simpa using h), fun h => h.elim (fun e => by simp [e]) fun ⟨r, h1, _⟩ => by cases h1⟩, by show 1 ≤ _; omega⟩
    refine for_range (lo := 3) (n := (hi - 3).toNat) (fun i σ H5 => ∃ (g b : Addr) (gs bs : List (List Int)) (v8 v9 v10 v11 : Option V), σ = [some (.ref a), some (.int many), some (.int size), some (.int longest), some (.int limit), some (.ref r), some (.ref g), some (.ref b), v8, v9, v10, v11] ∧
        Same H0 H5 ∧ H0 g = none ∧ H0 b = none ∧ g ≠ b ∧ RsL H5 g gs ∧ RsL H5 b bs ∧ Twos many longest (cellM ns 2 / 13 % 4 = 3) rms gs bs ∧ Cnt (gs ++ bs) limit.toNat)
      ⟨g0, b0, [], [], none, none, none, none, rfl, (sA.trans sB).trans s4, hg0, hb0', ngb, ⟨[], s4 _ _ qg', tups_nil⟩, ⟨[], s4 _ _ qb, tups_nil⟩, ⟨by decide, by decide, fun r hr' => by (cases hr'), fun r hr' => by (cases hr'), fun r hr' => by (cases hr'), .inr ⟨fun r hr' => by (cases hr'), fun r hr' => by (cases hr')⟩⟩, c0⟩ ?_ ?_
    · rintro i σ H5 hi' ⟨g, b, gs, bs, v8, v9, v10, v11, rfl, s5, fg, fb, nab, hg, hb, hT, hC⟩
      have hS5 := (sH0.trans s5).seq hS
      refine ⟨_, rfl, _, rfl, a, ns, _, rfl, hS5, by omega, by omega, by omega, fun H6 s6 => ?_⟩
      refine ⟨_, rfl, _, _, rfl, rfl, ⟨by decide, by decide⟩, _, rfl, _, rfl, _, many, longest, rfl, m0, m1, l0, l1, fun t rn H7 s7 ht hrl hrx => ?_⟩
      have s57 := s6.trans s7
      refine ⟨_, rfl, _, rfl, r, t, many, rms, rn, rfl, hR.same (s5.trans s57), G, ht, hrx, ?_⟩
      -- may be put otherwise
      refine ⟨fun σ' H' => ∃ bt : Bool, σ' = [some (.ref a), some (.int many), some (.int size), some (.int longest), some (.int limit), some (.ref r), some (.ref g), some (.ref b), some (.int (3 + (i : Int))), some (.int (cellM ns (3 + (i : Int)))), some (.ref t), some (.bl bt)] ∧ Same H7 H' ∧ (cellM ns 2 / 13 % 4 = 3 ∨ bt = gdw rms rn), ?_, ?_⟩
      · refine ⟨_, rfl, a, ns, 2, rfl, (sH0.trans (s5.trans s57)).seq hS, by omega, by decide, by decide, fun H8 s8 => ?_⟩
        refine ⟨_, _, rfl, rfl, ⟨by decide, by decide⟩, _, _, rfl, rfl, (by show (0 : Int) < 4; decide), rfl, _, rfl, ?_⟩
        refine ite2 (fun hc => ?_) (fun hc => ?_)
        · have hc' : cellM ns 2 / 13 % 4 = 3 := by
            have := of_decide_eq_true hc
            injection this
          exact ⟨_, rfl, _, _, rfl, rfl, (by show (0 : Int) < 3; decide), rfl, _, rfl, s8, .inl hc'⟩
        · exact ⟨_, rfl, s8, .inr rfl⟩
      rintro σ' H8 ⟨bt, rfl, s8, hbt⟩
      have s58 := s57.trans s8
      obtain ⟨tg, hg1, hg2⟩ := hg.same s58
      obtain ⟨tb, hb1, hb2⟩ := hb.same s58
      have ht8 := s8 _ _ ht
      have s08 := s5.trans s58
      have g12 := hT.g12
      have b12 := hT.b12
      have lgt : (tg.map V.ref).length = gs.length := by rw [List.length_map]; exact hg2.1
      have lbt : (tb.map V.ref).length = bs.length := by rw [List.length_map]; exact hb2.1
      clear hg hb
      -- the good ones
      refine ⟨fun σ' H' => ∃ gs' : List (List Int), σ' = [some (.ref a), some (.int many), some (.int size), some (.int longest), some (.int limit), some (.ref r), some (.ref g), some (.ref b), some (.int (3 + (i : Int))), some (.int (cellM ns (3 + (i : Int)))), some (.ref t), some (.bl bt)] ∧ Same H0 H' ∧ RsL H' g gs' ∧ RsL H' b bs ∧ RA H' t rn ∧ ((gs' = gs) ∨ (bt = true ∧ gs' = gs ++ [rn] ∧ rn ∉ bs ∧ gs'.length ≤ 12)), ?_, ?_⟩
      · refine ⟨_, rfl, bt, rfl, ?_⟩
        have stay : ∃ gs' : List (List Int), [some (V.ref a), some (.int many), some (.int size), some (.int longest), some (.int limit), some (.ref r), some (.ref g), some (.ref b), some (.int (3 + (i : Int))), some (.int (cellM ns (3 + (i : Int)))), some (.ref t), some (.bl bt)] = [some (V.ref a), some (.int many), some (.int size), some (.int longest), some (.int limit), some (.ref r), some (.ref g), some (.ref b), some (.int (3 + (i : Int))), some (.int (cellM ns (3 + (i : Int)))), some (.ref t), some (.bl bt)] ∧ Same H0 H8 ∧ RsL H8 g gs' ∧ RsL H8 b bs ∧ RA H8 t rn ∧ ((gs' = gs) ∨ (bt = true ∧ gs' = gs ++ [rn] ∧ rn ∉ bs ∧ gs'.length ≤ 12)) := ⟨gs, rfl, s08, ⟨tg, hg1, hg2⟩, ⟨tb, hb1, hb2⟩, ht8, .inl rfl⟩
        refine ite2 (fun hbt' => ?_) (fun _ => iteF stay)
        refine ⟨_, rfl, _, rfl, in_runs ht8 (.inl (SqL.of hb1)) hb2 ⟨_, rfl, ?_⟩⟩
        refine ite2 (fun hnb => ?_) (fun _ => iteF stay)
        have hnb' : rn ∉ bs := by simpa using hnb
        refine ⟨_, rfl, g, _, rfl, .inl (SqL.of hg1), _, _, rfl, rfl, _, rfl, ?_⟩
        refine ite2 (fun hlt => ?_) (fun _ => stay)
        have hlt' : ((tg.map V.ref).length : Int) < 12 := of_decide_eq_true hlt
        refine ⟨_, rfl, .inl ⟨rfl, _, SqL.of hg1⟩, _, rfl, g, _, _, rfl, rfl, hg1, small1000 (by omega), ?_⟩
        have ts8 : TSame H8 (upd H8 g (.lst (tg.map V.ref ++ [.ref t]))) := TSame.upd_lst (fun _ _ e => e) hg1
        refine ⟨gs ++ [rn], rfl, s08.upd_free fg, ⟨tg ++ [t], by rw [upd_same, List.map_append]; rfl, tups_snoc (hg2.tsame ts8) (ts8 _ _ ht8)⟩, ⟨tb, by rw [upd_ne nab.symm]; exact hb1, hb2.tsame ts8⟩, ts8 _ _ ht8, .inr ⟨hbt', rfl, hnb', by rw [List.length_append, List.length_singleton]; omega⟩⟩
      rintro σ' H9 ⟨gs', rfl, s09, ⟨tg', hg1', hg2'⟩, ⟨tb', hb1', hb2'⟩, ht9, hcase⟩
      have lbt' : (tb'.map V.ref).length = bs.length := by rw [List.length_map]; exact hb2'.1
      clear hg1 hg2 hb1 hb2
      -- the bad ones
      refine ⟨fun σ' H' => ∃ gs2 bs2 : List (List Int), σ' = [some (.ref a), some (.int many), some (.int size), some (.int longest), some (.int limit), some (.ref r), some (.ref g), some (.ref b), some (.int (3 + (i : Int))), some (.int (cellM ns (3 + (i : Int)))), some (.ref t), some (.bl bt)] ∧ Same H0 H' ∧ RsL H' g gs2 ∧ RsL H' b bs2 ∧ (gs2 = gs ∨ gs2 = gs ++ [rn]) ∧ (bs2 = bs ∨ bs2 = bs ++ [rn]) ∧ Twos many longest (cellM ns 2 / 13 % 4 = 3) rms gs2 bs2, ?_, ?_⟩
      · have tw1 : Twos many longest (cellM ns 2 / 13 % 4 = 3) rms gs' bs := by
          rcases hcase with rfl | ⟨hb', rfl, hnb, h12⟩
          · exact hT
          · refine ⟨h12, hT.b12, fun q hq => ?_, fun q hq => ?_, fun q hq => ?_, ?_⟩
            · rcases List.mem_append.mp hq with h | h
              · rcases List.mem_append.mp h with h | h
                · exact hT.sh q (List.mem_append_left _ h)
                · rw [List.mem_singleton.mp h]; exact hrl
              · exact hT.sh q (List.mem_append_right _ h)
            · rcases List.mem_append.mp hq with h | h
              · rcases List.mem_append.mp h with h | h
                · exact hT.le q (List.mem_append_left _ h)
                · rw [List.mem_singleton.mp h]; exact hrx
              · exact hT.le q (List.mem_append_right _ h)
            · rcases List.mem_append.mp hq with h | h
              · exact hT.dis q h
              · rw [List.mem_singleton.mp h]; exact hnb
            · rcases hT.hid with h | ⟨h1, h2⟩
              · exact .inl h
              · rcases hbt with h | h
                · exact .inl h
                · refine .inr ⟨fun q hq => ?_, h2⟩
                  rcases List.mem_append.mp hq with h' | h'
                  · exact h1 q h'
                  · rw [List.mem_singleton.mp h', ← h]; exact hb'
        have gor : gs' = gs ∨ gs' = gs ++ [rn] := hcase.imp id fun h => h.2.1
        have stay : ∃ gs2 bs2 : List (List Int), [some (V.ref a), some (.int many), some (.int size), some (.int longest), some (.int limit), some (.ref r), some (.ref g), some (.ref b), some (.int (3 + (i : Int))), some (.int (cellM ns (3 + (i : Int)))), some (.ref t), some (.bl bt)] = [some (V.ref a), some (.int many), some (.int size), some (.int longest), some (.int limit), some (.ref r), some (.ref g), some (.ref b), some (.int (3 + (i : Int))), some (.int (cellM ns (3 + (i : Int)))), some (.ref t), some (.bl bt)] ∧ Same H0 H9 ∧ RsL H9 g gs2 ∧ RsL H9 b bs2 ∧ (gs2 = gs ∨ gs2 = gs ++ [rn]) ∧ (bs2 = bs ∨ bs2 = bs ++ [rn]) ∧ Twos many longest (cellM ns 2 / 13 % 4 = 3) rms gs2 bs2 := ⟨gs', bs, rfl, s09, ⟨tg', hg1', hg2'⟩, ⟨tb', hb1', hb2'⟩, gor, .inl rfl, tw1⟩
        refine ⟨_, rfl, bt, rfl, ?_⟩
        refine ite2 (fun hnb' => ?_) (fun _ => iteF stay)
        have hbf : bt = false := by simpa using hnb'
        refine ⟨_, rfl, _, rfl, in_runs ht9 (.inl (SqL.of hg1')) hg2' ⟨_, rfl, ?_⟩⟩
        refine ite2 (fun hng => ?_) (fun _ => iteF stay)
        have hng' : rn ∉ gs' := by simpa using hng
        refine ⟨_, rfl, b, _, rfl, .inl (SqL.of hb1'), _, _, rfl, rfl, _, rfl, ?_⟩
        refine ite2 (fun hlt => ?_) (fun _ => stay)
        have hlt' : ((tb'.map V.ref).length : Int) < 12 := of_decide_eq_true hlt
        refine ⟨_, rfl, .inl ⟨rfl, _, SqL.of hb1'⟩, _, rfl, b, _, _, rfl, rfl, hb1', small1000 (by omega), ?_⟩
        have ts9 : TSame H9 (upd H9 b (.lst (tb'.map V.ref ++ [.ref t]))) := TSame.upd_lst (fun _ _ e => e) hb1'
        refine ⟨gs', bs ++ [rn], rfl, s09.upd_free fb, ⟨tg', by rw [upd_ne nab]; exact hg1', hg2'.tsame ts9⟩, ⟨tb' ++ [t], by rw [upd_same, List.map_append]; rfl, tups_snoc (hb2'.tsame ts9) (ts9 _ _ ht9)⟩, gor, .inr rfl, ⟨tw1.g12, by rw [List.length_append, List.length_singleton]; omega, fun q hq => ?_, fun q hq => ?_, fun q hq hq2 => ?_, ?_⟩⟩
        · rcases List.mem_append.mp hq with h | h
          · exact tw1.sh q (List.mem_append_left _ h)
          · rcases List.mem_append.mp h with h | h
            · exact tw1.sh q (List.mem_append_right _ h)
            · rw [List.mem_singleton.mp h]; exact hrl
        · rcases List.mem_append.mp hq with h | h
          · exact tw1.le q (List.mem_append_left _ h)
          · rcases List.mem_append.mp h with h | h
            · exact tw1.le q (List.mem_append_right _ h)
            · rw [List.mem_singleton.mp h]; exact hrx
        · rcases List.mem_append.mp hq2 with h | h
          · exact tw1.dis q hq h
          · rw [List.mem_singleton.mp h] at hq; exact hng' hq
        · rcases tw1.hid with h | ⟨h1, h2⟩
          · exact .inl h
          · rcases hbt with h | h
            · exact .inl h
            · refine .inr ⟨h1, fun q hq => ?_⟩
              rcases List.mem_append.mp hq with h' | h'
              · exact h2 q h'
              · rw [List.mem_singleton.mp h', ← h]; exact hbf
      rintro σ' H10 ⟨gs2, bs2, rfl, s010, hg2, hb2, og, ob, tw2⟩
      have w1 := tw2.g12
      have w2 := tw2.b12
      refine ⟨_, rfl, _, rfl, g, b, true, gs2, bs2, rfl, hg2, hb2, by omega, by omega, fun q hq => by have := tw2.sh q hq; omega, fun lz zs H11 s11 flz hlz hsr => ?_⟩
      refine ⟨lz, _, rfl, .inl (SqL.of hlz), _, rfl, _, _, rfl, rfl, _, rfl, ?_⟩
      refine ite2 (fun hgt => ?_) (fun hle => ?_)
      · obtain ⟨tg2, e1, e2⟩ := hg2.same s11
        obtain ⟨tb2, e3, e4⟩ := hb2.same s11
        refine ⟨_, rfl, _, rfl, _, rfl, g, _, rfl, SqL.of e1, fun p1 hp1 => ?_⟩
        have s12 := (Same.refl H11).upd_free (o := .lst (cutV (tg2.map V.ref) none (some (-1)))) hp1
        have q1 : upd H11 p1 (.lst (cutV (tg2.map V.ref) none (some (-1)))) p1 = some (.lst (cutV (tg2.map V.ref) none (some (-1)))) := upd_same
        generalize upd H11 p1 (.lst (cutV (tg2.map V.ref) none (some (-1)))) = H12 at s12 q1
        refine ⟨_, rfl, _, rfl, _, rfl, b, _, rfl, SqL.of (s12 _ _ e3), fun p2 hp2 => ?_⟩
        have s13 := (Same.refl H12).upd_free (o := .lst (cutV (tb2.map V.ref) none (some (-1)))) hp2
        have q2 : upd H12 p2 (.lst (cutV (tb2.map V.ref) none (some (-1)))) p2 = some (.lst (cutV (tb2.map V.ref) none (some (-1)))) := upd_same
        have np : p1 ≠ p2 := fun e => by rw [← e] at hp2; rw [hp2] at q1; cases q1
        generalize upd H12 p2 (.lst (cutV (tb2.map V.ref) none (some (-1)))) = H13 at s13 q2
        rw [cut_init, ← List.map_dropLast] at q1 q2
        have sE := (s12.trans s13).tups
        have ig := mem_init og
        have ib := mem_init ob
        have lg' : gs2.dropLast.length ≤ 12 := by rw [List.length_dropLast]; omega
        have lb' : bs2.dropLast.length ≤ 12 := by rw [List.length_dropLast]; omega
        refine ⟨p1, p2, gs2.dropLast, bs2.dropLast, _, _, _, _, rfl, (s010.trans s11).trans (s12.trans s13), (s010.trans s11).free hp1, ((s010.trans s11).trans s12).free hp2, np, ⟨_, s13 _ _ q1, tups_init (e2.tsame sE)⟩, ⟨_, q2, tups_init (e4.tsame sE)⟩, hT.sub ig ib lg' lb', hC.sub fun q hq => ?_⟩
        rcases List.mem_append.mp hq with h | h
        · exact List.mem_append_left _ (ig q h)
        · exact List.mem_append_right _ (ib q h)
      · have hle' : zs.length ≤ limit.toNat := by
          have : ¬ limit < ((zs.map fun z => V.ref z.1).length : Int) := fun q => hle (decide_eq_true q)
          rw [List.length_map] at this
          omega
        exact ⟨g, b, gs2, bs2, _, _, _, _, rfl, s010.trans s11, fg, fb, nab, hg2.same s11, hb2.same s11, tw2, cnt_of hsr hle'⟩
    · rintro σ H5 ⟨g, b, gs, bs, v8, v9, v10, v11, rfl, s5, fg, fb, nab, ⟨tg, hg1, hg2⟩, ⟨tb, hb1, hb2⟩, hT, hC⟩
      refine ⟨_, rfl, g, _, rfl, .inl ⟨SqL.of hg1, fun pg hpg => ?_⟩⟩
      have s6 := (Same.refl H5).upd_free (o := .tup (tg.map V.ref)) hpg
      have q1 : upd H5 pg (.tup (tg.map V.ref)) pg = some (.tup (tg.map V.ref)) := upd_same
      generalize upd H5 pg (.tup (tg.map V.ref)) = H6 at s6 q1
      refine ⟨_, rfl, b, _, rfl, .inl ⟨SqL.of (s6 _ _ hb1), fun pb hpb => ?_⟩⟩
      have s7 := (Same.refl H6).upd_free (o := .tup (tb.map V.ref)) hpb
      have q2 : upd H6 pb (.tup (tb.map V.ref)) pb = some (.tup (tb.map V.ref)) := upd_same
      generalize upd H6 pb (.tup (tb.map V.ref)) = H7 at s7 q2
      refine ⟨(by show 2 ≤ sizeLine; decide), fun pt hpt => ?_⟩
      have s8 := (Same.refl H7).upd_free (o := .tup [.ref pg, .ref pb]) hpt
      have q3 : upd H7 pt (.tup [.ref pg, .ref pb]) pt = some (.tup [.ref pg, .ref pb]) := upd_same
      generalize upd H7 pt (.tup [.ref pg, .ref pb]) = H8 at s8 q3
      have s58 := (s6.trans s7).trans s8
      exact k pt pg pb gs bs rms H8 (sH0.trans (s5.trans s58)) q3 ⟨tg, s8 _ _ (s7 _ _ q1), hg2.tsame s58.tups⟩ ⟨tb, s8 _ _ q2, hb2.tsame s58.tups⟩ G hsz hT hC
end
end BG
namespace BG
open PySem L2 SO K20

def AP (gs bs : List (List Int)) (a b t : List Int) : Prop := (a ++ t ∈ gs ∧ b ++ t ∈ bs) ∨ (b ++ t ∈ gs ∧ a ++ t ∈ bs)
def tailsM (hn : List Int) (gs : List (List Int)) : List (List Int) := (gs.filter fun r => decide (r.take hn.length = hn)).map (·.drop hn.length)
theorem mem_tails {hn t : List Int} {gs : List (List Int)} : t ∈ tailsM hn gs ↔ hn ++ t ∈ gs := by
  unfold tailsM
  rw [List.mem_map]
  constructor
  · rintro ⟨r, hr, rfl⟩
    obtain ⟨h1, h2⟩ := List.mem_filter.mp hr
    have h2' := of_decide_eq_true h2
    have : hn ++ r.drop hn.length = r := by
      conv => lhs; rw [← h2']
      rw [List.length_take]
      have e : min hn.length r.length = hn.length := by
        have := congrArg List.length h2'
        rw [List.length_take] at this
        exact this
      rw [e, List.take_append_drop]
    rw [this]
    exact h1
  · intro h
    exact ⟨hn ++ t, List.mem_filter.mpr ⟨h, decide_eq_true (List.take_left' rfl)⟩, List.drop_left' rfl⟩
theorem tails_len {hn : List Int} {gs : List (List Int)} : (tailsM hn gs).length ≤ gs.length := by
  unfold tailsM
  rw [List.length_map]
  exact List.length_filter_le _ _
theorem tails_sh {hn t : List Int} {gs : List (List Int)} (h : ∀ r ∈ gs, r.length ≤ 8) (ht : t ∈ tailsM hn gs) : t.length ≤ 8 := by
  have := h _ (mem_tails.mp ht)
  rw [List.length_append] at this
  omega
section
variable {P : Program} {w : World} {K : PySem.W.Frag} {mg : Str → Option Value} {base : Heap}
abbrev rLen (K : PySem.W.Frag) : List V → Hp → VK → Prop := fun xs H Q => ∃ p ys, xs = [.ref p] ∧ (SqL K H p ys ∨ SqT K H p ys) ∧ Q (.int (ys.length : Int)) H

def spTb : Sp := fun vs H Q _ => ∃ (h g : Addr) (hn : List Int) (gs : List (List Int)), vs = [.ref h, .ref g] ∧ RA H h hn ∧ RsT H g gs ∧ gs.length ≤ 24 ∧ ∀ (l : Addr) (H' : Hp), Same H H' → H l = none → RsL H' l (tailsM hn gs) → Q (.ref l) H'
theorem scTb : FnScope ["head", "runs"] ["head", "runs"] (defScope sTb) := ⟨rfl, rfl, rfl, by decide +kernel, rfl, by decide +kernel, by decide +kernel⟩
def scopeT1 : Scope := { kind := .function, names := [(".0", .local), ("run", .local), ("len", .globalImplicit), ("head", .free)], isGenerator := false, isCoroutine := false, more := [] }
theorem scT1 : BlkScope (defScope sTb) ["head", "runs"] ["run"] ["head"] [0] scopeT1 := ⟨rfl, by decide +kernel, by decide +kernel, by decide +kernel, rfl, by decide +kernel, by decide +kernel⟩
theorem ok_tb {f : Addr} {fd : FuncData} (F : Fun K "tails_behind" "tails_behind" sTb f fd) (T : Txt mg) : FnOk P w K mg base CX0 1 f fd ["head", "runs"] spTb := by
  refine F.ok scTb (fun vs H Q E h => ?_) (fun cdv A outer s H vs Q E hr h => ?_)
  · obtain ⟨h, g, hn, gs, rfl, _⟩ := h
    rfl
  · obtain ⟨h, g, hn, gs, rfl, hh, ⟨ts, hg, hT⟩, l24, k⟩ := h
    have hu64 := hr.units
    refine ⟨_, pss_one (ps_ret (pe_lc scT1 rfl rfl rfl (pi_tup (pv 1)) (fun fp C s1 H1 => pg_name (i := 0) scT1.nd rfl (Or.inl rfl))
      (fun fp C s1 H1 => pts_one (pt_cmpR (r := rEqD K false) (op_eqD hu64) (pe_slice sl_tupA (pv 0) po_none (po_some (pe_callB (r := rLen K) call_len_seq (by rfl) T.len PySem.boot_len (pa_cons (pv 1) pa_nil)))) (pv 1) (nomark _)))
      (fun fp C s1 H1 => pe_slice sl_tupA (pv 0) (po_some (pe_callB (r := rLen K) call_len_seq (by rfl) T.len PySem.boot_len (pa_cons (pv 1) pa_nil))) po_none))), ?_⟩
    have hgt : H g = some (.tup (ts.map V.ref)) := hg
    refine ⟨_, rfl, g, rfl, ⟨_, SqT.of hgt⟩, fun D hD => ?_⟩
    have hlt : (ts.map V.ref).length = gs.length := by rw [List.length_map]; exact hT.1
    refine lc_tup (K := K) (a := g) (xs := ts.map V.ref) (fun i ys H2 => Same H H2 ∧ H2 D = some (.lst ys) ∧ ∃ us : List Addr, ys = us.map V.ref ∧ TupsAt H2 us (tailsM hn (gs.take i))) (Nat.le_of_lt (small1000 (by omega)))
      ⟨(Same.refl H).upd_free hD, upd_same, [], rfl, tups_nil⟩ (fun i ys H2 ⟨_, _, us, e, h⟩ => ?_) (fun i ys H2 h => SqT.of (h.1 _ _ hgt)) ?_ ?_
    · rw [e, List.length_map, h.1]
      refine Nat.le_trans tails_len ?_
      rw [List.length_take]
      exact Nat.min_le_left _ _
    · rintro i ys H2 x N M hx ⟨u1, u2, us, rfl, hU⟩ hN hM
      have hi : i < gs.length := by
        have := (List.getElem?_eq_some_iff.mp hx).1
        omega
      have er : gs[i]? = some gs[i] := List.getElem?_eq_getElem hi
      generalize gs[i] = r at er
      obtain ⟨t, e1, e2⟩ := hT.2 i r er
      rw [List.getElem?_map, e1] at hx
      cases hx
      have tk : gs.take (i + 1) = gs.take i ++ [r] := by rw [List.take_add_one, er]; rfl
      have hlh : (hn.map V.int).length = hn.length := List.length_map _
      refine ⟨_, rfl, _, rfl, h, _, rfl, .inr (SqT.of (u1 _ _ hh)), _, rfl, t, _, rfl, u1 _ _ e2, fun p H3 s3 hp => ?_⟩
      rw [hlh, cut_take, ← List.map_take] at hp
      refine ⟨_, rfl, dRun (r.take hn.length), dRun hn, run_dat hp, run_dat ((u1.trans s3) _ _ hh), dRun_ok _, dRun_ok _, _, rfl, ?_⟩
      rw [dRun_eqv]
      by_cases hc : r.take hn.length = hn
      · rw [decide_eq_true hc]
        refine iteT ?_
        refine ⟨_, rfl, _, rfl, h, _, rfl, .inr (SqT.of ((u1.trans s3) _ _ hh)), _, rfl, t, _, rfl, (u1.trans s3) _ _ e2, fun p2 H4 s4 hp2 => ?_⟩
        rw [hlh, cut_drop, ← List.map_drop] at hp2
        have s24 := s3.trans s4
        have tsD : TSame H4 (upd H4 D (.lst (us.map V.ref ++ [.ref p2]))) := TSame.upd_lst (fun _ _ e => e) (s24 _ _ u2)
        refine hN _ H4 (s24 _ _ u2) ⟨(u1.trans s24).upd_free hD, upd_same, us ++ [p2], by rw [List.map_append]; rfl, ?_⟩
        have et : tailsM hn (gs.take (i + 1)) = tailsM hn (gs.take i) ++ [r.drop hn.length] := by
          rw [tk]
          unfold tailsM
          rw [List.filter_append, List.map_append]
          simp [hc]
        rw [et]
        exact tups_snoc ((hU.tsame s24.tups).tsame tsD) (tsD _ _ hp2)
      · rw [decide_eq_false hc]
        refine iteF (hM H3 ⟨u1.trans s3, s3 _ _ u2, us, rfl, ?_⟩)
        have et : tailsM hn (gs.take (i + 1)) = tailsM hn (gs.take i) := by
          rw [tk]
          unfold tailsM
          rw [List.filter_append, List.map_append]
          simp [hc]
        rw [et]
        exact hU.tsame s3.tups
    · rintro ys H2 ⟨u1, u2, us, rfl, hU⟩
      rw [hlt, List.take_length] at hU
      exact k D H2 u1 hD ⟨us, u2, hU⟩

def spAp : Sp := fun vs H Q _ => ∃ (g b o p : Addr) (gs bs : List (List Int)) (on pn : List Int), vs = [.ref g, .ref b, .ref o, .ref p] ∧ RsT H g gs ∧ RsT H b bs ∧ RA H o on ∧ RA H p pn ∧ gs.length ≤ 24 ∧ bs.length ≤ 24 ∧ (∀ r ∈ gs, r.length ≤ 8) ∧ on.length ≤ 100 ∧ pn.length ≤ 100 ∧
  (∀ H', Same H H' → (∀ t, ¬ AP gs bs on pn t) → Q .non H') ∧ ∀ (q : Addr) (t : List Int) (H' : Hp), Same H H' → RA H' q t → AP gs bs on pn t → (∀ t', AP gs bs on pn t' → prLt (kOf t') (kOf t) = false) → Q (.ref q) H'
abbrev nAp : List Str := ["good", "bad", "one", "other", "found", "first", "second"]
theorem scAp : FnScope nAp ["good", "bad", "one", "other"] (defScope sAp) := ⟨rfl, rfl, rfl, by decide +kernel, rfl, by decide +kernel, by decide +kernel⟩
def scopeA1 : Scope := { kind := .function, names := [(".0", .local), ("tail", .local), ("bad", .free), ("second", .free)], isGenerator := false, isCoroutine := false, more := [] }
theorem scA1 : BlkScope (defScope sAp) nAp ["tail"] ["bad", "second"] [1, 6] scopeA1 := ⟨rfl, by decide +kernel, by decide +kernel, by decide +kernel, rfl, by decide +kernel, by decide +kernel⟩
def zsOf (ts : List Addr) (fs : List (List Int)) : List (Addr × L2.KP) := (ts.zip fs).map fun z => (z.1, kOf z.2)
theorem zs_map {H : Hp} {ts : List Addr} {fs : List (List Int)} (h : TupsAt H ts fs) : (zsOf ts fs).map (fun z => V.ref z.1) = ts.map V.ref := by
  unfold zsOf
  rw [List.map_map]
  have : (ts.zip fs).map Prod.fst = ts := List.map_fst_zip (Nat.le_of_eq h.1)
  conv => rhs; rw [← this]
  rw [List.map_map]
  rfl
theorem zs_mem {H : Hp} {ts : List Addr} {fs : List (List Int)} (h : TupsAt H ts fs) {z : Addr × L2.KP} (hz : z ∈ zsOf ts fs) : ∃ t ∈ fs, z.2 = kOf t ∧ RA H z.1 t := by
  obtain ⟨⟨a, t⟩, hy, rfl⟩ := List.mem_map.mp hz
  obtain ⟨i, hi, ei⟩ := List.getElem_of_mem hy
  have hi' : i < ts.length ∧ i < fs.length := by rw [List.length_zip] at hi; omega
  have e : ts[i] = a ∧ fs[i] = t := by simpa using ei
  refine ⟨t, (List.of_mem_zip hy).2, rfl, ?_⟩
  obtain ⟨a', e1, e2⟩ := h.2 i t (by rw [List.getElem?_eq_getElem hi'.2, e.2])
  rw [List.getElem?_eq_getElem hi'.1, e.1] at e1
  cases e1
  exact e2
theorem zs_has {H : Hp} {ts : List Addr} {fs : List (List Int)} (h : TupsAt H ts fs) {t : List Int} (ht : t ∈ fs) : ∃ z ∈ zsOf ts fs, z.2 = kOf t := by
  obtain ⟨i, hi, ei⟩ := List.getElem_of_mem ht
  have hi' : i < ts.length := by rw [h.1]; exact hi
  refine ⟨(ts[i], kOf fs[i]), ?_, by rw [ei]⟩
  unfold zsOf
  refine List.mem_map.mpr ⟨(ts[i], fs[i]), ?_, rfl⟩
  have hz : i < (ts.zip fs).length := by rw [List.length_zip]; omega
  have : (ts.zip fs)[i]? = some (ts[i], fs[i]) := by rw [List.getElem?_eq_getElem hz, List.getElem_zip]
  exact List.mem_of_getElem? this
theorem ok_ap {f fT fR : Addr} {fd fdT fdR : FuncData} (F : Fun K "apart" "apart" sAp f fd) (T : Txt mg)
    (FT : Fun K "tails_behind" "tails_behind" sTb fT fdT) (bT : Binds K fdT ["head", "runs"] []) (gT : mg "tails_behind" = some (.ref fT))
    (FR : Fun K "run_order" "run_order" sRo fR fdR) (bR : Binds K fdR ["run"] []) (gR : mg "run_order" = some (.ref fR)) :
    FnOk P w K mg base CX0 3 f fd ["good", "bad", "one", "other"] spAp := by
  have GT : FnOk P w K mg base CX0 1 fT fdT ["head", "runs"] spTb := ok_tb FT T
  have GR : FnOk P w K mg base CX0 1 fR fdR ["run"] spRo := ok_ro FR T
  refine F.ok scAp (fun vs H Q E h => ?_) (fun cdv A outer s H vs Q E hr h => ?_)
  · obtain ⟨g, b, o, p, gs, bs, on, pn, rfl, _⟩ := h
    rfl
  · obtain ⟨g, b, o, p, gs, bs, on, pn, rfl, hg, ⟨tb, hb1, hb2⟩, ho, hp, lg, lb, g8, lo, lp, k1, k2⟩ := h
    have hr1 : Room 1 _ := hr.mono (by decide)
    have hu64 := hr.units
    have hu16 := Nat.lt_of_le_of_lt (Nat.add_le_add_left (by decide : 16 ≤ 64) _) hu64
    refine ⟨_, pss_cons (ps_set (i := 4) scAp.nd rfl (Or.inl rfl) (pe_lst pa_nil))
      (pss_cons (ps_for PassesOwn.never rfl (pi_tup (pe_tup (pa_cons (pe_tup (pa_cons (pv 2) (pa_cons (pv 3) pa_nil))) (pa_cons (pe_tup (pa_cons (pv 3) (pa_cons (pv 2) pa_nil))) pa_nil)))) (pg_tup (n := 2) rfl (pgs_cons (pg_name (i := 5) scAp.nd rfl (Or.inl rfl)) (pgs_cons (pg_name (i := 6) scAp.nd rfl (Or.inr rfl)) pgs_nil)))
        (pss_one (ps_expr (pe_bm PySem.F.plainAttrs_list PySem.F.slot_list_extend PySem.F.type_list_extend mt_extend (pv 4) (pa_cons (pe_lc scA1 rfl rfl rfl (pi_list (pe_call GT hr1 rfl gT FT.kp bT .nil pass0 (pa_cons (pv 5) (pa_cons (pv 0) pa_nil)))) (fun fp C s1 H1 => pg_name (i := 0) scA1.nd rfl (Or.inl rfl))
          (fun fp C s1 H1 => pts_one (pt_cmpR (r := rInD K false) (op_inD hu64) (pe_op (r := rCatA K) op_catA (pv 2) (pv 0)) (pv 1) (by with_unfolding_all rfl))) (fun fp C s1 H1 => pv 0)) pa_nil)))))
      (pss_one (ps_ret (pe_minD (mkey_pr hu16) GR hr.in1 rfl bR (by rfl) T.min PyProof.Rows.boot_min (pa_cons (pv 4) pa_nil) (pe_glob (v := .ref fR) (by rfl) gR rfl) pe_non)))), ?_⟩
    refine ⟨Nat.zero_le _, fun l hl => ?_⟩
    have s1 := (Same.refl H).upd_free (o := .lst []) hl
    have q1 : upd H l (.lst []) l = some (.lst []) := upd_same
    generalize upd H l (.lst []) = H1 at s1 q1
    refine ⟨_, rfl, _, rfl, (by show 2 ≤ sizeLine; decide), fun p1 hp1 => ?_⟩
    have s2 := (Same.refl H1).upd_free (o := .tup [.ref o, .ref p]) hp1
    have q2 : upd H1 p1 (.tup [.ref o, .ref p]) p1 = some (.tup [.ref o, .ref p]) := upd_same
    generalize upd H1 p1 (.tup [.ref o, .ref p]) = H2 at s2 q2
    refine ⟨_, rfl, _, rfl, (by show 2 ≤ sizeLine; decide), fun p2 hp2 => ?_⟩
    have s3 := (Same.refl H2).upd_free (o := .tup [.ref p, .ref o]) hp2
    have q3 : upd H2 p2 (.tup [.ref p, .ref o]) p2 = some (.tup [.ref p, .ref o]) := upd_same
    generalize upd H2 p2 (.tup [.ref p, .ref o]) = H3 at s3 q3
    refine ⟨(by show 2 ≤ sizeLine; decide), fun p3 hp3 => ?_⟩
    have s4 := (Same.refl H3).upd_free (o := .tup [.ref p1, .ref p2]) hp3
    have q4 : upd H3 p3 (.tup [.ref p1, .ref p2]) p3 = some (.tup [.ref p1, .ref p2]) := upd_same
    generalize upd H3 p3 (.tup [.ref p1, .ref p2]) = H4 at s4 q4
    have s24 := s3.trans s4
    have q1' := s24 _ _ (s2 _ _ q1)
    have q2' := s24 _ _ q2
    have q3' := s4 _ _ q3
    have sH4 := s1.trans (s2.trans s24)
    refine ⟨p3, rfl, ⟨_, SqT.of q4⟩, ?_⟩
    have tsl : ∀ {H5 : Hp} {a : Addr} {xs : List V}, SBut l H4 H5 → H4 a = some (.tup xs) → H5 a = some (.tup xs) := fun sb e => sb.get q1' e (fun z => nomatch z)
    refine for_tup (K := K) (a := p3) (xs := [.ref p1, .ref p2]) (fun i σ H5 => ∃ (fs : List (List Int)) (v5 v6 : Option V), σ = [some (.ref g), some (.ref b), some (.ref o), some (.ref p), some (.ref l), v5, v6] ∧ Same H H5 ∧ SBut l H4 H5 ∧ RsL H5 l fs ∧ (∀ t, t ∈ fs ↔ (1 ≤ i ∧ on ++ t ∈ gs ∧ pn ++ t ∈ bs) ∨ (2 ≤ i ∧ pn ++ t ∈ gs ∧ on ++ t ∈ bs)) ∧ fs.length ≤ 24 * i ∧ ∀ t ∈ fs, t.length ≤ 8)
      ⟨[], none, none, rfl, sH4, SBut.refl, ⟨[], q1', tups_nil⟩, fun t => ⟨fun h => by (cases h), fun h => by omega⟩, Nat.le_refl _, fun t ht => by cases ht⟩ (fun i σ H5 _ ⟨_, _, _, _, _, sb, _⟩ => SqT.of (tsl sb q4)) ?_ ?_
    · rintro i x σ H5 hx ⟨fs, v5, v6, rfl, s5, sb, hF, hm, hlen, h8⟩
      -- the pair of this turn
      obtain ⟨px, a1, a2, n1, n2, rfl, hpx, h1, h2, ln1, ln2, hnew⟩ : ∃ (px a1 a2 : Addr) (n1 n2 : List Int), x = .ref px ∧ H5 px = some (.tup [.ref a1, .ref a2]) ∧ RA H5 a1 n1 ∧ RA H5 a2 n2 ∧ n1.length ≤ 100 ∧ n2.length ≤ 100 ∧
          ∀ t, ((1 ≤ i ∧ on ++ t ∈ gs ∧ pn ++ t ∈ bs) ∨ (2 ≤ i ∧ pn ++ t ∈ gs ∧ on ++ t ∈ bs)) ∨ (n1 ++ t ∈ gs ∧ n2 ++ t ∈ bs) ↔ (1 ≤ i + 1 ∧ on ++ t ∈ gs ∧ pn ++ t ∈ bs) ∨ (2 ≤ i + 1 ∧ pn ++ t ∈ gs ∧ on ++ t ∈ bs) := by
        rcases i with _ | _ | i
        · cases hx
          refine ⟨p1, o, p, on, pn, rfl, tsl sb q2', s5 _ _ ho, s5 _ _ hp, lo, lp, fun t => ?_⟩
          constructor
          · rintro ((h | h) | h)
            · omega
            · omega
            · exact .inl ⟨by omega, h⟩
          · rintro (h | h)
            · exact .inr h.2
            · omega
        · cases hx
          refine ⟨p2, p, o, pn, on, rfl, tsl sb q3', s5 _ _ hp, s5 _ _ ho, lp, lo, fun t => ?_⟩
          constructor
          · rintro ((h | h) | h)
            · exact .inl ⟨by omega, h.2⟩
            · omega
            · exact .inr ⟨by omega, h⟩
          · rintro (h | h)
            · exact .inl (.inl ⟨by omega, h.2⟩)
            · exact .inr h.2
        · simp at hx
      have hi2 : i ≤ 1 := by
        have := (List.getElem?_eq_some_iff.mp hx).1
        simp at this
        omega
      refine ⟨px, [.ref a1, .ref a2], rfl, SqT.of hpx, rfl, .ref a1, [.ref a2], rfl, .ref a2, [], rfl, rfl, ?_⟩
      obtain ⟨tf, hf1, hf2⟩ := hF
      refine ⟨_, rfl, .inl ⟨rfl, _, SqL.of hf1⟩, _, rfl, _, rfl, a1, g, n1, gs, rfl, h1, hg.same s5, lg, fun lt H6 s6 flt ⟨tt, ht1, ht2⟩ => ?_⟩
      refine ⟨lt, rfl, ⟨_, SqL.of ht1⟩, fun D hD => ?_⟩
      have hltt : (tt.map V.ref).length = (tailsM n1 gs).length := by rw [List.length_map]; exact ht2.1
      have hltb := tails_len (hn := n1) (gs := gs)
      refine lc_list (K := K) (a := lt) (xs := tt.map V.ref) (fun j ys H7 => Same H6 H7 ∧ H7 D = some (.lst ys) ∧ ys.length ≤ j ∧ ∃ us : List Addr, ys = us.map V.ref ∧ TupsAt H7 us (((tailsM n1 gs).take j).filter fun t => decide (n2 ++ t ∈ bs))) (Nat.le_of_lt (small1000 (by omega)))
        ⟨(Same.refl H6).upd_free hD, upd_same, Nat.le_refl _, [], rfl, tups_nil⟩ (fun j ys H7 h => h.2.2.1) (fun j ys H7 h => SqL.of (h.1 _ _ ht1)) ?_ ?_
      · rintro j ys H7 x N M hx2 ⟨u1, u2, u3, us, rfl, hU⟩ hN hM
        have hj : j < (tailsM n1 gs).length := by
          have := (List.getElem?_eq_some_iff.mp hx2).1
          omega
        have er : (tailsM n1 gs)[j]? = some (tailsM n1 gs)[j] := List.getElem?_eq_getElem hj
        generalize (tailsM n1 gs)[j] = r at er
        obtain ⟨ta, e1, e2⟩ := ht2.2 j r er
        rw [List.getElem?_map, e1] at hx2
        cases hx2
        have tk : (tailsM n1 gs).take (j + 1) = (tailsM n1 gs).take j ++ [r] := by rw [List.take_add_one, er]; rfl
        have hr8 := tails_sh g8 (List.mem_of_getElem? er)
        refine ⟨_, rfl, _, rfl, a2, ta, _, _, rfl, rfl, (s6.trans u1) _ _ h2, u1 _ _ e2, ?_, fun pc H8 s8 hpc => ?_⟩
        · rw [List.length_map, List.length_map]
          exact Nat.le_of_lt (small1000 (by omega))
        rw [← List.map_append] at hpc
        have s58 := s5.trans (s6.trans (u1.trans s8))
        refine ⟨_, rfl, in_runs hpc (.inr (SqT.of (s58 _ _ hb1))) (hb2.tsame s58.tups) ⟨_, rfl, ?_⟩⟩
        show (if decide (n2 ++ r ∈ bs) = true then _ else _)
        by_cases hc : n2 ++ r ∈ bs
        · rw [decide_eq_true hc]
          refine iteT ⟨_, rfl, ?_⟩
          have tsD : TSame H8 (upd H8 D (.lst (us.map V.ref ++ [.ref ta]))) := TSame.upd_lst (fun _ _ e => e) (s8 _ _ u2)
          refine hN _ H8 (s8 _ _ u2) ⟨(u1.trans s8).upd_free hD, upd_same, by rw [List.length_append, List.length_singleton]; omega, us ++ [ta], by rw [List.map_append]; rfl, ?_⟩
          rw [tk, List.filter_append]
          have ef : ([r].filter fun t => decide (n2 ++ t ∈ bs)) = [r] := by simp [hc]
          rw [ef]
          exact tups_snoc ((hU.tsame s8.tups).tsame tsD) (tsD _ _ (s8 _ _ (u1 _ _ e2)))
        · rw [decide_eq_false hc]
          refine iteF (hM H8 ⟨u1.trans s8, s8 _ _ u2, by omega, us, rfl, ?_⟩)
          rw [tk, List.filter_append]
          have ef : ([r].filter fun t => decide (n2 ++ t ∈ bs)) = [] := by simp [hc]
          rw [ef, List.append_nil]
          exact hU.tsame s8.tups
      · rintro ys H7 ⟨u1, u2, u3, us, rfl, hU⟩
        rw [hltt, List.take_length] at hU
        have hf7 := (s6.trans u1) _ _ hf1
        have hul : us.length ≤ 24 := by
          rw [hU.1]
          exact Nat.le_trans (List.length_filter_le _ _) (by omega)
        refine ⟨l, D, _, _, rfl, rfl, hf7, u2, ?_, ?_⟩
        · rw [List.length_map, List.length_map, hf2.1]
          exact Nat.le_of_lt (small1000 (by omega))
        have tsU : TSame H7 (upd H7 l (.lst (tf.map V.ref ++ us.map V.ref))) := TSame.upd_lst (fun _ _ e => e) hf7
        refine ⟨fs ++ ((tailsM n1 gs).filter fun t => decide (n2 ++ t ∈ bs)), _, _, rfl, (s5.trans (s6.trans u1)).upd_free hl, (sb.same (s6.trans u1)).upd, ⟨tf ++ us, by rw [upd_same, List.map_append]; rfl, tups_app ((hf2.tsame (s6.trans u1).tups).tsame tsU) (hU.tsame tsU)⟩, fun t => ?_, ?_, fun t ht => ?_⟩
        · rw [List.mem_append, hm t, List.mem_filter, decide_eq_true_iff, mem_tails]
          exact hnew t
        · rw [List.length_append, ← hU.1]
          omega
        · rcases List.mem_append.mp ht with h | h
          · exact h8 t h
          · exact tails_sh g8 (List.mem_filter.mp h).1
    · rintro σ H5 ⟨fs, v5, v6, rfl, s5, sb, ⟨tf, hf1, hf2⟩, hm, hlen, h8⟩
      have hm' : ∀ t, t ∈ fs ↔ AP gs bs on pn t := fun t => by
        rw [hm t]
        show (1 ≤ 2 ∧ _) ∨ (2 ≤ 2 ∧ _) ↔ _
        unfold AP
        simp
      have hlen' : fs.length ≤ 48 := hlen
      have hzl : (zsOf tf fs).length ≤ 1000 := by
        unfold zsOf
        rw [List.length_map, List.length_zip, hf2.1]
        omega
      have hSq : SqL K H5 l ((zsOf tf fs).map fun z => V.ref z.1) := SqL.of (by rw [zs_map hf2]; exact hf1)
      refine ⟨_, rfl, l, zsOf tf fs, rfl, rfl, rfl, hSq, hzl, fun z hz H6 s6 Q' E' hq => ?_, fun e => ?_, fun z H6 hb6 s6 => ?_⟩
      · obtain ⟨t, ht, ez, ra⟩ := zs_mem hf2 hz
        refine ⟨z.1, t, rfl, s6 _ _ ra, by have := h8 t ht; omega, fun q H7 s7 pr => hq _ H7 s7 ⟨q, rfl, ?_⟩⟩
        rw [ez]
        exact pr
      · refine k1 H5 s5 fun t ht => ?_
        obtain ⟨z, hz, _⟩ := zs_has hf2 ((hm' t).mpr ht)
        rw [e] at hz
        cases hz
      · obtain ⟨i, hi, ei, hbest⟩ := hb6
        obtain ⟨t, ht, ez, ra⟩ := zs_mem hf2 (List.mem_of_getElem? ei)
        refine k2 z.1 t H6 (s5.trans s6) (s6 _ _ ra) ((hm' t).mp ht) fun t' ht' => ?_
        obtain ⟨z', hz', ez'⟩ := zs_has hf2 ((hm' t').mpr ht')
        obtain ⟨j, hj, ej⟩ := List.getElem_of_mem hz'
        have ej' : (zsOf tf fs)[j]? = some z' := by rw [List.getElem?_eq_getElem hj, ej]
        have := (hbest j z' hj ej').1
        rw [ez, ez'] at this
        exact this
end
end BG
namespace BG
open PySem L2 SO K20
section
variable {P : Program} {w : World} {K : PySem.W.Frag} {mg : Str → Option Value} {base : Heap}
def spBg : Sp := fun vs H Q _ => ∃ (g b : Addr) (gs bs : List (List Int)), vs = [.ref g, .ref b] ∧ RsT H g gs ∧ RsT H b bs ∧ gs.length ≤ 24 ∧ bs.length ≤ 24 ∧ (∀ r ∈ gs ++ bs, r.length ≤ 8) ∧
  ∀ (t : Addr) (zs : List (Addr × List Int)) (H' : Hp), Same H H' → H' t = some (.tup (zs.map fun z => V.ref z.1)) → SrA H' zs (isB (gs ++ bs)) → Q (.ref t) H'
theorem scBg : FnScope ["good", "bad", "met", "run", "length"] ["good", "bad"] (defScope sBg) := ⟨rfl, rfl, rfl, by decide +kernel, rfl, by decide +kernel, by decide +kernel⟩
theorem ok_bg {f fR : Addr} {fd fdR : FuncData} (F : Fun K "beginnings" "beginnings" sBg f fd) (T : Txt mg) (FR : Fun K "run_order" "run_order" sRo fR fdR) (bR : Binds K fdR ["run"] []) (gR : mg "run_order" = some (.ref fR)) : FnOk P w K mg base CX0 4 f fd ["good", "bad"] spBg := by
  have GR : FnOk P w K mg base CX0 1 fR fdR ["run"] spRo := ok_ro FR T
  refine F.ok scBg (fun vs H Q E h => ?_) (fun cdv A outer s H vs Q E hr h => ?_)
  · obtain ⟨g, b, gs, bs, rfl, _⟩ := h
    rfl
  · obtain ⟨g, b, gs, bs, rfl, ⟨tg, hg, tgs⟩, ⟨tb, hb, tbs⟩, lg, lb, hsh, k⟩ := h
    have hu64 := hr.units
    have hu1 := Nat.lt_of_le_of_lt (Nat.add_le_add_left (by decide : 1 ≤ 64) _) hu64
    have hu4 := Nat.lt_of_le_of_lt (Nat.add_le_add_left (by decide : 4 ≤ 64) _) hu64
    have hu0 := Nat.lt_of_le_of_lt (Nat.le_add_right _ 64) hu64
    refine ⟨_, pss_cons (ps_set (i := 2) scBg.nd rfl (Or.inl rfl) (pe_dispTW (P := P) (w := w) rfl rfl hu0 (pe_tup pa_nil) pe_bl))
      (pss_cons (ps_for PassesOwn.never rfl (pi_tup (pe_op op_catA (pv 0) (pv 1))) (pg_name (i := 3) scBg.nd rfl (Or.inl rfl))
        (pss_one (ps_for PassesOwn.never rfl (pi_range1 rfl T.range (pa_cons (pe_op op_add (pe_callB call_len_seq (by rfl) T.len PySem.boot_len (pa_cons (pv 3) pa_nil)) pe_int) pa_nil)) (pg_name (i := 4) scBg.nd rfl (Or.inl rfl))
          (pss_one (ps_tputW (P := P) (w := w) rfl rfl hu1 (pv 2) (pe_slice sl_tupA (pv 3) po_none (po_some (pv 4))) pe_bl rfl)))))
      (pss_one (ps_ret (pe_callTy call_tuple_of (by rfl) T.tuple PyProof.Rows.boot_tuple (pa_cons (pe_sortedK GR hr.in1.in1 hu4 bR rfl T.sorted PyProof.Rows.boot_sorted
        (pa_cons (pe_callTy (call_listTW (P := P) (w := w) rfl rfl rfl) (by rfl) T.list PyProof.Rows.boot_list (pa_cons (pv 2) pa_nil)) pa_nil) (pe_glob (v := .ref fR) (by rfl) gR rfl)) pa_nil))))), ?_⟩
    refine fun p o hp => ⟨Nat.zero_le _, fun t ht => ?_⟩
    have htp : t ≠ p := fun e => by rw [e, upd_same] at ht; cases ht
    have hp1 : upd (upd H p (TD P w p [] o)) t (.tup []) p = some (TD P w p [] o) := by rw [upd_ne (fun e => htp e.symm)]; exact upd_same
    refine ⟨hp1, t, _, [], rfl, ⟨[], upd_same, rfl⟩, fun o1 => ?_⟩
    have s1 : Same H (upd (upd (upd H p (TD P w p [] o)) t (.tup [])) p (TD P w p [([], t, .bl true)] o1)) := (((Same.refl H).upd_free hp).upd_free (by rw [upd_ne htp] at ht; exact ht)).upd_free hp
    have ht1 : upd (upd (upd H p (TD P w p [] o)) t (.tup [])) p (TD P w p [([], t, .bl true)] o1) t = some (.tup []) := by rw [upd_ne htp]; exact upd_same
    refine ⟨_, rfl, _, rfl, g, b, _, _, rfl, rfl, s1 _ _ hg, s1 _ _ hb, ?_, fun q H2 s2 hq => ?_⟩
    · rw [List.length_map, List.length_map, tgs.1, tbs.1]
      exact Nat.le_of_lt (small1000 (by omega))
    rw [← List.map_append] at hq
    refine ⟨q, rfl, ⟨_, SqT.of hq⟩, ?_⟩
    have hT : TupsAt H2 (tg ++ tb) (gs ++ bs) := tups_app (tgs.tsame (s1.trans s2).tups) (tbs.tsame (s1.trans s2).tups)
    have hM0 : ME H2 [([], t, .bl true)] (isB []) 1 := ⟨fun x hx => by rw [List.mem_singleton.mp hx]; exact s2 _ _ ht1, by simp, fun ns => ⟨fun h => .inl (by simpa using h), fun h => h.elim (fun e => by simp [e]) fun ⟨r, h1, _⟩ => by cases h1⟩, Nat.le_refl _, fun x hx => by rw [List.mem_singleton.mp hx]; exact Nat.zero_le _⟩
    refine for_tup (K := K) (a := q) (xs := (tg ++ tb).map V.ref) (fun i σ H3 => ∃ (xs : List (KTu × Addr × V)) (o3 : Obj) (v3 v4 : Option V), σ = [some (.ref g), some (.ref b), some (.ref p), v3, v4] ∧ Same H H3 ∧ TSame H2 H3 ∧ H3 p = some (TD P w p xs o3) ∧ ME H3 xs (isB ((gs ++ bs).take i)) (1 + 9 * i))
      ⟨[([], t, .bl true)], o1, none, none, rfl, s1.trans s2, fun _ _ e => e, s2 _ _ upd_same, hM0⟩ (fun i σ H3 _ ⟨_, _, _, _, _, _, ts, _⟩ => SqT.of (ts _ _ hq)) ?_ ?_
    · rintro i x σ H3 hx ⟨xs, o3, v3, v4, rfl, s3, ts3, hp3, hM3⟩
      have hi : i < (gs ++ bs).length := by
        have := (List.getElem?_eq_some_iff.mp hx).1
        rw [List.length_map, hT.1] at this
        exact this
      have er : (gs ++ bs)[i]? = some (gs ++ bs)[i] := List.getElem?_eq_getElem hi
      generalize hr' : (gs ++ bs)[i] = r at er
      have hr8 : r.length ≤ 8 := hsh r (List.mem_of_getElem? er)
      obtain ⟨tr, e1, e2⟩ := hT.2 i r er
      rw [List.getElem?_map, e1] at hx
      cases hx
      have hrt : H3 tr = some (.tup (r.map V.int)) := ts3 _ _ e2
      have hil : i ≤ 47 := by rw [List.length_append] at hi; omega
      have hlr : (r.map V.int).length = r.length := List.length_map _
      refine ⟨_, rfl, tr, _, rfl, .inr (SqT.of hrt), _, _, rfl, rfl, _, rfl, by omega, by omega, ?_⟩
      have hn : (((r.map V.int).length : Int) + 1).toNat = r.length + 1 := by omega
      refine for_range (n := (((r.map V.int).length : Int) + 1).toNat) (fun j σ H4 => ∃ (xs : List (KTu × Addr × V)) (o4 : Obj) (v4 : Option V), σ = [some (.ref g), some (.ref b), some (.ref p), some (.ref tr), v4] ∧ Same H H4 ∧ TSame H2 H4 ∧ H4 p = some (TD P w p xs o4) ∧ ME H4 xs (S2 ((gs ++ bs).take i) r j) (1 + 9 * i + j))
        ⟨xs, o3, v4, rfl, s3, ts3, hp3, hM3.iff fun ns => S2_zero⟩ ?_ ?_
      · rintro j σ H4 hj ⟨xs4, o4, v4', rfl, s4, ts4, hp4, hM4⟩
        rw [hn] at hj
        have hrt4 : H4 tr = some (.tup (r.map V.int)) := ts4 _ _ e2
        refine ⟨_, rfl, _, rfl, _, rfl, _, rfl, tr, _, rfl, hrt4, fun pz H5 s5 hpz => ?_⟩
        rw [Int.zero_add, cut_take, ← List.map_take] at hpz
        have hM5 := hM4.same s5.tups
        have hl4 := hM4.len
        refine ⟨p, xs4, o4, pz, r.take j, rfl, s5 _ _ hp4, hM5.tks, rfl, ⟨_, hpz, nums_ints _⟩, small1000 (by omega), fun o5 => ?_⟩
        have tsU : TSame H5 (upd H5 p (TD P w p (putH xs4 (r.take j) pz (.bl true)) o5)) := fun c ys e => by
          rw [upd_ne (ne_of e (s5 _ _ hp4) (fun z => nomatch z))]; exact e
        have hM6 := (hM5.put (v := .bl true) hpz (by rw [List.length_take]; omega)).same tsU
        exact ⟨_, o5, _, rfl, (s4.trans s5).upd_free hp, fun c ys e => tsU c ys (s5 c _ (ts4 c ys e)), upd_same, hM6.iff fun ns => S2_succ⟩
      · rintro σ H4 ⟨xs4, o4, v4', rfl, s4, ts4, hp4, hM4⟩
        rw [hn] at hM4
        have hM5 : ME H4 xs4 (isB ((gs ++ bs).take (i + 1))) (1 + 9 * (i + 1)) := by
          have e : (gs ++ bs).take (i + 1) = (gs ++ bs).take i ++ [r] := by rw [List.take_add_one, er]; rfl
          rw [e]
          have := hM4.iff fun ns => S2_end
          exact ⟨this.at', this.nd, this.mem, by have := this.len; omega, this.sh⟩
        exact ⟨xs4, o4, _, _, rfl, s4, ts4, hp4, hM5⟩
    · rintro σ H3 ⟨xs, o3, v3, v4, rfl, s3, ts3, hp3, hM3⟩
      rw [List.length_map, hT.1, List.take_length] at hM3
      have hxl : xs.length ≤ 1000 := by
        have := hM3.len
        rw [List.length_append] at this
        omega
      refine ⟨_, rfl, p, xs, o3, rfl, hp3, fun l hl => ?_⟩
      have s4 : Same H3 (upd H3 l (.lst (xs.map fun x => V.ref x.2.1))) := (Same.refl H3).upd_free hl
      have hM4 := hM3.same s4.tups
      refine ⟨l, xs.map fun x => (x.2.1, kOf x.1), rfl, rfl, SqL.of (by rw [upd_same, List.map_map]; rfl), by rw [List.length_map]; exact hxl, fun z hz H5 s5 Q' E' hq' => ?_, fun l2 zs H5 s5 hl2 hpm hso => ?_⟩
      · obtain ⟨x, hx, rfl⟩ := List.mem_map.mp hz
        exact ⟨x.2.1, x.1, rfl, s5 _ _ (hM4.at' x hx), Nat.le_trans (hM4.sh x hx) (by decide), fun q2 H6 s6 pr => hq' q2 H6 s6 pr⟩
      · refine ⟨l2, _, rfl, .inl ⟨SqL.of upd_same, fun t2 ht2 => ?_⟩⟩
        have s6 : Same H5 (upd (upd H5 l2 (.lst (zs.map fun z => V.ref z.1))) t2 (.tup (zs.map fun z => V.ref z.1))) := ((Same.refl H5).upd_free hl2).upd_free (by
          by_cases e : t2 = l2
          · rw [e]; exact hl2
          · rw [upd_ne e] at ht2; exact ht2)
        refine k t2 (zs.map fun z => (z.1, z.2.2)) _ (((s3.trans s4).trans s5).trans s6) (by rw [upd_same, List.map_map]; rfl) ⟨fun y hy => ?_, ?_, fun ns => ?_, ?_, fun y hy => ?_⟩
        · obtain ⟨z, hz, rfl⟩ := List.mem_map.mp hy
          obtain ⟨x, hx, rfl⟩ := List.mem_map.mp (hpm.mem_iff.mp hz)
          exact s6 _ _ (s5 _ _ (hM4.at' x hx))
        · have hz2 : ∀ z ∈ zs, z.2 = kOf z.2.2 := fun z hz => by
            obtain ⟨x, hx, rfl⟩ := List.mem_map.mp (hpm.mem_iff.mp hz)
            rfl
          rw [List.map_map]
          refine srt_of ?_ ?_
          · rw [List.pairwise_map]
            refine hso.imp_of_mem fun {a c} ha hc hh => ?_
            rw [hz2 a ha, hz2 c hc] at hh
            exact hh
          · have := (hpm.map fun z : Addr × SO.KP => z.2.2).nodup_iff
            refine this.mpr ?_
            rw [List.map_map]
            exact hM4.nd
        · rw [List.map_map]
          have := (hpm.map fun z : Addr × SO.KP => z.2.2).mem_iff (a := ns)
          rw [List.map_map] at this
          exact this.trans (hM4.mem ns)
        · rw [List.length_map, hpm.length_eq, List.length_map]
          exact hxl
        · obtain ⟨z, hz, rfl⟩ := List.mem_map.mp hy
          obtain ⟨x, hx, rfl⟩ := List.mem_map.mp (hpm.mem_iff.mp hz)
          exact hM4.sh x hx
end
end BG
namespace BG
open PySem L2
theorem lex_self : ∀ r : List Int, HT.lexLt r r = false
  | [] => rfl
  | x :: r => by rw [HT.lexLt_cons, if_pos rfl]; exact lex_self r
theorem lex_eq : ∀ {r q : List Int}, HT.lexLt r q = false → HT.lexLt q r = false → r = q
  | [], [], _, _ => rfl
  | [], _ :: _, h, _ => by cases h
  | _ :: _, [], _, h => by cases h
  | x :: r, y :: q, h1, h2 => by
    rw [HT.lexLt_cons] at h1 h2
    by_cases e : x = y
    · rw [if_pos e] at h1
      rw [if_pos e.symm] at h2
      rw [e, lex_eq h1 h2]
    · rw [if_neg e] at h1
      rw [if_neg (fun z => e z.symm)] at h2
      have := of_decide_eq_false h1
      have := of_decide_eq_false h2
      omega

def bitsM (c : Nat) (n : Nat) : List Int := ((List.range n).filter fun (k : Nat) => decide (c / 2 ^ k % 2 = 1)).map fun (k : Nat) => (k : Int)
theorem bits_snoc (c n : Nat) : bitsM c (n + 1) = bitsM c n ++ (if c / 2 ^ n % 2 = 1 then [(n : Int)] else []) := by
  unfold bitsM
  rw [List.range_succ, List.filter_append, List.map_append]
  by_cases h : c / 2 ^ n % 2 = 1
  · simp [h]
  · simp [h]
theorem bits_mem {c n : Nat} {x : Int} (h : x ∈ bitsM c n) : 0 ≤ x ∧ x < (n : Int) := by
  unfold bitsM at h
  obtain ⟨k, hk, rfl⟩ := List.mem_map.mp h
  have := List.mem_range.mp (List.mem_filter.mp hk).1
  omega
theorem bits_inc (c : Nat) : ∀ n, (bitsM c n).Pairwise (· < ·)
  | 0 => List.Pairwise.nil
  | n + 1 => by
    rw [bits_snoc]
    refine List.pairwise_append.mpr ⟨bits_inc c n, ?_, fun a ha b hb => ?_⟩
    · split
      · exact List.pairwise_singleton _ _
      · exact List.Pairwise.nil
    · have := bits_mem ha
      split at hb
      · rw [List.mem_singleton.mp hb]
        omega
      · cases hb
theorem bits_len (c n : Nat) : (bitsM c n).length ≤ n := by
  unfold bitsM
  rw [List.length_map]
  have := List.length_filter_le (fun (k : Nat) => decide (c / 2 ^ k % 2 = 1)) (List.range n)
  rw [List.length_range] at this
  exact this
theorem bit_low {c k n : Nat} (h : k < n) : (2 ^ n + c) / 2 ^ k % 2 = c / 2 ^ k % 2 := by
  have e : 2 ^ n = 2 ^ k * (2 * 2 ^ (n - k - 1)) := by
    rw [← Nat.mul_assoc, ← Nat.pow_succ, ← Nat.pow_add]
    congr 1
    omega
  rw [e, Nat.mul_add_div (Nat.pow_pos (by decide)), Nat.mul_add_mod]
theorem bits_low {c n : Nat} : ∀ m, m ≤ n → bitsM (2 ^ n + c) m = bitsM c m
  | 0, _ => rfl
  | m + 1, h => by rw [bits_snoc, bits_snoc, bits_low m (by omega), bit_low (by omega)]
theorem bits_all : ∀ (n : Nat) (r : List Int), r.Pairwise (· < ·) → (∀ x ∈ r, 0 ≤ x ∧ x < (n : Int)) → ∃ c, c < 2 ^ n ∧ bitsM c n = r
  | 0, r, _, h => ⟨0, by decide, by
      cases r with
      | nil => rfl
      | cons x r => have := h x (by simp); omega⟩
  | n + 1, r, hi, h => by
    have e2 : 2 ^ (n + 1) = 2 ^ n + 2 ^ n := by rw [Nat.pow_succ]; omega
    by_cases hn : (n : Int) ∈ r
    · have hne : r ≠ [] := fun z => by rw [z] at hn; cases hn
      obtain ⟨l, x, rfl⟩ : ∃ l x, r = l ++ [x] := ⟨r.dropLast, r.getLast hne, (List.dropLast_concat_getLast hne).symm⟩
      obtain ⟨p1, p2, p3⟩ := List.pairwise_append.mp hi
      have hx : x = (n : Int) := by
        rcases List.mem_append.mp hn with q | q
        · have := p3 _ q x (by simp)
          have := h x (by simp)
          omega
        · exact (List.mem_singleton.mp q).symm
      subst hx
      obtain ⟨c, hc, e⟩ := bits_all n l p1 fun y hy => ⟨(h y (by simp [hy])).1, p3 y hy _ (by simp)⟩
      refine ⟨2 ^ n + c, by omega, ?_⟩
      rw [bits_snoc, bits_low n (Nat.le_refl _), e]
      have : (2 ^ n + c) / 2 ^ n % 2 = 1 := by
        rw [Nat.add_div_left c (Nat.pow_pos (by decide)), Nat.div_eq_of_lt hc]
      rw [if_pos this]
    · obtain ⟨c, hc, e⟩ := bits_all n r hi fun y hy => by
        have := h y hy
        have : y ≠ (n : Int) := fun z => hn (by rw [← z]; exact hy)
        omega
      refine ⟨c, by omega, ?_⟩
      rw [bits_snoc, e, Nat.div_eq_of_lt hc]
      simp


structure Clq (n : Nat) (ad : Int → Int → Bool) (r : List Int) : Prop where
  inc : r.Pairwise (· < ·)
  ran : ∀ x ∈ r, 0 ≤ x ∧ x < (n : Int)
  far : r.Pairwise fun a b => ad a b = true
theorem Clq.cons {n : Nat} {ad : Int → Int → Bool} {x : Int} {r : List Int} (h : Clq n ad (x :: r)) : Clq n ad r ∧ (0 ≤ x ∧ x < (n : Int)) ∧ (∀ y ∈ r, x < y) ∧ ∀ y ∈ r, ad x y = true := by
  obtain ⟨h1, h2⟩ := List.pairwise_cons.mp h.inc
  obtain ⟨h3, h4⟩ := List.pairwise_cons.mp h.far
  exact ⟨⟨h2, fun y hy => h.ran y (List.mem_cons_of_mem _ hy), h4⟩, h.ran x List.mem_cons_self, h1, h3⟩
theorem Clq.mk' {n : Nat} {ad : Int → Int → Bool} {x : Int} {r : List Int} (h : Clq n ad r) (hx : 0 ≤ x ∧ x < (n : Int)) (h1 : ∀ y ∈ r, x < y) (h2 : ∀ y ∈ r, ad x y = true) : Clq n ad (x :: r) :=
  ⟨List.pairwise_cons.mpr ⟨h1, h.inc⟩, fun y hy => (List.mem_cons.mp hy).elim (fun e => by rw [e]; exact hx) (h.ran y), List.pairwise_cons.mpr ⟨h2, h.far⟩⟩
theorem Clq.nil {n : Nat} {ad : Int → Int → Bool} : Clq n ad [] := ⟨.nil, fun x hx => by (cases hx), .nil⟩

def IsF (C : List Int → Prop) : Option (List Int) → Prop
  | none => ∀ r, ¬ C r
  | some r => C r ∧ ∀ r', C r' → HT.lexLt r' r = false
theorem IsF.eq {C : List Int → Prop} : ∀ {o o' : Option (List Int)}, IsF C o → IsF C o' → o = o'
  | none, none, _, _ => rfl
  | none, some r, h, h' => (h r h'.1).elim
  | some r, none, h, h' => (h' r h.1).elim
  | some r, some r', h, h' => by rw [lex_eq (h'.2 r h.1) (h.2 r' h'.1)]
theorem IsF.iff {C C' : List Int → Prop} (e : ∀ r, C r ↔ C' r) : ∀ {o : Option (List Int)}, IsF C o → IsF C' o
  | none, h => fun r q => h r ((e r).mpr q)
  | some r, h => ⟨(e r).mp h.1, fun r' q => h.2 r' ((e r').mpr q)⟩

def CL (n : Nat) (ad : Int → Int → Bool) (ls : List Int) (m : Nat) (r : List Int) : Prop := Clq n ad r ∧ r.length = m ∧ ∀ x ∈ r, x ∈ ls

def nearM (n : Nat) (ad : Int → Int → Bool) (x : Int) : List Int := (rangeI (x + 1) ((n : Int) - (x + 1)).toNat).filter fun y => ad x y
theorem mem_rangeI {lo : Int} {n : Nat} {y : Int} : y ∈ rangeI lo n ↔ lo ≤ y ∧ y < lo + (n : Int) := by
  unfold rangeI
  rw [List.mem_map]
  constructor
  · rintro ⟨k, hk, rfl⟩
    have := List.mem_range.mp hk
    exact ⟨by omega, by omega⟩
  · rintro ⟨h0, h1⟩
    exact ⟨(y - lo).toNat, List.mem_range.mpr (by omega), by omega⟩
theorem rangeI_inc {lo : Int} {n : Nat} : (rangeI lo n).Pairwise (· < ·) := by
  unfold rangeI
  rw [List.pairwise_map]
  exact List.pairwise_lt_range.imp fun h => by omega
theorem mem_near {n : Nat} {ad : Int → Int → Bool} {x y : Int} : y ∈ nearM n ad x ↔ (x < y ∧ y < (n : Int)) ∧ ad x y = true := by
  unfold nearM
  rw [List.mem_filter, mem_rangeI]
  constructor
  · rintro ⟨h1, h2⟩
    exact ⟨⟨by omega, by omega⟩, h2⟩
  · rintro ⟨h1, h2⟩
    exact ⟨⟨by omega, by omega⟩, h2⟩
theorem near_inc {n : Nat} {ad : Int → Int → Bool} {x : Int} : (nearM n ad x).Pairwise (· < ·) := List.Pairwise.filter _ rangeI_inc
theorem near_len {n : Nat} {ad : Int → Int → Bool} {x : Int} (hx : 0 ≤ x) : (nearM n ad x).length ≤ n := by
  unfold nearM
  refine Nat.le_trans (List.length_filter_le _ _) ?_
  unfold rangeI
  rw [List.length_map, List.length_range]
  omega
theorem rangeI_succ (lo : Int) (n : Nat) : rangeI lo (n + 1) = rangeI lo n ++ [lo + (n : Int)] := by
  unfold rangeI
  rw [List.range_succ, List.map_append]
  rfl
theorem rangeI_len (lo : Int) (n : Nat) : (rangeI lo n).length = n := by
  unfold rangeI
  rw [List.length_map, List.length_range]
theorem rangeI_at {lo : Int} {n i : Nat} (h : i < n) : (rangeI lo n)[i]? = some (lo + (i : Int)) := by
  unfold rangeI
  rw [List.getElem?_map, List.getElem?_range h]
  rfl
theorem CL.head {n m : Nat} {ad : Int → Int → Bool} {ls r : List Int} {x : Int} (h : CL n ad ls (m + 1) (x :: r)) : x ∈ ls ∧ CL n ad ((nearM n ad x).filter fun y => decide (y ∈ ls)) m r := by
  obtain ⟨h1, h2, h3⟩ := h
  obtain ⟨c1, c2, c3, c4⟩ := h1.cons
  refine ⟨h3 x List.mem_cons_self, c1, by simpa using h2, fun y hy => ?_⟩
  rw [List.mem_filter, mem_near, decide_eq_true_iff]
  exact ⟨⟨⟨c3 y hy, (c1.ran y hy).2⟩, c4 y hy⟩, h3 y (List.mem_cons_of_mem _ hy)⟩
theorem CL.put {n m : Nat} {ad : Int → Int → Bool} {ls r : List Int} {x : Int} (hx : x ∈ ls) (hr : 0 ≤ x ∧ x < (n : Int)) (h : CL n ad ((nearM n ad x).filter fun y => decide (y ∈ ls)) m r) : CL n ad ls (m + 1) (x :: r) := by
  obtain ⟨h1, h2, h3⟩ := h
  have q : ∀ y ∈ r, (0 ≤ y ∧ y < (n : Int)) ∧ x < y ∧ ad x y = true ∧ y ∈ ls := fun y hy => by
    have := h3 y hy
    rw [List.mem_filter, mem_near, decide_eq_true_iff] at this
    exact ⟨⟨by omega, this.1.1.2⟩, this.1.1.1, this.1.2, this.2⟩
  refine ⟨h1.mk' hr (fun y hy => (q y hy).2.1) fun y hy => (q y hy).2.2.1, by rw [List.length_cons, h2], fun y hy => ?_⟩
  rcases List.mem_cons.mp hy with e | e
  · rw [e]; exact hx
  · exact (q y e).2.2.2

theorem first_step {n m i : Nat} {ad : Int → Int → Bool} {ls l : List Int} {x : Int} (inc : ls.Pairwise (· < ·)) (hx : ls[i]? = some x) (hr : 0 ≤ x ∧ x < (n : Int)) (hno : ∀ r, CL n ad ls (m + 1) r → ∀ y t, r = y :: t → y ∉ ls.take i) (h : IsF (CL n ad ((nearM n ad x).filter fun y => decide (y ∈ ls)) m) (some l)) : IsF (CL n ad ls (m + 1)) (some (x :: l)) := by
  refine ⟨h.1.put (List.mem_of_getElem? hx) hr, fun r' hr' => ?_⟩
  cases r' with
  | nil => have := hr'.2.1; cases this
  | cons y t =>
    obtain ⟨hy, ht⟩ := hr'.head
    have hnt := hno _ hr' y t rfl
    obtain ⟨j, hj, ej⟩ := List.getElem_of_mem hy
    have hij : i ≤ j := Nat.le_of_not_lt fun q => hnt (by rw [← ej]; exact List.mem_take_iff_getElem.mpr ⟨j, by omega, rfl⟩)
    rw [HT.lexLt_cons]
    by_cases e : y = x
    · subst e
      rw [if_pos rfl]
      exact h.2 t ht
    · rw [if_neg e]
      obtain ⟨hi, ei⟩ := List.getElem?_eq_some_iff.mp hx
      have hlt : i < j := Nat.lt_of_le_of_ne hij fun q => e (by subst q; rw [← ej, ← ei])
      have := List.pairwise_iff_getElem.mp inc i j hi hj hlt
      exact decide_eq_false (by omega)
theorem first_no {n m i : Nat} {ad : Int → Int → Bool} {ls : List Int} {x : Int} (hx : ls[i]? = some x) (hno : ∀ r, CL n ad ls (m + 1) r → ∀ y t, r = y :: t → y ∉ ls.take i) (h : IsF (CL n ad ((nearM n ad x).filter fun y => decide (y ∈ ls)) m) none) : ∀ r, CL n ad ls (m + 1) r → ∀ y t, r = y :: t → y ∉ ls.take (i + 1) := by
  rintro r hr y t rfl q
  rw [List.take_add_one, hx] at q
  rcases List.mem_append.mp q with q | q
  · exact hno _ hr y t rfl q
  · have e : y = x := by simpa using q
    subst e
    exact h t hr.head.2
theorem first_end {n m : Nat} {ad : Int → Int → Bool} {ls : List Int} (hno : ∀ r, CL n ad ls (m + 1) r → ∀ y t, r = y :: t → y ∉ ls.take ls.length) : IsF (CL n ad ls (m + 1)) none := by
  intro r hr
  cases r with
  | nil => have := hr.2.1; cases this
  | cons y t =>
    have := hno _ hr y t rfl
    rw [List.take_length] at this
    exact this hr.head.1

def CX (n : Nat) (ad : Int → Int → Bool) (m : Nat) (tk r : List Int) : Prop := Clq n ad r ∧ r.length = m ∧ ∃ t, r = tk ++ t

def Least (n : Nat) (C : List Int → Prop) (m : Nat) : Option (List Int) → Prop
  | none => ∀ c, c < m → ¬ C (bitsM c n)
  | some r => C r ∧ ∀ c, c < m → C (bitsM c n) → HT.lexLt (bitsM c n) r = false
theorem least_first {n : Nat} {C : List Int → Prop} (hC : ∀ r, C r → r.Pairwise (· < ·) ∧ ∀ x ∈ r, 0 ≤ x ∧ x < (n : Int)) : ∀ {o : Option (List Int)}, Least n C (2 ^ n) o → IsF C o
  | none, h => fun r q => by
    obtain ⟨c, hc, e⟩ := bits_all n r (hC r q).1 (hC r q).2
    exact h c hc (by rw [e]; exact q)
  | some r, h => ⟨h.1, fun r' q => by
    obtain ⟨c, hc, e⟩ := bits_all n r' (hC r' q).1 (hC r' q).2
    rw [← e]
    exact h.2 c hc (by rw [e]; exact q)⟩
theorem least_skip {n c : Nat} {C : List Int → Prop} : ∀ {o : Option (List Int)}, Least n C c o → (C (bitsM c n) → ∃ r, o = some r ∧ HT.lexLt (bitsM c n) r = false) → Least n C (c + 1) o
  | none, h, hs => fun c' hc' q => by
    by_cases e : c' = c
    · subst e
      obtain ⟨r, z, _⟩ := hs q
      cases z
    · exact h c' (by omega) q
  | some r, h, hs => ⟨h.1, fun c' hc' q => by
    by_cases e : c' = c
    · subst e
      obtain ⟨r', z, g⟩ := hs q
      cases z
      exact g
    · exact h.2 c' (by omega) q⟩
theorem least_put {n c : Nat} {C : List Int → Prop} {o : Option (List Int)} (h : Least n C c o) (hb : C (bitsM c n)) (hlt : ∀ r, o = some r → HT.lexLt (bitsM c n) r = true) : Least n C (c + 1) (some (bitsM c n)) := by
  refine ⟨hb, fun c' hc' q => ?_⟩
  by_cases e : c' = c
  · subst e
    exact lex_self _
  · cases o with
    | none => exact (h c' (by omega) q).elim
    | some r =>
      have h1 := h.2 c' (by omega) q
      have h2 := hlt r rfl
      cases q2 : HT.lexLt (bitsM c' n) (bitsM c n) with
      | false => rfl
      | true =>
        have := SO.prOrd.trans (0, bitsM c' n) (0, bitsM c n) (0, r) (by show HT.lexLt (0 :: _) (0 :: _) = true; rw [HT.lexLt_cons, if_pos rfl]; exact q2) (by show HT.lexLt (0 :: _) (0 :: _) = true; rw [HT.lexLt_cons, if_pos rfl]; exact h2)
        have h3 : HT.lexLt (0 :: bitsM c' n) (0 :: r) = true := this
        rw [HT.lexLt_cons, if_pos rfl, h1] at h3
        cases h3
end BG
namespace BG
open PySem L2 SO K20
open Classical in
noncomputable def adB (gs bs zl : List (List Int)) (i k : Int) : Bool := decide (∃ t, AP gs bs (zl.getD i.toNat []) (zl.getD k.toNat []) t)
open Classical in
theorem adB_iff {gs bs zl : List (List Int)} {i k : Int} : adB gs bs zl i k = true ↔ ∃ t, AP gs bs (zl.getD i.toNat []) (zl.getD k.toNat []) t := by
  unfold adB
  exact decide_eq_true_iff
theorem inc_len {n : Int} : ∀ (r : List Int) (a : Int), r.Pairwise (· < ·) → (∀ x ∈ r, a ≤ x ∧ x < n) → r.length ≤ (n - a).toNat
  | [], _, _, _ => Nat.zero_le _
  | x :: r, a, h, q => by
    obtain ⟨h1, h2⟩ := List.pairwise_cons.mp h
    have hx := q x List.mem_cons_self
    have := inc_len r (x + 1) h2 fun y hy => ⟨by have := h1 y hy; omega, (q y (List.mem_cons_of_mem _ hy)).2⟩
    rw [List.length_cons]
    omega
theorem inV_nums (t : Int) : ∀ fs : List Int, inV (.int t) (fs.map V.int) = decide (t ∈ fs)
  | [] => rfl
  | x :: fs => by
    show (eqV _ _ || inV (.int t) (fs.map V.int)) = _
    rw [inV_nums t fs]
    by_cases e : x = t
    · subst e
      simp [eqV]
    · simp [eqV, e, Ne.symm e]
theorem flat_ints : ∀ ns : List Int, (ns.map V.int).all flatV = true
  | [] => rfl
  | _ :: ns => flat_ints ns
theorem iteTK {c : Bool} {A B : Prop} (hc : c = true) (h : A) : if c = true then A else B := by rw [if_pos hc]; exact h
theorem iteFK {c : Bool} {A B : Prop} (hc : c = false) (h : B) : if c = true then A else B := by rw [if_neg (by rw [hc]; exact Bool.false_ne_true)]; exact h
def TuO (H : Hp) (v : V) : Option (List Int) → Prop
  | none => v = .non
  | some r => ∃ p, v = .ref p ∧ H p = some (.tup (r.map V.int))
section
variable {P : Program} {w : World} {K : PySem.W.Frag} {mg : Str → Option Value} {base : Heap}

def spAb : Sp := fun vs H Q _ => ∃ (i : Int) (st g b : Addr) (zs : List (Addr × List Int)) (gs bs : List (List Int)), vs = [.int i, .ref st, .ref g, .ref b] ∧ H st = some (.tup (zs.map fun z => V.ref z.1)) ∧ (∀ z ∈ zs, RA H z.1 z.2 ∧ z.2.length ≤ 8) ∧ RsT H g gs ∧ RsT H b bs ∧ gs.length ≤ 24 ∧ bs.length ≤ 24 ∧ (∀ r ∈ gs, r.length ≤ 8) ∧ zs.length ≤ 500 ∧ 0 ≤ i ∧ i < zs.length ∧
  ∀ (l : Addr) (H' : Hp), Same H H' → H l = none → H' l = some (.lst ((nearM zs.length (adB gs bs (zs.map (·.2))) i).map V.int)) → Q (.ref l) H'
abbrev nAb : List Str := ["number", "starts", "good", "bad", "here"]
theorem scAb : FnScope nAb ["number", "starts", "good", "bad"] (defScope sAb) := ⟨rfl, rfl, rfl, by decide +kernel, rfl, by decide +kernel, by decide +kernel⟩
def scopeAb : Scope := { kind := .function, names := [(".0", .local), ("other", .local), ("apart", .globalImplicit), ("bad", .free), ("good", .free), ("here", .free), ("starts", .free)], isGenerator := false, isCoroutine := false, more := [] }
theorem scAb1 : BlkScope (defScope sAb) nAb ["other"] ["bad", "good", "here", "starts"] [3, 2, 4, 1] scopeAb := ⟨rfl, by decide +kernel, by decide +kernel, by decide +kernel, rfl, by decide +kernel, by decide +kernel⟩
theorem zs_at {zs : List (Addr × List Int)} {i : Int} (h0 : 0 ≤ i) (h1 : i < zs.length) : ∃ z, z ∈ zs ∧ atI (zs.map fun z => V.ref z.1) i = some (.ref z.1) ∧ (zs.map (·.2)).getD i.toNat [] = z.2 := by
  obtain ⟨z, hz, _, e⟩ := atI_some zs i h0 h1
  exact ⟨z, hz, atI_int h0 (by rw [List.getElem?_map, e]; rfl), getD_of (by rw [List.getElem?_map, e]; rfl)⟩
theorem ok_ab {f fA : Addr} {fd fdA : FuncData} (F : Fun K "apart_behind" "apart_behind" sAb f fd) (T : Txt mg)
    (FA : Fun K "apart" "apart" sAp fA fdA) (bA : Binds K fdA ["good", "bad", "one", "other"] []) (gA : mg "apart" = some (.ref fA)) (GA : FnOk P w K mg base CX0 3 fA fdA ["good", "bad", "one", "other"] spAp) :
    FnOk P w K mg base CX0 4 f fd ["number", "starts", "good", "bad"] spAb := by
  refine F.ok scAb (fun vs H Q E h => ?_) (fun cdv A outer s H vs Q E hr h => ?_)
  · obtain ⟨i, st, g, b, zs, gs, bs, rfl, _⟩ := h
    rfl
  · obtain ⟨i, st, g, b, zs, gs, bs, rfl, hst, hz, hg, hb, lg, lb, g8, lz, i0, i1, k⟩ := h
    refine ⟨_, pss_cons (ps_set (i := 4) scAb.nd rfl (Or.inr rfl) (pe_ix ix_tup (pv 1) (pv 0) (fun _ _ => rfl)))
      (pss_one (ps_ret (pe_lc scAb1 rfl rfl rfl (pi_range2 rfl T.range (pa_cons (pe_op op_add (pv 0) pe_int) (pa_cons (pe_callB call_len_seq (by rfl) T.len PySem.boot_len (pa_cons (pv 1) pa_nil)) pa_nil))) (fun fp C s1 H1 => pg_name (i := 0) scAb1.nd rfl (Or.inl rfl))
        (fun fp C s1 H1 => pts_one (pt_cmpR op_notN (pe_call GA hr rfl gA FA.kp bA .nil pass0 (pa_cons (pv 2) (pa_cons (pv 1) (pa_cons (pv 3) (pa_cons (pe_ix (r := rIxT K) ix_tup (pv 4) (pv 0) (fun _ _ => rfl)) pa_nil))))) pe_non (nomark _))) (fun fp C s1 H1 => pv 0)))), ?_⟩
    obtain ⟨z, hzm, hza, hzd⟩ := zs_at i0 i1
    have hzl : (zs.map fun z => V.ref z.1).length = zs.length := List.length_map _
    refine ⟨_, rfl, _, rfl, st, _, _, _, rfl, rfl, SqT.of hst, hza, ?_⟩
    refine ⟨_, rfl, _, _, rfl, rfl, _, rfl, st, _, rfl, .inr (SqT.of hst), _, _, rfl, ⟨by omega, by omega, by omega, by omega⟩, fun D hD => ?_⟩
    rw [hzl]
    refine lc_range (lo := i + 1) (n := ((zs.length : Int) - (i + 1)).toNat) (fun j ys H2 => Same H H2 ∧ H2 D = some (.lst ys) ∧ ys = ((rangeI (i + 1) j).filter fun y => adB gs bs (zs.map (·.2)) i y).map V.int) (Nat.le_of_lt (small1000 (by omega)))
      ⟨(Same.refl H).upd_free hD, upd_same, rfl⟩ (fun j ys H2 h => ?_) ?_ ?_
    · rw [h.2.2, List.length_map]
      refine Nat.le_trans (List.length_filter_le _ _) ?_
      rw [rangeI_len]
      exact Nat.le_refl _
    · rintro j ys H2 N M hj ⟨u1, u2, rfl⟩ hN hM
      obtain ⟨z2, hzm2, hza2, hzd2⟩ := zs_at (zs := zs) (i := i + 1 + (j : Int)) (by omega) (by omega)
      have hadd : adB gs bs (zs.map (·.2)) i (i + 1 + (j : Int)) = true ↔ ∃ t, AP gs bs z.2 z2.2 t := by
        rw [adB_iff, hzd, hzd2]
      have tk : (rangeI (i + 1) (j + 1)).filter (fun y => adB gs bs (zs.map (·.2)) i y) = ((rangeI (i + 1) j).filter fun y => adB gs bs (zs.map (·.2)) i y) ++ (if adB gs bs (zs.map (·.2)) i (i + 1 + (j : Int)) = true then [i + 1 + (j : Int)] else []) := by
        rw [rangeI_succ, List.filter_append]
        by_cases c : adB gs bs (zs.map (·.2)) i (i + 1 + (j : Int)) = true
        · rw [if_pos c]; simp [c]
        · rw [if_neg c]; simp [c]
      have ra1 := u1 _ _ (hz z hzm).1
      have ra2 := u1 _ _ (hz z2 hzm2).1
      have l1 := (hz z hzm).2
      have l2 := (hz z2 hzm2).2
      refine ⟨_, rfl, _, rfl, _, rfl, _, rfl, _, rfl, st, _, _, _, rfl, rfl, SqT.of (u1 _ _ hst), hza2, g, b, z.1, z2.1, gs, bs, z.2, z2.2, rfl, hg.same u1, hb.same u1, ra1, ra2, lg, lb, g8, by omega, by omega, fun H3 s3 hno => ?_, fun q t H3 s3 ra ap _ => ?_⟩
      · refine ⟨rfl, _, rfl, iteFK (by simp) (hM H3 ⟨u1.trans s3, s3 _ _ u2, ?_⟩)⟩
        rw [tk, if_neg (fun c => by obtain ⟨t, ap⟩ := hadd.mp c; exact hno t ap), List.append_nil]
      · refine ⟨rfl, _, rfl, iteTK (by simp) ⟨_, rfl, hN _ H3 (s3 _ _ u2) ⟨(u1.trans s3).upd_free hD, upd_same, ?_⟩⟩⟩
        rw [tk, if_pos (hadd.mpr ⟨t, ap⟩), List.map_append]
        rfl
    · rintro ys H2 ⟨u1, u2, rfl⟩
      exact k D H2 u1 hD u2


def NrA (H : Hp) (nr : Addr) (n : Nat) (ad : Int → Int → Bool) : Prop := ∃ qs : List Addr, H nr = some (.lst (qs.map V.ref)) ∧ qs.length = n ∧ ∀ (i : Nat) (q : Addr), qs[i]? = some q → H q = some (.lst ((nearM n ad (i : Int)).map V.int))
theorem NrA.same {H H' : Hp} {nr : Addr} {n : Nat} {ad : Int → Int → Bool} (h : NrA H nr n ad) (s : Same H H') : NrA H' nr n ad := by
  obtain ⟨qs, h1, h2, h3⟩ := h
  exact ⟨qs, s _ _ h1, h2, fun i q e => s _ _ (h3 i q e)⟩
def spFl (d : Nat) : Sp := fun vs H Q _ => ∃ (l nr : Addr) (m n : Nat) (ls : List Int) (ad : Int → Int → Bool), vs = [.ref l, .ref nr, .int (m : Int)] ∧ m < d ∧ H l = some (.lst (ls.map V.int)) ∧ NrA H nr n ad ∧ ls.Pairwise (· < ·) ∧ (∀ x ∈ ls, 0 ≤ x ∧ x < (n : Int)) ∧ ls.length ≤ 500 ∧ n ≤ 500 ∧
  ∀ (v : V) (o : Option (List Int)) (H' : Hp), Same H H' → IsF (CL n ad ls m) o → TuO H' v o → Q v H'
abbrev nFl : List Str := ["left", "near", "size", "number", "others"]
theorem scFl : FnScope nFl ["left", "near", "size"] (defScope sFl) := ⟨rfl, rfl, rfl, by decide +kernel, rfl, by decide +kernel, by decide +kernel⟩
def scopeFl : Scope := { kind := .function, names := [(".0", .local), ("other", .local), ("left", .free)], isGenerator := false, isCoroutine := false, more := [] }
theorem scFl1 : BlkScope (defScope sFl) nFl ["other"] ["left"] [0] scopeFl := ⟨rfl, by decide +kernel, by decide +kernel, by decide +kernel, rfl, by decide +kernel, by decide +kernel⟩
theorem ok_fl {f : Addr} {fd : FuncData} (F : Fun K "first_lonely" "first_lonely" sFl f fd) (bF : Binds K fd ["left", "near", "size"] []) (gF : mg "first_lonely" = some (.ref f)) : ∀ d : Nat, FnOk P w K mg base CX0 (d + 1) f fd ["left", "near", "size"] (spFl d)
  | 0 => by
    refine F.ok scFl (fun vs H Q E h => ?_) (fun cdv A outer s H vs Q E hr h => ?_)
    · obtain ⟨l, nr, m, n, ls, ad, rfl, _⟩ := h
      rfl
    · obtain ⟨l, nr, m, n, ls, ad, rfl, hm, _⟩ := h
      exact absurd hm (Nat.not_lt_zero _)
  | d + 1 => by
    have GF := ok_fl F bF gF d
    refine F.ok scFl (fun vs H Q E h => ?_) (fun cdv A outer s H vs Q E hr h => ?_)
    · obtain ⟨l, nr, m, n, ls, ad, rfl, _⟩ := h
      rfl
    · obtain ⟨l, nr, m, n, ls, ad, rfl, hm, hl, hn, inc, ran, l500, n500, k⟩ := h
      refine ⟨_, pss_cons (ps_if (pt_cmpR op_eq (pv 2) pe_int (nomark _)) (pss_one (ps_ret (pe_tup pa_nil))) pss_nil)
        (pss_cons (ps_for PassesOwn.never rfl (pi_list (pv 0)) (pg_name (i := 3) scFl.nd rfl (Or.inl rfl))
          (pss_cons (ps_cut (ps_set (i := 4) scFl.nd rfl (Or.inl rfl) (pe_call GF hr rfl gF F.kp bF .nil pass0 (pa_cons (pe_lc scFl1 rfl rfl rfl (pi_list (pe_ix ix_list (pv 1) (pv 3) (fun _ _ => rfl))) (fun fp C s1 H1 => pg_name (i := 0) scFl1.nd rfl (Or.inl rfl))
            (fun fp C s1 H1 => pts_one (pt_cmpR (r := rIn K false) op_in_seq (pv 0) (pv 1) (by with_unfolding_all rfl))) (fun fp C s1 H1 => pv 0)) (pa_cons (pv 1) (pa_cons (pe_op op_sub (pv 2) pe_int) pa_nil))))))
          (pss_one (ps_if (pt_cmpR op_notN (pv 4) pe_non (nomark _)) (pss_one (ps_ret (pe_op op_catA (pe_tup (pa_cons (pv 3) pa_nil)) (pv 4)))) pss_nil))))
        (pss_one (ps_ret pe_non))), ?_⟩
      refine ⟨_, rfl, rfl, _, rfl, ?_⟩
      refine ite2 (fun h0 => ?_) (fun h0 => ?_)
      · have hm0 : m = 0 := by
          have := of_decide_eq_true h0
          injection this with e
          omega
        subst hm0
        refine ⟨Nat.zero_le _, fun p hp => ?_⟩
        refine k (.ref p) (some []) _ ((Same.refl H).upd_free hp) ⟨⟨.nil, rfl, fun x hx => by (cases hx)⟩, fun r' hr' => ?_⟩ ⟨p, rfl, upd_same⟩
        have := hr'.2.1
        cases r' with
        | nil => rfl
        | cons x r => cases this
      · obtain ⟨m', rfl⟩ : ∃ m', m = m' + 1 := by
          cases m with
          | zero => exact absurd (decide_eq_true rfl) h0
          | succ m' => exact ⟨m', rfl⟩
        refine ⟨_, rfl, l, rfl, ⟨_, SqL.of hl⟩, ?_⟩
        refine for_list (K := K) (a := l) (xs := ls.map V.int) (fun i σ H2 => ∃ v3 v4 : Option V, σ = [some (.ref l), some (.ref nr), some (.int ((m' + 1 : Nat) : Int)), v3, v4] ∧ Same H H2 ∧ ∀ r, CL n ad ls (m' + 1) r → ∀ y t, r = y :: t → y ∉ ls.take i) ⟨none, none, rfl, Same.refl H, fun r _ y t _ h => by cases h⟩ (fun i σ H2 _ ⟨_, _, _, h, _⟩ => SqL.of (h _ _ hl)) ?_ ?_
        · rintro i x σ H2 hx ⟨v3, v4, rfl, s2, hno⟩
          rw [List.getElem?_map] at hx
          obtain ⟨x, ex, rfl⟩ := Option.map_eq_some_iff.mp hx
          have hxr := ran x (List.mem_of_getElem? ex)
          obtain ⟨qs, hn1, hn2, hn3⟩ := hn.same s2
          obtain ⟨q, _, _, eq⟩ := atI_some qs x hxr.1 (by rw [hn2]; exact hxr.2)
          have hq := hn3 _ q eq
          rw [show ((x.toNat : Nat) : Int) = x by omega] at hq
          refine ⟨fun σ' H' => ∃ (v : V) (o : Option (List Int)), σ' = [some (.ref l), some (.ref nr), some (.int ((m' + 1 : Nat) : Int)), some (.int x), some v] ∧ Same H2 H' ∧ IsF (CL n ad ((nearM n ad x).filter fun y => decide (y ∈ ls)) m') o ∧ TuO H' v o, ?_, ?_⟩
          · refine ⟨_, rfl, _, rfl, nr, _, _, .ref q, rfl, rfl, SqL.of hn1, atI_int hxr.1 (by rw [List.getElem?_map, eq]; rfl), q, rfl, ⟨_, SqL.of hq⟩, fun D hD => ?_⟩
            have hnl := near_len (n := n) (ad := ad) hxr.1
            refine lc_list (K := K) (a := q) (xs := (nearM n ad x).map V.int) (fun j ys H3 => Same H2 H3 ∧ H3 D = some (.lst ys) ∧ ys.length ≤ j ∧ ys = (((nearM n ad x).take j).filter fun y => decide (y ∈ ls)).map V.int) (Nat.le_of_lt (small1000 (by rw [List.length_map]; omega)))
              ⟨(Same.refl H2).upd_free hD, upd_same, Nat.le_refl _, rfl⟩ (fun j ys H3 h => h.2.2.1) (fun j ys H3 h => SqL.of (h.1 _ _ hq)) ?_ ?_
            · rintro j ys H3 y N M hy ⟨u1, u2, u3, rfl⟩ hN hM
              rw [List.getElem?_map] at hy
              obtain ⟨y, ey, rfl⟩ := Option.map_eq_some_iff.mp hy
              have tk : (nearM n ad x).take (j + 1) = (nearM n ad x).take j ++ [y] := by rw [List.take_add_one, ey]; rfl
              refine ⟨_, rfl, _, rfl, l, _, rfl, .inl (SqL.of ((s2.trans u1) _ _ hl)), rfl, flat_ints ls, _, rfl, ?_⟩
              show (if inV (.int y) (ls.map V.int) = true then _ else _)
              rw [inV_nums]
              by_cases c : y ∈ ls
              · refine iteTK (decide_eq_true c) ⟨_, rfl, hN _ H3 u2 ⟨u1.upd_free hD, upd_same, by rw [List.length_append, List.length_singleton]; omega, ?_⟩⟩
                rw [tk, List.filter_append, List.map_append]
                simp [c]
              · refine iteFK (decide_eq_false c) (hM H3 ⟨u1, u2, by omega, ?_⟩)
                rw [tk, List.filter_append, List.map_append]
                simp [c]
            · rintro ys H3 ⟨u1, u2, u3, rfl⟩
              rw [List.length_map, List.take_length] at u2
              refine ⟨_, rfl, _, rfl, _, _, rfl, rfl, D, nr, m', n, _, ad, ?_, by omega, u2, ⟨qs, u1 _ _ hn1, hn2, fun i q e => u1 _ _ (hn3 i q e)⟩, List.Pairwise.filter _ near_inc, fun y hy => ?_, ?_, n500, fun v o H4 s4 ho hv => ⟨v, o, rfl, u1.trans s4, ho, hv⟩⟩
              · have : ((m' + 1 : Nat) : Int) - 1 = (m' : Int) := by omega
                show [V.ref D, V.ref nr, V.int (((m' + 1 : Nat) : Int) - 1)] = _
                rw [this]
              · have := mem_near.mp (List.mem_filter.mp hy).1
                exact ⟨by omega, this.1.2⟩
              · exact Nat.le_trans (List.length_filter_le _ _) (by omega)
          rintro σ' H3 ⟨v, o, rfl, s3, ho, hv⟩
          cases o with
          | none =>
            cases (show v = .non from hv)
            refine ⟨_, rfl, rfl, _, rfl, iteFK (by simp) ?_⟩
            exact ⟨_, _, rfl, s2.trans s3, first_no ex hno ho⟩
          | some r =>
            obtain ⟨p, rfl, hp⟩ := hv
            refine ⟨_, rfl, rfl, _, rfl, iteTK (by simp) ?_⟩
            refine ⟨_, rfl, (by show 1 ≤ sizeLine; decide), fun p1 hp1 => ?_⟩
            have s4 := (Same.refl H3).upd_free (o := .tup [.int x]) hp1
            have q1 : upd H3 p1 (.tup [.int x]) p1 = some (.tup [.int x]) := upd_same
            generalize upd H3 p1 (.tup [.int x]) = H4 at s4 q1
            have hrl : r.length = m' := ho.1.2.1
            have hrn : r.length ≤ 500 := by
              have := inc_len r 0 ho.1.1.inc ho.1.1.ran
              omega
            refine ⟨_, rfl, p1, p, _, _, rfl, rfl, q1, s4 _ _ hp, ?_, fun p2 H5 s5 hp2 => ?_⟩
            · rw [List.length_map]
              show 1 + r.length ≤ _
              exact Nat.le_of_lt (small1000 (by omega))
            · refine k (.ref p2) (some (x :: r)) H5 (((s2.trans s3).trans s4).trans s5) (first_step inc ex hxr hno ho) ⟨p2, rfl, ?_⟩
              rw [List.map_cons]
              exact hp2
        · rintro σ H2 ⟨v3, v4, rfl, s2, hno⟩
          rw [List.length_map] at hno
          exact k .non none H2 s2 (first_end hno) rfl
end
end BG
namespace L2
open PySem PySem.Spec PyProof.Rows
section
variable {X : Cx} {P : Program} {w : World}
theorem pc_tnotinW (hP : X.prog = P) (hw : X.w = w) {i o : Expr} {ty td : TE} (hu : X.A.units + 1 < cLine) (hi : PE X i ty) (ho : PE X o td) : PC X .NotIn i o (tTNotIn P w ty td) := by subst hP hw; exact pc_tnotin hu hi ho
theorem pe_tnewW {pos : Pos} (hP : X.prog = P) (hw : X.w = w) : PE X (.Dict [] [] pos) (tTNew P w) := by subst hP hw; exact pe_tnew
end
end L2
namespace BG
open PySem L2 SO K20
def RuO (H : Hp) (v : V) (zl : List (List Int)) : Option (List Int) → Prop
  | none => v = .non
  | some r => ∃ p ps, v = .ref p ∧ H p = some (.tup (ps.map V.ref)) ∧ TupsAt H ps (r.map fun i => zl.getD i.toNat [])
theorem take_iff {r a : List Int} {Pr : List Int → Prop} : (r.take a.length = a ∧ Pr (r.drop a.length)) ↔ ∃ t, r = a ++ t ∧ Pr t := by
  constructor
  · rintro ⟨h1, h2⟩
    refine ⟨r.drop a.length, ?_, h2⟩
    have := List.take_append_drop a.length r
    rw [h1] at this
    exact this.symm
  · rintro ⟨t, rfl, h⟩
    rw [List.take_left' rfl, List.drop_left' rfl]
    exact ⟨rfl, h⟩
section
variable {P : Program} {w : World} {K : PySem.W.Frag} {mg : Str → Option Value} {base : Heap}

def spLo : Sp := fun vs H Q _ => ∃ (g b : Addr) (gs bs : List (List Int)) (m : Nat), vs = [.ref g, .ref b, .int (m : Int)] ∧ RsT H g gs ∧ RsT H b bs ∧ gs.length ≤ 24 ∧ bs.length ≤ 24 ∧ (∀ r ∈ gs ++ bs, r.length ≤ 8) ∧ Cnt (gs ++ bs) 400 ∧ m ≤ 6 ∧
  ∀ (v : V) (zl : List (List Int)) (o : Option (List Int)) (H' : Hp), Same H H' → Srt zl → (∀ ns, ns ∈ zl ↔ isB (gs ++ bs) ns) → IsF (fun r => Clq zl.length (adB gs bs zl) r ∧ r.length = m) o → RuO H' v zl o → Q v H'
abbrev nLo : List Str := ["good", "bad", "size", "starts", "numbers", "near", "chosen"]
theorem scLo : FnScope nLo ["good", "bad", "size"] (defScope sLo) := ⟨rfl, rfl, rfl, by decide +kernel, rfl, by decide +kernel, by decide +kernel⟩
def scopeLo1 : Scope := { kind := .function, names := [(".0", .local), ("number", .local), ("apart_behind", .globalImplicit), ("bad", .free), ("good", .free), ("starts", .free)], isGenerator := false, isCoroutine := false, more := [] }
def scopeLo2 : Scope := { kind := .function, names := [(".0", .local), ("number", .local), ("starts", .free)], isGenerator := false, isCoroutine := false, more := [] }
theorem scLo1 : BlkScope (defScope sLo) nLo ["number"] ["bad", "good", "starts"] [1, 0, 3] scopeLo1 := ⟨rfl, by decide +kernel, by decide +kernel, by decide +kernel, rfl, by decide +kernel, by decide +kernel⟩
theorem scLo2 : BlkScope (defScope sLo) nLo ["number"] ["starts"] [3] scopeLo2 := ⟨rfl, by decide +kernel, by decide +kernel, by decide +kernel, rfl, by decide +kernel, by decide +kernel⟩
theorem ok_lo {f fB fA fF : Addr} {fd fdB fdA fdF : FuncData} (F : Fun K "lonely" "lonely" sLo f fd) (T : Txt mg)
    (FB : Fun K "beginnings" "beginnings" sBg fB fdB) (bB : Binds K fdB ["good", "bad"] []) (gB : mg "beginnings" = some (.ref fB)) (GB : FnOk P w K mg base CX0 4 fB fdB ["good", "bad"] spBg)
    (FA : Fun K "apart_behind" "apart_behind" sAb fA fdA) (bA : Binds K fdA ["number", "starts", "good", "bad"] []) (gA : mg "apart_behind" = some (.ref fA)) (GA : FnOk P w K mg base CX0 4 fA fdA ["number", "starts", "good", "bad"] spAb)
    (FF : Fun K "first_lonely" "first_lonely" sFl fF fdF) (bF : Binds K fdF ["left", "near", "size"] []) (gF : mg "first_lonely" = some (.ref fF)) (GF : FnOk P w K mg base CX0 8 fF fdF ["left", "near", "size"] (spFl 7)) :
    FnOk P w K mg base CX0 9 f fd ["good", "bad", "size"] spLo := by
  refine F.ok scLo (fun vs H Q E h => ?_) (fun cdv A outer s H vs Q E hr h => ?_)
  · obtain ⟨g, b, gs, bs, m, rfl, _⟩ := h
    rfl
  · obtain ⟨g, b, gs, bs, m, rfl, hg, hb, lg, lb, hsh, hC, hm6, k⟩ := h
    have hr4 : Room 4 _ := hr.mono (by decide)
    refine ⟨_, pss_cons (ps_set (i := 3) scLo.nd rfl (Or.inr rfl) (pe_call GB hr4 rfl gB FB.kp bB .nil pass0 (pa_cons (pv 0) (pa_cons (pv 1) pa_nil))))
      (pss_cons (ps_set (i := 4) scLo.nd rfl (Or.inl rfl) (pe_callTy (call_list_rng rfl) (by rfl) T.list PyProof.Rows.boot_list (pa_cons (pe_callTy call_rng1 (by rfl) T.range PyProof.Rows.boot_range (pa_cons (pe_callB call_len_seq (by rfl) T.len PySem.boot_len (pa_cons (pv 3) pa_nil)) pa_nil)) pa_nil)))
      (pss_cons (ps_setlc (i := 5) scLo1 rfl rfl rfl (pi_list (pv 4)) (fun fp C s1 H1 => pg_name (i := 0) scLo1.nd rfl (Or.inl rfl)) (fun fp C s1 H1 => pts_nil)
        (fun fp C s1 H1 => pe_call GA hr4 rfl gA FA.kp bA .nil pass0 (pa_cons (pv 0) (pa_cons (pv 3) (pa_cons (pv 2) (pa_cons (pv 1) pa_nil))))) scLo.nd rfl rfl rfl)
      (pss_cons (ps_set (i := 6) scLo.nd rfl (Or.inl rfl) (pe_call GF hr rfl gF FF.kp bF .nil pass0 (pa_cons (pv 4) (pa_cons (pv 5) (pa_cons (pv 2) pa_nil)))))
      (pss_one (ps_ret (pe_ifExp (pt_cmpR op_isN (pv 6) pe_non (nomark _)) pe_non (pe_callTy call_tuple_of (by rfl) T.tuple PyProof.Rows.boot_tuple (pa_cons (pe_lc scLo2 rfl rfl rfl (pi_tup (pv 6)) (fun fp C s1 H1 => pg_name (i := 0) scLo2.nd rfl (Or.inl rfl)) (fun fp C s1 H1 => pts_nil)
        (fun fp C s1 H1 => pe_ix (r := rIxT K) ix_tup (pv 1) (pv 0) (fun _ _ => rfl))) pa_nil)))))))), ?_⟩
    refine ⟨_, rfl, _, rfl, g, b, gs, bs, rfl, hg, hb, lg, lb, hsh, fun st zs H1 s1 hst hz => ?_⟩
    have hz400 := hC.len hz
    have hzl : (zs.map fun z => V.ref z.1).length = zs.length := List.length_map _
    refine ⟨_, rfl, st, _, rfl, .inr (SqT.of hst), _, rfl, fun rg hrg => ?_⟩
    rw [hzl]
    have s2 := (Same.refl H1).upd_free (o := .rng 0 (zs.length : Int)) hrg
    have q2 : upd H1 rg (.rng 0 (zs.length : Int)) rg = some (.rng 0 (zs.length : Int)) := upd_same
    generalize upd H1 rg (.rng 0 (zs.length : Int)) = H2 at s2 q2
    refine ⟨rg, 0, (zs.length : Int), rfl, q2, by omega, by omega, by omega, by omega, by omega, fun ln hln => ?_⟩
    have en : ((zs.length : Int) - 0).toNat = zs.length := by omega
    rw [en]
    have s3 := (Same.refl H2).upd_free (o := .lst ((rangeI 0 zs.length).map V.int)) hln
    have q3 : upd H2 ln (.lst ((rangeI 0 zs.length).map V.int)) ln = some (.lst ((rangeI 0 zs.length).map V.int)) := upd_same
    generalize upd H2 ln (.lst ((rangeI 0 zs.length).map V.int)) = H3 at s3 q3
    have s13 := s2.trans s3
    have sH3 := s1.trans s13
    refine ⟨_, rfl, ln, rfl, ⟨_, SqL.of q3⟩, fun D hD => ?_⟩
    have hg8 : ∀ r ∈ gs, r.length ≤ 8 := fun r hr' => hsh r (List.mem_append_left _ hr')
    have hll : ((rangeI 0 zs.length).map V.int).length = zs.length := by rw [List.length_map, rangeI_len]
    refine lc_list (K := K) (a := ln) (xs := (rangeI 0 zs.length).map V.int) (fun i ys H4 => Same H3 H4 ∧ H4 D = some (.lst ys) ∧ ∃ qs : List Addr, ys = qs.map V.ref ∧ qs.length = i ∧ ∀ (j : Nat) (q : Addr), qs[j]? = some q → q ≠ D ∧ H4 q = some (.lst ((nearM zs.length (adB gs bs (zs.map (·.2))) (j : Int)).map V.int))) (Nat.le_of_lt (small1000 (by omega)))
      ⟨(Same.refl H3).upd_free hD, upd_same, [], rfl, rfl, fun j q e => by simp at e⟩ (fun i ys H4 ⟨_, _, qs, e, h, _⟩ => by rw [e, List.length_map, h]; exact Nat.le_refl _) (fun i ys H4 h => SqL.of (h.1 _ _ q3)) ?_ ?_
    · rintro i ys H4 x N M hx ⟨u1, u2, qs, rfl, hql, hqs⟩ hN hM
      have hi : i < zs.length := by
        have := (List.getElem?_eq_some_iff.mp hx).1
        omega
      rw [List.getElem?_map, rangeI_at hi] at hx
      cases hx
      have s14 := s13.trans u1
      refine ⟨_, rfl, _, rfl, _, rfl, _, rfl, (0 + (i : Int)), st, g, b, zs, gs, bs, rfl, s14 _ _ hst, fun z hz' => ⟨s14 _ _ (hz.at' z hz'), hz.sh z hz'⟩, hg.same (s1.trans s14), hb.same (s1.trans s14), lg, lb, hg8, by omega, by omega, by omega, fun l H5 s5 hl5 hl => ?_⟩
      rw [Int.zero_add] at hl
      have nlD : l ≠ D := fun e => by rw [e] at hl5; rw [hl5] at u2; cases u2
      refine hN _ H5 (s5 _ _ u2) ⟨(u1.trans s5).upd_free hD, upd_same, qs ++ [l], by rw [List.map_append]; rfl, by rw [List.length_append, hql]; rfl, fun j q e => ?_⟩
      by_cases hj : j < qs.length
      · rw [List.getElem?_append_left hj] at e
        obtain ⟨e1, e2⟩ := hqs j q e
        exact ⟨e1, by rw [upd_ne e1]; exact s5 _ _ e2⟩
      · rw [List.getElem?_append_right (by omega)] at e
        have ej : j - qs.length = 0 := by
          have := (List.getElem?_eq_some_iff.mp e).1
          simp at this
          omega
        rw [ej] at e
        cases e
        have : j = i := by omega
        subst this
        exact ⟨nlD, by rw [upd_ne nlD]; exact hl⟩
    · rintro ys H4 ⟨u1, u2, qs, rfl, hql, hqs⟩
      rw [hll] at hql
      have hmem : ∀ x ∈ rangeI 0 zs.length, 0 ≤ x ∧ x < (zs.length : Int) := fun x hx => by
        have := mem_rangeI.mp hx
        omega
      refine ⟨_, rfl, _, rfl, _, rfl, ln, D, m, zs.length, rangeI 0 zs.length, adB gs bs (zs.map (·.2)), rfl, by omega, u1 _ _ q3, ⟨qs, u2, hql, fun i q e => (hqs i q e).2⟩, rangeI_inc, hmem, by rw [rangeI_len]; omega, by omega, fun v o H5 s5 ho hv => ?_⟩
      have s15 := s13.trans (u1.trans s5)
      have ho' : IsF (fun r => Clq (zs.map (·.2)).length (adB gs bs (zs.map (·.2))) r ∧ r.length = m) o := by
        rw [List.length_map]
        refine ho.iff fun r => ⟨fun h => ⟨h.1, h.2.1⟩, fun h => ⟨h.1, h.2, fun x hx => mem_rangeI.mpr ?_⟩⟩
        have := h.1.ran x hx
        omega
      cases o with
      | none =>
        cases (show v = .non from hv)
        exact ⟨_, rfl, rfl, _, rfl, iteTK (by simp) (k .non (zs.map (·.2)) none H5 (s1.trans s15) hz.srt hz.mem ho' rfl)⟩
      | some r =>
        obtain ⟨p, rfl, hp⟩ := hv
        refine ⟨_, rfl, rfl, _, rfl, iteFK (by simp) ?_⟩
        have hr500 : r.length ≤ zs.length := by
          have := inc_len r 0 ho.1.1.inc ho.1.1.ran
          omega
        refine ⟨_, rfl, p, rfl, ⟨_, SqT.of hp⟩, fun D2 hD2 => ?_⟩
        refine lc_tup (K := K) (a := p) (xs := r.map V.int) (fun i ys H6 => Same H5 H6 ∧ H6 D2 = some (.lst ys) ∧ ∃ ps : List Addr, ys = ps.map V.ref ∧ ps.length = i ∧ TupsAt H6 ps ((r.take i).map fun i => (zs.map (·.2)).getD i.toNat [])) (Nat.le_of_lt (small1000 (by rw [List.length_map]; omega)))
          ⟨(Same.refl H5).upd_free hD2, upd_same, [], rfl, rfl, tups_nil⟩ (fun i ys H6 ⟨_, _, ps, e, h, _⟩ => by rw [e, List.length_map, h]; exact Nat.le_refl _) (fun i ys H6 h => SqT.of (h.1 _ _ hp)) ?_ ?_
        · rintro i ys H6 x N M hx ⟨w1, w2, ps, rfl, hpl, hT⟩ hN hM
          rw [List.getElem?_map] at hx
          obtain ⟨x, ex, rfl⟩ := Option.map_eq_some_iff.mp hx
          have hxr := ho.1.1.ran x (List.mem_of_getElem? ex)
          obtain ⟨z, hzm, hza, hzd⟩ := zs_at (zs := zs) hxr.1 hxr.2
          have s16 := s15.trans w1
          have tsD : TSame H6 (upd H6 D2 (.lst (ps.map V.ref ++ [.ref z.1]))) := TSame.upd_lst (fun _ _ e => e) w2
          refine ⟨_, rfl, _, rfl, st, _, _, _, rfl, rfl, SqT.of (s16 _ _ hst), hza, hN _ H6 w2 ⟨w1.upd_free hD2, upd_same, ps ++ [z.1], by rw [List.map_append]; rfl, by rw [List.length_append, hpl]; rfl, ?_⟩⟩
          have tk : (r.take (i + 1)).map (fun i => (zs.map (·.2)).getD i.toNat []) = ((r.take i).map fun i => (zs.map (·.2)).getD i.toNat []) ++ [z.2] := by
            rw [List.take_add_one, ex, List.map_append, ← hzd]
            rfl
          rw [tk]
          exact tups_snoc (hT.tsame tsD) (tsD _ _ (s16 _ _ (hz.at' z hzm)))
        · rintro ys H6 ⟨w1, w2, ps, rfl, hpl, hT⟩
          rw [List.length_map, List.take_length] at hT
          refine ⟨D2, _, rfl, .inl ⟨SqL.of w2, fun pt hpt => ?_⟩⟩
          have s7 := (Same.refl H6).upd_free (o := .tup (ps.map V.ref)) hpt
          exact k (.ref pt) (zs.map (·.2)) (some r) _ (s1.trans (s15.trans (w1.trans s7))) hz.srt hz.mem ho' ⟨pt, ps, rfl, upd_same, hT.tsame s7.tups⟩

def spLa : Sp := fun vs H Q _ => ∃ (g b o p : Addr) (gs bs : List (List Int)) (on pn : List Int), vs = [.ref g, .ref b, .ref o, .ref p] ∧ RsT H g gs ∧ RsT H b bs ∧ RA H o on ∧ RA H p pn ∧ (∀ r ∈ gs, r.length ≤ 8) ∧ on.length ≤ 100 ∧ pn.length ≤ 100 ∧
  ∀ (bt : Bool) (H' : Hp), Same H H' → (bt = true ↔ ∃ t, AP gs bs on pn t) → Q (.bl bt) H'
theorem scLa : FnScope ["_law_good", "_law_bad", "_law_one", "_law_other", "_law_run_here"] ["_law_good", "_law_bad", "_law_one", "_law_other"] (defScope sLa) := ⟨rfl, rfl, rfl, by decide +kernel, rfl, by decide +kernel, by decide +kernel⟩
theorem ok_la {f : Addr} {fd : FuncData} (F : Fun K "_law_apart" "_law_apart" sLa f fd) (T : Txt mg) : FnOk P w K mg base CX0 1 f fd ["_law_good", "_law_bad", "_law_one", "_law_other"] spLa := by
  refine F.ok scLa (fun vs H Q E h => ?_) (fun cdv A outer s H vs Q E hr h => ?_)
  · obtain ⟨g, b, o, p, gs, bs, on, pn, rfl, _⟩ := h
    rfl
  · obtain ⟨g, b, o, p, gs, bs, on, pn, rfl, ⟨tg, hg1, hg2⟩, ⟨tb, hb1, hb2⟩, ho, hp, g8, lo, lp, k⟩ := h
    have hu64 := hr.units
    have hg1 : H g = some (.tup (tg.map V.ref)) := hg1
    refine ⟨_, pss_cons (ps_for PassesOwn.never rfl (pi_tup (pv 0)) (pg_name (i := 4) scLa.nd rfl (Or.inl rfl))
        (pss_cons (ps_cut (ps_if (PW.pt (pw_and (pt_cmpR (op_eqD hu64) (pe_slice sl_tupA (pv 4) po_none (po_some (pe_callB call_len_seq (by rfl) T.len PySem.boot_len (pa_cons (pv 2) pa_nil)))) (pv 2) (nomark _))
            (pw_and1 (pt_cmpR (op_inD hu64) (pe_op op_catA (pv 3) (pe_slice sl_tupA (pv 4) (po_some (pe_callB call_len_seq (by rfl) T.len PySem.boot_len (pa_cons (pv 2) pa_nil))) po_none)) (pv 1) (by with_unfolding_all rfl))))) (pss_one (ps_ret pe_bl)) pss_nil))
        (pss_one (ps_if (PW.pt (pw_and (pt_cmpR (op_eqD hu64) (pe_slice sl_tupA (pv 4) po_none (po_some (pe_callB call_len_seq (by rfl) T.len PySem.boot_len (pa_cons (pv 3) pa_nil)))) (pv 3) (nomark _))
            (pw_and1 (pt_cmpR (op_inD hu64) (pe_op op_catA (pv 2) (pe_slice sl_tupA (pv 4) (po_some (pe_callB call_len_seq (by rfl) T.len PySem.boot_len (pa_cons (pv 3) pa_nil))) po_none)) (pv 1) (by with_unfolding_all rfl))))) (pss_one (ps_ret pe_bl)) pss_nil))))
      (pss_one (ps_ret pe_bl)), ?_⟩
    refine ⟨_, rfl, g, rfl, ⟨_, SqT.of hg1⟩, ?_⟩
    have hgl : (tg.map V.ref).length = gs.length := by rw [List.length_map]; exact hg2.1
    refine for_tup (K := K) (a := g) (xs := tg.map V.ref) (fun i σ H2 => ∃ v4 : Option V, σ = [some (.ref g), some (.ref b), some (.ref o), some (.ref p), v4] ∧ Same H H2 ∧ ∀ r ∈ gs.take i, ∀ t, ¬ (r = on ++ t ∧ pn ++ t ∈ bs) ∧ ¬ (r = pn ++ t ∧ on ++ t ∈ bs)) ⟨none, rfl, Same.refl H, fun r hr' => by cases hr'⟩ (fun i σ H2 _ ⟨_, _, h, _⟩ => SqT.of (h _ _ hg1)) ?_ ?_
    · rintro i x σ H2 hx ⟨v4, rfl, s2, hno⟩
      have hi : i < gs.length := by
        have := (List.getElem?_eq_some_iff.mp hx).1
        omega
      have er : gs[i]? = some gs[i] := List.getElem?_eq_getElem hi
      generalize gs[i] = r at er
      obtain ⟨t, e1, e2⟩ := hg2.2 i r er
      rw [List.getElem?_map, e1] at hx
      cases hx
      have hr8 := g8 r (List.mem_of_getElem? er)
      -- one look: a and c the two runs
      have look : ∀ {H3 : Hp} {a c : Addr} {an cn : List Int} {R : Bool → Hp → Prop}, Same H2 H3 → RA H3 a an → RA H3 c cn → an.length ≤ 100 → cn.length ≤ 100 →
          (∀ H5, Same H3 H5 → (¬ ∃ t, r = an ++ t ∧ cn ++ t ∈ bs) → R false H5) → (∀ H5, Same H3 H5 → (∃ t, r = an ++ t ∧ cn ++ t ∈ bs) → R true H5) →
          ∃ ys, SqT K H3 a ys ∧ H3 t = some (.tup (r.map V.int)) ∧ ∀ pz H4, Same H3 H4 → H4 pz = some (.tup (cutV (r.map V.int) none (some (ys.length : Int)))) →
            ∃ dx dy, DAt K H4 (.ref pz) dx ∧ DAt K H4 (.ref a) dy ∧ DOk dx ∧ DOk dy ∧ ((PyData.eqv dx dy = false ∧ R false H4) ∨ (PyData.eqv dx dy = true ∧ ∃ ys2, SqT K H4 a ys2 ∧ H4 t = some (.tup (r.map V.int)) ∧ ∀ pd H5, Same H4 H5 → H5 pd = some (.tup (cutV (r.map V.int) (some (ys2.length : Int)) none)) →
              H5 c = some (.tup (cn.map V.int)) ∧ (cn.map V.int).length + (cutV (r.map V.int) (some (ys2.length : Int)) none).length ≤ sizeLine ∧ ∀ pc H6, Same H5 H6 → H6 pc = some (.tup (cn.map V.int ++ cutV (r.map V.int) (some (ys2.length : Int)) none)) →
                rInD K false (.ref pc) (.ref b) H6 fun v H7 => ∃ bt, v = .bl bt ∧ R bt H7)) := by
        intro H3 a c an cn R s3 ra rc la lc hF hT
        have ea : (an.map V.int).length = an.length := List.length_map _
        refine ⟨_, SqT.of ra, (s2.trans s3) _ _ e2, fun pz H4 s4 hpz => ?_⟩
        rw [ea, cut_take, ← List.map_take] at hpz
        refine ⟨dRun (r.take an.length), dRun an, run_dat hpz, run_dat (s4 _ _ ra), dRun_ok _, dRun_ok _, ?_⟩
        rw [dRun_eqv]
        by_cases c1 : r.take an.length = an
        · refine .inr ⟨decide_eq_true c1, _, SqT.of (s4 _ _ ra), ((s2.trans s3).trans s4) _ _ e2, fun pd H5 s5 hpd => ?_⟩
          rw [ea, cut_drop, ← List.map_drop] at hpd ⊢
          refine ⟨(s4.trans s5) _ _ rc, ?_, fun pc H6 s6 hpc => ?_⟩
          · rw [List.length_map, List.length_map, List.length_drop]
            exact Nat.le_of_lt (small1000 (by omega))
          rw [← List.map_append] at hpc
          have s36 := (s4.trans s5).trans s6
          have s06 := (s2.trans s3).trans s36
          refine in_runs hpc (.inr (SqT.of (s06 _ _ hb1))) (hb2.tsame s06.tups) ⟨_, rfl, ?_⟩
          have iffx : cn ++ r.drop an.length ∈ bs ↔ ∃ t, r = an ++ t ∧ cn ++ t ∈ bs := by
            rw [← take_iff (Pr := fun t => cn ++ t ∈ bs)]
            exact ⟨fun h => ⟨c1, h⟩, fun h => h.2⟩
          show R (decide (cn ++ r.drop an.length ∈ bs)) H6
          by_cases c2 : cn ++ r.drop an.length ∈ bs
          · rw [decide_eq_true c2]; exact hT H6 s36 (iffx.mp c2)
          · rw [decide_eq_false c2]; exact hF H6 s36 fun h => c2 (iffx.mpr h)
        · refine .inl ⟨decide_eq_false c1, hF H4 s4 fun ⟨t, h1, h2⟩ => c1 ?_⟩
          rw [h1, List.take_left' rfl]
      have done : ∀ H5, Same H H5 → (∃ t, (r = on ++ t ∧ pn ++ t ∈ bs) ∨ (r = pn ++ t ∧ on ++ t ∈ bs)) → Q (.bl true) H5 := fun H5 s5 ⟨t', h⟩ => by
        refine k true H5 s5 ⟨fun _ => ⟨t', ?_⟩, fun _ => rfl⟩
        have hm := List.mem_of_getElem? er
        rcases h with ⟨h1, h2⟩ | ⟨h1, h2⟩
        · exact .inl ⟨by rw [← h1]; exact hm, h2⟩
        · exact .inr ⟨by rw [← h1]; exact hm, h2⟩
      refine ⟨fun σ' H' => σ' = [some (.ref g), some (.ref b), some (.ref o), some (.ref p), some (.ref t)] ∧ Same H2 H' ∧ ¬ ∃ t, r = on ++ t ∧ pn ++ t ∈ bs, ?_, ?_⟩
      · obtain ⟨ys, y1, y2, y3⟩ := look (R := fun bt H' => if bt = true then Q (.bl true) H' else ([some (V.ref g), some (.ref b), some (.ref o), some (.ref p), some (.ref t)] = [some (V.ref g), some (.ref b), some (.ref o), some (.ref p), some (.ref t)] ∧ Same H2 H' ∧ ¬ ∃ t, r = on ++ t ∧ pn ++ t ∈ bs)) (Same.refl H2) (s2 _ _ ho) (s2 _ _ hp) lo lp (fun H5 s5 h => iteF ⟨rfl, s5, h⟩) (fun H5 s5 ⟨t', h⟩ => iteT (done H5 (s2.trans s5) ⟨t', .inl h⟩))
        refine ⟨_, rfl, _, rfl, o, _, rfl, .inr y1, _, rfl, t, _, rfl, y2, fun pz H4 s4 hpz => ?_⟩
        obtain ⟨dx, dy, z1, z2, z3, z4, z5⟩ := y3 pz H4 s4 hpz
        refine ⟨_, rfl, dx, dy, z1, z2, z3, z4, _, rfl, ?_⟩
        rcases z5 with ⟨e, h⟩ | ⟨e, ys2, x1, x2, x3⟩
        · exact iteFK e h
        refine iteTK e ?_
        refine ⟨_, rfl, _, rfl, _, rfl, o, _, rfl, .inr x1, _, rfl, t, _, rfl, x2, fun pd H5 s5 hpd => ?_⟩
        obtain ⟨v1, v2, v3⟩ := x3 pd H5 s5 hpd
        refine ⟨p, pd, _, _, rfl, rfl, v1, hpd, v2, fun pc H6 s6 hpc => ?_⟩
        exact ⟨_, rfl, v3 pc H6 s6 hpc⟩
      rintro σ' H3 ⟨rfl, s3, hn1⟩
      have s23 := s2.trans s3
      have next : ∀ H', Same H H' → (¬ ∃ t, r = pn ++ t ∧ on ++ t ∈ bs) → ∃ v4 : Option V, [some (V.ref g), some (.ref b), some (.ref o), some (.ref p), some (.ref t)] = [some (V.ref g), some (.ref b), some (.ref o), some (.ref p), v4] ∧ Same H H' ∧ ∀ r ∈ gs.take (i + 1), ∀ t, ¬ (r = on ++ t ∧ pn ++ t ∈ bs) ∧ ¬ (r = pn ++ t ∧ on ++ t ∈ bs) := fun H' s' hn2 => by
        refine ⟨_, rfl, s', fun r' hr' t' => ?_⟩
        rw [List.take_add_one, er] at hr'
        rcases List.mem_append.mp hr' with h | h
        · exact hno r' h t'
        · have : r' = r := by simpa using h
          subst this
          exact ⟨fun h => hn1 ⟨t', h⟩, fun h => hn2 ⟨t', h⟩⟩
      obtain ⟨ys, y1, y2, y3⟩ := look (R := fun bt H' => if bt = true then Q (.bl true) H' else (∃ v4 : Option V, [some (V.ref g), some (.ref b), some (.ref o), some (.ref p), some (.ref t)] = [some (V.ref g), some (.ref b), some (.ref o), some (.ref p), v4] ∧ Same H H' ∧ ∀ r ∈ gs.take (i + 1), ∀ t, ¬ (r = on ++ t ∧ pn ++ t ∈ bs) ∧ ¬ (r = pn ++ t ∧ on ++ t ∈ bs))) s3 (s23 _ _ hp) (s23 _ _ ho) lp lo (fun H5 s5 h => iteF (next H5 (s23.trans s5) h)) (fun H5 s5 ⟨t', h⟩ => iteT (done H5 (s23.trans s5) ⟨t', .inr h⟩))
      refine ⟨_, rfl, _, rfl, p, _, rfl, .inr y1, _, rfl, t, _, rfl, y2, fun pz H4 s4 hpz => ?_⟩
      obtain ⟨dx, dy, z1, z2, z3, z4, z5⟩ := y3 pz H4 s4 hpz
      refine ⟨_, rfl, dx, dy, z1, z2, z3, z4, _, rfl, ?_⟩
      rcases z5 with ⟨e, h⟩ | ⟨e, ys2, x1, x2, x3⟩
      · exact iteFK e h
      refine iteTK e ?_
      refine ⟨_, rfl, _, rfl, _, rfl, p, _, rfl, .inr x1, _, rfl, t, _, rfl, x2, fun pd H5 s5 hpd => ?_⟩
      obtain ⟨v1, v2, v3⟩ := x3 pd H5 s5 hpd
      refine ⟨o, pd, _, _, rfl, rfl, v1, hpd, v2, fun pc H6 s6 hpc => ?_⟩
      exact ⟨_, rfl, v3 pc H6 s6 hpc⟩
    · rintro σ H2 ⟨v4, rfl, s2, hno⟩
      rw [hgl, List.take_length] at hno
      refine k false H2 s2 ⟨fun h => by (cases h), fun ⟨t, h⟩ => ?_⟩
      rcases h with ⟨h1, h2⟩ | ⟨h1, h2⟩
      · exact ((hno _ h1 t).1 ⟨rfl, h2⟩).elim
      · exact ((hno _ h1 t).2 ⟨rfl, h2⟩).elim

def isPr (n : Nat) (ad : Int → Int → Bool) (ns : List Int) : Prop := ∃ j k : Int, ns = [j, k] ∧ 0 ≤ j ∧ j < k ∧ k < (n : Int) ∧ ad j k = true
def spPa (P : Program) (w : World) : Sp := fun vs H Q _ => ∃ (g b l : Addr) (gs bs : List (List Int)) (zs : List (Addr × List Int)), vs = [.ref g, .ref b, .ref l] ∧ RsT H g gs ∧ RsT H b bs ∧ H l = some (.lst (zs.map fun z => V.ref z.1)) ∧ (∀ z ∈ zs, RA H z.1 z.2 ∧ z.2.length ≤ 8) ∧ (∀ r ∈ gs, r.length ≤ 8) ∧ zs.length ≤ 100 ∧
  ∀ (d : Addr) (xs : List (KTu × Addr × V)) (o : Obj) (c : Nat) (H' : Hp), Same H H' → H' d = some (TD P w d xs o) → ME H' xs (isPr zs.length (adB gs bs (zs.map (·.2)))) c → Q (.ref d) H'
theorem scPa : FnScope ["_law_good", "_law_bad", "_law_begins_here", "_law_found", "_law_k", "_law_j"] ["_law_good", "_law_bad", "_law_begins_here"] (defScope sPa) := ⟨rfl, rfl, rfl, by decide +kernel, rfl, by decide +kernel, by decide +kernel⟩
theorem ok_pa {f fA : Addr} {fd fdA : FuncData} (F : Fun K "_law_pairs" "_law_pairs" sPa f fd) (T : Txt mg)
    (FA : Fun K "_law_apart" "_law_apart" sLa fA fdA) (bA : Binds K fdA ["_law_good", "_law_bad", "_law_one", "_law_other"] []) (gA : mg "_law_apart" = some (.ref fA)) : FnOk P w K mg base CX0 2 f fd ["_law_good", "_law_bad", "_law_begins_here"] (spPa P w) := by
  have GA : FnOk P w K mg base CX0 1 fA fdA ["_law_good", "_law_bad", "_law_one", "_law_other"] spLa := ok_la FA T
  refine F.ok scPa (fun vs H Q E h => ?_) (fun cdv A outer s H vs Q E hr h => ?_)
  · obtain ⟨g, b, l, gs, bs, zs, rfl, _⟩ := h
    rfl
  · obtain ⟨g, b, l, gs, bs, zs, rfl, hg, hb, hl, hz, g8, lz, k⟩ := h
    have hu64 := hr.units
    have hu1 := Nat.lt_of_le_of_lt (Nat.add_le_add_left (by decide : 1 ≤ 64) _) hu64
    refine ⟨_, pss_cons (ps_set (i := 3) scPa.nd rfl (Or.inl rfl) (pe_tnewW (P := P) (w := w) rfl rfl))
      (pss_cons (ps_for PassesOwn.never rfl (pi_range1 rfl T.range (pa_cons (pe_callB call_len_seq (by rfl) T.len PySem.boot_len (pa_cons (pv 2) pa_nil)) pa_nil)) (pg_name (i := 4) scPa.nd rfl (Or.inl rfl))
        (pss_one (ps_for PassesOwn.never rfl (pi_range1 rfl T.range (pa_cons (pv 4) pa_nil)) (pg_name (i := 5) scPa.nd rfl (Or.inl rfl))
          (pss_one (ps_if (pt_val (pe_call GA hr rfl gA FA.kp bA .nil pass0 (pa_cons (pv 0) (pa_cons (pv 1) (pa_cons (pe_ix ix_list (pv 2) (pv 5) (fun _ _ => rfl)) (pa_cons (pe_ix ix_list (pv 2) (pv 4) (fun _ _ => rfl)) pa_nil))))))
            (pss_one (ps_tputW (P := P) (w := w) rfl rfl hu1 (pv 3) (pe_tup (pa_cons (pv 5) (pa_cons (pv 4) pa_nil))) pe_bl rfl)) pss_nil)))))
      (pss_one (ps_ret (pv 3)))), ?_⟩
    refine fun d od hd => ?_
    have s1 := (Same.refl H).upd_free (o := TD P w d [] od) hd
    have q1 : upd H d (TD P w d [] od) d = some (TD P w d [] od) := upd_same
    generalize upd H d (TD P w d [] od) = H1 at s1 q1
    have hzl : (zs.map fun z => V.ref z.1).length = zs.length := List.length_map _
    refine ⟨_, rfl, l, _, rfl, .inl (SqL.of (s1 _ _ hl)), _, rfl, by omega, by omega, ?_⟩
    rw [hzl, Int.toNat_natCast]
    have hb1 : (zs.length : Int) * zs.length ≤ 100 * 100 := Int.mul_le_mul (by omega) (by omega) (by omega) (by omega)
    refine for_range (n := zs.length) (fun i σ H2 => ∃ (xs : List (KTu × Addr × V)) (o : Obj) (v4 v5 : Option V), σ = [some (.ref g), some (.ref b), some (.ref l), some (.ref d), v4, v5] ∧ Same H H2 ∧ H2 d = some (TD P w d xs o) ∧ ME H2 xs (fun ns => ∃ j k : Int, ns = [j, k] ∧ 0 ≤ j ∧ j < k ∧ k < (i : Int) ∧ adB gs bs (zs.map (·.2)) j k = true) (100 * i))
      ⟨[], od, none, none, rfl, s1, q1, ⟨fun x hx => by (cases hx), List.nodup_nil, fun ns => ⟨fun h => by (cases h), fun ⟨j, k, _, h1, h2, h3, _⟩ => by omega⟩, Nat.le_refl _, fun x hx => by (cases hx)⟩⟩ ?_ ?_
    · rintro i σ H2 hi ⟨xs, o, v4, v5, rfl, s2, hd2, hM⟩
      have i0 : (0 : Int) + (i : Int) = (i : Int) := Int.zero_add _
      rw [i0]
      refine ⟨_, rfl, _, rfl, by omega, by omega, ?_⟩
      rw [Int.toNat_natCast]
      refine for_range (n := i) (fun j σ H3 => ∃ (xs : List (KTu × Addr × V)) (o : Obj) (v5 : Option V), σ = [some (.ref g), some (.ref b), some (.ref l), some (.ref d), some (.int (i : Int)), v5] ∧ Same H H3 ∧ H3 d = some (TD P w d xs o) ∧ ME H3 xs (fun ns => (∃ j k : Int, ns = [j, k] ∧ 0 ≤ j ∧ j < k ∧ k < (i : Int) ∧ adB gs bs (zs.map (·.2)) j k = true) ∨ ∃ j' : Int, ns = [j', (i : Int)] ∧ 0 ≤ j' ∧ j' < (j : Int) ∧ adB gs bs (zs.map (·.2)) j' (i : Int) = true) (100 * i + j))
        ⟨xs, o, v5, rfl, s2, hd2, hM.iff fun ns => ⟨.inl, fun h => h.elim id fun ⟨j', _, h1, h2, _⟩ => by omega⟩⟩ ?_ ?_
      · rintro j σ H3 hj ⟨xs3, o3, v5', rfl, s3, hd3, hM3⟩
        have j0 : (0 : Int) + (j : Int) = (j : Int) := Int.zero_add _
        rw [j0]
        obtain ⟨z1, hzm1, hza1, hzd1⟩ := zs_at (zs := zs) (i := (j : Int)) (by omega) (by omega)
        obtain ⟨z2, hzm2, hza2, hzd2⟩ := zs_at (zs := zs) (i := (i : Int)) (by omega) (by omega)
        have lz1 := (hz z1 hzm1).2
        have lz2 := (hz z2 hzm2).2
        refine ⟨_, rfl, _, rfl, _, rfl, _, rfl, l, _, _, _, rfl, rfl, SqL.of (s3 _ _ hl), hza1, _, rfl, _, rfl, l, _, _, _, rfl, rfl, SqL.of (s3 _ _ hl), hza2, g, b, z1.1, z2.1, gs, bs, z1.2, z2.2, rfl, hg.same s3, hb.same s3, s3 _ _ (hz z1 hzm1).1, s3 _ _ (hz z2 hzm2).1, g8, by omega, by omega, fun bt H4 s4 hbt => ?_⟩
        have hadd : adB gs bs (zs.map (·.2)) (j : Int) (i : Int) = true ↔ bt = true := by rw [adB_iff, hzd1, hzd2, hbt]
        have s34 := s3.trans s4
        have hd4 := s4 _ _ hd3
        have hM4 := hM3.same s4.tups
        refine ⟨bt, rfl, ?_⟩
        cases bt with
        | false =>
          refine iteF ⟨xs3, o3, _, rfl, s34, hd4, ?_⟩
          have := hM4.iff (S' := fun ns => (∃ j k : Int, ns = [j, k] ∧ 0 ≤ j ∧ j < k ∧ k < (i : Int) ∧ adB gs bs (zs.map (·.2)) j k = true) ∨ ∃ j' : Int, ns = [j', (i : Int)] ∧ 0 ≤ j' ∧ j' < ((j + 1 : Nat) : Int) ∧ adB gs bs (zs.map (·.2)) j' (i : Int) = true) fun ns => by
            refine or_congr Iff.rfl ⟨fun ⟨j', h1, h2, h3, h4⟩ => ⟨j', h1, h2, by omega, h4⟩, fun ⟨j', h1, h2, h3, h4⟩ => ⟨j', h1, h2, ?_, h4⟩⟩
            by_cases e : j' = (j : Int)
            · subst e
              cases hadd.mp h4
            · omega
          exact ⟨this.at', this.nd, this.mem, Nat.le_succ_of_le this.len, this.sh⟩
        | true =>
          refine iteT ?_
          refine ⟨_, rfl, _, rfl, _, rfl, (by show 2 ≤ sizeLine; decide), fun kt hkt => ?_⟩
          have s5 := (Same.refl H4).upd_free (o := .tup [.int (j : Int), .int (i : Int)]) hkt
          have q5 : upd H4 kt (.tup [.int (j : Int), .int (i : Int)]) kt = some (.tup [.int (j : Int), .int (i : Int)]) := upd_same
          generalize upd H4 kt (.tup [.int (j : Int), .int (i : Int)]) = H5 at s5 q5
          have hM5 := hM4.same s5.tups
          have hd5 := s5 _ _ hd4
          have hl5 := hM5.len
          have hk5 : H5 kt = some (.tup (([(j : Int), (i : Int)] : List Int).map V.int)) := q5
          refine ⟨d, xs3, o3, kt, [(j : Int), (i : Int)], rfl, hd5, hM5.tks, rfl, ⟨_, hk5, nums_ints _⟩, small9 (by omega), fun o6 => ?_⟩
          have tsU : TSame H5 (upd H5 d (TD P w d (putH xs3 [(j : Int), (i : Int)] kt (.bl true)) o6)) := fun c ys e => by
            rw [upd_ne (ne_of e hd5 (fun z => nomatch z))]; exact e
          have hM6 := (hM5.put (v := .bl true) hk5 (by show 2 ≤ 8; decide)).same tsU
          refine ⟨_, o6, _, rfl, (s34.trans s5).upd_free hd, upd_same, hM6.iff fun ns => ?_⟩
          constructor
          · rintro ((h | ⟨j', h1, h2, h3, h4⟩) | h)
            · exact .inl h
            · exact .inr ⟨j', h1, h2, by omega, h4⟩
            · exact .inr ⟨(j : Int), h, by omega, by omega, hadd.mpr rfl⟩
          · rintro (h | ⟨j', h1, h2, h3, h4⟩)
            · exact .inl (.inl h)
            · by_cases e : j' = (j : Int)
              · subst e; exact .inr h1
              · exact .inl (.inr ⟨j', h1, h2, by omega, h4⟩)
      · rintro σ H3 ⟨xs3, o3, v5', rfl, s3, hd3, hM3⟩
        refine ⟨xs3, o3, _, _, rfl, s3, hd3, ?_⟩
        have := hM3.iff (S' := fun ns => ∃ j k : Int, ns = [j, k] ∧ 0 ≤ j ∧ j < k ∧ k < ((i + 1 : Nat) : Int) ∧ adB gs bs (zs.map (·.2)) j k = true) fun ns => by
          constructor
          · rintro (⟨j, k, h1, h2, h3, h4, h5⟩ | ⟨j', h1, h2, h3, h4⟩)
            · exact ⟨j, k, h1, h2, h3, by omega, h5⟩
            · exact ⟨j', i, h1, h2, h3, by omega, h4⟩
          · rintro ⟨j, k, h1, h2, h3, h4, h5⟩
            by_cases e : k = (i : Int)
            · subst e; exact .inr ⟨j, h1, h2, h3, h5⟩
            · exact .inl ⟨j, k, h1, h2, h3, by omega, h5⟩
        exact ⟨this.at', this.nd, this.mem, by have := this.len; omega, this.sh⟩
    · rintro σ H2 ⟨xs, o, v4, v5, rfl, s2, hd2, hM⟩
      exact ⟨_, rfl, k d xs o _ H2 s2 hd2 hM⟩

def spEt (P : Program) (w : World) : Sp := fun vs H Q _ => ∃ (l d : Addr) (r : List Int) (xs : List (KTu × Addr × V)) (o : Obj) (S : List Int → Prop) (c : Nat), vs = [.ref l, .ref d] ∧ H l = some (.lst (r.map V.int)) ∧ r.length ≤ 500 ∧ H d = some (TD P w d xs o) ∧ ME H xs S c ∧
  ∀ (bt : Bool) (H' : Hp), Same H H' → (bt = true ↔ r.Pairwise fun a b => S [a, b]) → Q (.bl bt) H'
theorem scEt : FnScope ["_law_row", "_law_pairs_here", "_law_k", "_law_j"] ["_law_row", "_law_pairs_here"] (defScope sEt) := ⟨rfl, rfl, rfl, by decide +kernel, rfl, by decide +kernel, by decide +kernel⟩
theorem has_iff {H : Hp} {xs : List (KTu × Addr × V)} {S : List Int → Prop} {c : Nat} (h : ME H xs S c) (k : List Int) : (xs.any fun x => decide (x.1 = k)) = true ↔ S k := by
  rw [← h.mem, List.any_eq_true, List.mem_map]
  exact ⟨fun ⟨x, h1, h2⟩ => ⟨x, h1, of_decide_eq_true h2⟩, fun ⟨x, h1, h2⟩ => ⟨x, h1, decide_eq_true h2⟩⟩
theorem ok_et {f : Addr} {fd : FuncData} (F : Fun K "_law_each_two" "_law_each_two" sEt f fd) (T : Txt mg) : FnOk P w K mg base CX0 1 f fd ["_law_row", "_law_pairs_here"] (spEt P w) := by
  refine F.ok scEt (fun vs H Q E h => ?_) (fun cdv A outer s H vs Q E hr h => ?_)
  · obtain ⟨l, d, r, xs, o, S, c, rfl, _⟩ := h
    rfl
  · obtain ⟨l, d, r, xs, o, S, c, rfl, hl, r500, hd, hM, k⟩ := h
    have hu64 := hr.units
    have hu1 := Nat.lt_of_le_of_lt (Nat.add_le_add_left (by decide : 1 ≤ 64) _) hu64
    refine ⟨_, pss_cons (ps_for PassesOwn.never rfl (pi_range1 rfl T.range (pa_cons (pe_callB call_len_seq (by rfl) T.len PySem.boot_len (pa_cons (pv 0) pa_nil)) pa_nil)) (pg_name (i := 2) scEt.nd rfl (Or.inl rfl))
        (pss_one (ps_for PassesOwn.never rfl (pi_range1 rfl T.range (pa_cons (pv 2) pa_nil)) (pg_name (i := 3) scEt.nd rfl (Or.inl rfl))
          (pss_one (ps_if (pt_cmp (pc_tnotinW (P := P) (w := w) rfl rfl hu1 (pe_tup (pa_cons (pe_ix ix_list (pv 0) (pv 3) (fun _ _ => rfl)) (pa_cons (pe_ix ix_list (pv 0) (pv 2) (fun _ _ => rfl)) pa_nil))) (pv 1))) (pss_one (ps_ret pe_bl)) pss_nil)))))
      (pss_one (ps_ret pe_bl)), ?_⟩
    have hll : (r.map V.int).length = r.length := List.length_map _
    refine ⟨_, rfl, l, _, rfl, .inl (SqL.of hl), _, rfl, by omega, by omega, ?_⟩
    rw [hll, Int.toNat_natCast]
    refine for_range (n := r.length) (fun i σ H2 => ∃ v2 v3 : Option V, σ = [some (.ref l), some (.ref d), v2, v3] ∧ Same H H2 ∧ (r.take i).Pairwise fun a b => S [a, b]) ⟨none, none, rfl, Same.refl H, .nil⟩ ?_ ?_
    · rintro i σ H2 hi ⟨v2, v3, rfl, s2, hP⟩
      have i0 : (0 : Int) + (i : Int) = (i : Int) := Int.zero_add _
      rw [i0]
      have ex : r[i]? = some r[i] := List.getElem?_eq_getElem hi
      generalize r[i] = x at ex
      refine ⟨_, rfl, _, rfl, by omega, by omega, ?_⟩
      rw [Int.toNat_natCast]
      refine for_range (n := i) (fun j σ H3 => ∃ v3 : Option V, σ = [some (.ref l), some (.ref d), some (.int (i : Int)), v3] ∧ Same H H3 ∧ ∀ y ∈ r.take j, S [y, x]) ⟨v3, rfl, s2, fun y hy => by cases hy⟩ ?_ ?_
      · rintro j σ H3 hj ⟨v3', rfl, s3, hS⟩
        have j0 : (0 : Int) + (j : Int) = (j : Int) := Int.zero_add _
        rw [j0]
        have ey : r[j]? = some r[j] := List.getElem?_eq_getElem (by omega)
        generalize r[j] = y at ey
        refine ⟨_, rfl, _, rfl, l, _, _, .int y, rfl, rfl, SqL.of (s3 _ _ hl), atI_nat (by rw [List.getElem?_map, ey]; rfl), _, rfl, _, rfl, l, _, _, .int x, rfl, rfl, SqL.of (s3 _ _ hl), atI_nat (by rw [List.getElem?_map, ex]; rfl), (by show 2 ≤ sizeLine; decide), fun kt hkt => ?_⟩
        have s4 := (Same.refl H3).upd_free (o := .tup [.int y, .int x]) hkt
        have q4 : upd H3 kt (.tup [.int y, .int x]) kt = some (.tup (([y, x] : List Int).map V.int)) := upd_same
        generalize upd H3 kt (.tup [.int y, .int x]) = H4 at s4 q4
        have s04 := s3.trans s4
        have hM4 := hM.same s04.tups
        refine ⟨_, rfl, d, xs, o, kt, [y, x], rfl, s04 _ _ hd, hM4.tks, rfl, ⟨_, q4, nums_ints _⟩, _, rfl, ?_⟩
        by_cases c1 : S [y, x]
        · refine iteFK (by rw [(has_iff hM4 [y, x]).mpr c1]; rfl) ⟨_, rfl, s04, fun z hz => ?_⟩
          rw [List.take_add_one, ey] at hz
          rcases List.mem_append.mp hz with h | h
          · exact hS z h
          · have : z = y := by simpa using h
            rw [this]; exact c1
        · refine iteTK (by rw [Bool.not_eq_true', Bool.eq_false_iff]; exact fun h => c1 ((has_iff hM4 [y, x]).mp h)) ?_
          refine k false H4 s04 ⟨fun h => by (cases h), fun h => ?_⟩
          have := List.pairwise_iff_getElem.mp h j i (by omega) hi hj
          have e1 : r[j] = y := by rw [List.getElem?_eq_getElem (by omega)] at ey; exact Option.some.inj ey
          have e2 : r[i] = x := by rw [List.getElem?_eq_getElem hi] at ex; exact Option.some.inj ex
          rw [e1, e2] at this
          exact (c1 this).elim
      · rintro σ H3 ⟨v3', rfl, s3, hS⟩
        refine ⟨_, _, rfl, s3, ?_⟩
        rw [List.take_add_one, ex]
        refine List.pairwise_append.mpr ⟨hP, List.pairwise_singleton _ _, fun a ha b hb => ?_⟩
        have : b = x := by simpa using hb
        rw [this]; exact hS a ha
    · rintro σ H2 ⟨v2, v3, rfl, s2, hP⟩
      rw [List.take_length] at hP
      exact k true H2 s2 ⟨fun _ => hP, fun _ => rfl⟩
end
end BG
namespace BG
open PySem L2 SO K20
theorem dec_intV (a b : Int) : decide (V.int a = V.int b) = decide (a = b) := decide_eq_decide.mpr ⟨fun q => by injection q, fun q => by rw [q]⟩
def LsO (H : Hp) (v : V) : Option (List Int) → Prop
  | none => v = .non
  | some r => ∃ p, v = .ref p ∧ H p = some (.lst (r.map V.int))
theorem LsO.same {H H' : Hp} (s : Same H H') {v : V} : ∀ {o : Option (List Int)}, LsO H v o → LsO H' v o
  | none, h => h
  | some _, ⟨p, h1, h2⟩ => ⟨p, h1, s _ _ h2⟩
theorem pr_iff {n : Nat} {ad : Int → Int → Bool} {r : List Int} (inc : r.Pairwise (· < ·)) (ran : ∀ x ∈ r, 0 ≤ x ∧ x < (n : Int)) : (r.Pairwise fun a b => isPr n ad [a, b]) ↔ r.Pairwise fun a b => ad a b = true := by
  constructor
  · intro h
    refine h.imp fun {a b} ⟨j, k, e, _, _, _, h5⟩ => ?_
    injection e with e1 e2
    injection e2 with e2 _
    rw [e1, e2]
    exact h5
  · intro h
    refine (inc.and h).imp_of_mem fun {a b} ha hb ⟨h1, h2⟩ => ⟨a, b, rfl, (ran a ha).1, h1, (ran b hb).2, h2⟩
section
variable {P : Program} {w : World} {K : PySem.W.Frag} {mg : Str → Option Value} {base : Heap}
def spDu (P : Program) (w : World) : Sp := fun vs H Q _ => ∃ (l d : Addr) (ls : List V) (n m : Nat) (ad : Int → Int → Bool) (xs : List (KTu × Addr × V)) (o : Obj) (c : Nat), vs = [.ref l, .ref d, .int (m : Int)] ∧ H l = some (.lst ls) ∧ ls.length = n ∧ n ≤ 10 ∧ H d = some (TD P w d xs o) ∧ ME H xs (isPr n ad) c ∧
  ∀ (v : V) (oo : Option (List Int)) (H' : Hp), Same H H' → IsF (fun r => Clq n ad r ∧ r.length = m) oo → LsO H' v oo → Q v H'
abbrev nDu : List Str := ["_law_begins_here", "_law_pairs_here", "_law_size", "_law_due_here", "_law_choice", "_law_row"]
theorem scDu : FnScope nDu ["_law_begins_here", "_law_pairs_here", "_law_size"] (defScope sDu) := ⟨rfl, rfl, rfl, by decide +kernel, rfl, by decide +kernel, by decide +kernel⟩
def scopeDu1 : Scope := { kind := .function, names := [(".0", .local), ("_law_k", .local), ("_law_choice", .free)], isGenerator := false, isCoroutine := false, more := [] }
theorem scDu1 : BlkScope (defScope sDu) nDu ["_law_k"] ["_law_choice"] [4] scopeDu1 := ⟨rfl, by decide +kernel, by decide +kernel, by decide +kernel, rfl, by decide +kernel, by decide +kernel⟩
theorem ok_du {f fE : Addr} {fd fdE : FuncData} (F : Fun K "_law_due" "_law_due" sDu f fd) (T : Txt mg)
    (FE : Fun K "_law_each_two" "_law_each_two" sEt fE fdE) (bE : Binds K fdE ["_law_row", "_law_pairs_here"] []) (gE : mg "_law_each_two" = some (.ref fE)) :
    FnOk P w K mg base CX0 2 f fd ["_law_begins_here", "_law_pairs_here", "_law_size"] (spDu P w) := by
  have GE : FnOk P w K mg base CX0 1 fE fdE ["_law_row", "_law_pairs_here"] (spEt P w) := ok_et FE T
  refine F.ok scDu (fun vs H Q E h => ?_) (fun cdv A outer s H vs Q E hr h => ?_)
  · obtain ⟨l, d, ls, n, m, ad, xs, o, c, rfl, _⟩ := h
    rfl
  · obtain ⟨l, d, ls, n, m, ad, xs, od, cc, rfl, hL, hln, n10, hd, hM, k⟩ := h
    have hu64 := hr.units
    have hu0 := Nat.lt_of_le_of_lt (Nat.le_add_right _ 64) hu64
    refine ⟨_, pss_cons (ps_set (i := 3) scDu.nd rfl (Or.inl rfl) pe_non)
      (pss_cons (ps_for PassesOwn.never rfl (pi_range1 rfl T.range (pa_cons (pe_op op_shl pe_int (pe_callB call_len_seq (by rfl) T.len PySem.boot_len (pa_cons (pv 0) pa_nil))) pa_nil)) (pg_name (i := 4) scDu.nd rfl (Or.inr rfl))
        (pss_cons (ps_setlc (i := 5) scDu1 rfl rfl rfl (pi_range1 rfl T.range (pa_cons (pe_callB call_len_seq (by rfl) T.len PySem.boot_len (pa_cons (pv 0) pa_nil)) pa_nil)) (fun fp C s1 H1 => pg_name (i := 0) scDu1.nd rfl (Or.inl rfl))
            (fun fp C s1 H1 => pts_one (pt_cmpR op_eq (pe_op op_and (pe_op op_shr (pv 1) (pv 0)) pe_int) pe_int (by with_unfolding_all rfl))) (fun fp C s1 H1 => pv 0) scDu.nd rfl rfl rfl)
        (pss_one (ps_if (pt_cut (PW.pt (pw_and (pt_cmpR op_eq (pe_callB call_len_seq (by rfl) T.len PySem.boot_len (pa_cons (pv 5) pa_nil)) (pv 2) (nomark _)) (pw_and (PW.pt (pw_or (pt_cmpR op_isN (pv 3) pe_non (nomark _)) (pw_or1 (pt_cmpR (r := rLtL K) (op_ltL hu0) (pv 5) (pv 3) (nomark _)))))
            (pw_and1 (pt_val (pe_call GE hr rfl gE FE.kp bE .nil pass0 (pa_cons (pv 5) (pa_cons (pv 1) pa_nil)))))))))
          (pss_one (ps_set (i := 3) scDu.nd rfl (Or.inl rfl) (pv 5))) pss_nil))))
      (pss_one (ps_ret (pv 3)))), ?_⟩
    refine ⟨_, rfl, l, _, rfl, .inl (SqL.of hL), _, _, rfl, rfl, ⟨by omega, by omega, by decide⟩, ?_⟩
    have p10 : 2 ^ n ≤ 2 ^ 10 := Nat.pow_le_pow_right (by decide) n10
    have ep : (1 : Int) * 2 ^ ((ls.length : Int)).toNat = ((2 ^ n : Nat) : Int) := by
      rw [hln, Int.toNat_natCast, Int.one_mul]
      push_cast
      rfl
    obtain ⟨NN, hNN⟩ : ∃ NN, NN = 2 ^ n := ⟨_, rfl⟩
    rw [← hNN] at p10 ep
    refine ⟨(NN : Int), congrArg (fun z => [V.int z]) ep, by omega, by omega, ?_⟩
    rw [Int.toNat_natCast]
    refine for_range (n := NN) (fun c σ H8 => ∃ o v3 v4 v5, σ = [some (.ref l), some (.ref d), some (.int (m : Int)), some v3, v4, v5] ∧ Same H H8 ∧ LsO H8 v3 o ∧ Least n (fun r => Clq n ad r ∧ r.length = m) c o)
      ⟨none, .non, none, none, rfl, Same.refl H, rfl, fun c hc => absurd hc (Nat.not_lt_zero _)⟩ ?_ ?_
    · rintro c σ H8 hc ⟨o, v3, v4, v5, rfl, s8, hdu, hle⟩
      have c0 : 0 + (c : Int) = (c : Int) := Int.zero_add _
      rw [c0]
      have hL8 := s8 _ _ hL
      refine ⟨_, rfl, l, _, rfl, .inl (SqL.of hL8), _, rfl, by omega, by omega, fun D hD => ?_⟩
      rw [hln, Int.toNat_natCast]
      refine lc_range (n := n) (fun j ys H9 => Same H8 H9 ∧ H9 D = some (.lst ys) ∧ ys = (bitsM c j).map V.int) (Nat.le_of_lt (small1000 (by omega))) ⟨(Same.refl H8).upd_free hD, upd_same, rfl⟩ (fun j ys H9 h => by rw [h.2.2, List.length_map]; exact bits_len c j) ?_ ?_
      · rintro j ys H9 N M hj ⟨u1, u2, rfl⟩ hN hM'
        have j0 : 0 + (j : Int) = (j : Int) := Int.zero_add _
        rw [j0]
        refine ⟨_, rfl, _, rfl, _, _, rfl, rfl, by omega, _, _, rfl, rfl, rfl, _, rfl, ?_⟩
        have eb : decide (V.int (Builtin.bitAnd ((c : Int) / 2 ^ ((j : Int)).toNat) 1) = V.int 1) = decide (c / 2 ^ j % 2 = 1) := by
          rw [dec_intV, PyProof.Rows.bitAnd_m1, Int.toNat_natCast]
          refine decide_eq_decide.mpr ?_
          have : (c : Int) / 2 ^ j % 2 = ((c / 2 ^ j % 2 : Nat) : Int) := by push_cast; rfl
          rw [this]
          omega
        refine (show _ from ?_)
        by_cases hb : c / 2 ^ j % 2 = 1
        · refine iteTK (by rw [eb]; exact decide_eq_true hb) ⟨_, rfl, hN _ _ u2 ⟨u1.upd_free hD, upd_same, ?_⟩⟩
          rw [bits_snoc, if_pos hb, List.map_append]
          rfl
        · refine iteFK (by rw [eb]; exact decide_eq_false hb) (hM' _ ⟨u1, u2, ?_⟩)
          rw [bits_snoc, if_neg hb, List.append_nil]
      · rintro ys H9 ⟨u1, u2, rfl⟩
        have t9 := s8.trans u1
        have hdu9 := hdu.same u1
        have hbl := bits_len c n
        have hpr := pr_iff (n := n) (ad := ad) (bits_inc c n) (fun x hx => bits_mem hx)
        have hcq : (Clq n ad (bitsM c n) ∧ (bitsM c n).length = m) ↔ (bitsM c n).length = m ∧ (bitsM c n).Pairwise fun a b => isPr n ad [a, b] := by
          rw [hpr]
          exact ⟨fun h => ⟨h.2, h.1.far⟩, fun h => ⟨⟨bits_inc c n, fun x hx => bits_mem hx, h.2⟩, h.1⟩⟩
        refine ⟨fun b H' => Same H9 H' ∧ (b = true → (Clq n ad (bitsM c n) ∧ (bitsM c n).length = m) ∧ ∀ r, o = some r → HT.lexLt (bitsM c n) r = true) ∧ (b = false → (Clq n ad (bitsM c n) ∧ (bitsM c n).length = m) → ∃ r, o = some r ∧ HT.lexLt (bitsM c n) r = false), ?_, ?_⟩
        · refine ⟨_, rfl, D, _, rfl, .inl (SqL.of u2), _, rfl, rfl, _, rfl, ?_⟩
          rw [dec_intV, List.length_map]
          by_cases hs : ((bitsM c n).length : Int) = (m : Int)
          · refine iteTK (decide_eq_true hs) ?_
            have hs' : (bitsM c n).length = m := by omega
            have tail : (∀ r, o = some r → HT.lexLt (bitsM c n) r = true) → ∀ (Q' : Bool → Hp → Prop), (∀ b H', Same H9 H' → (b = true → (Clq n ad (bitsM c n) ∧ (bitsM c n).length = m)) → (b = false → ¬ (Clq n ad (bitsM c n) ∧ (bitsM c n).length = m)) → Q' b H') →
                ∃ (l' d' : Addr) (r : List Int) (xs' : List (KTu × Addr × V)) (o' : Obj) (S : List Int → Prop) (c' : Nat), [V.ref D, V.ref d] = [.ref l', .ref d'] ∧ H9 l' = some (.lst (r.map V.int)) ∧ r.length ≤ 500 ∧ H9 d' = some (TD P w d' xs' o') ∧ ME H9 xs' S c' ∧ ∀ (bt : Bool) (H' : Hp), Same H9 H' → (bt = true ↔ r.Pairwise fun a b => S [a, b]) → ∃ c2, V.bl bt = V.bl c2 ∧ Q' c2 H' := fun hlt Q' hq =>
              ⟨D, d, bitsM c n, xs, od, isPr n ad, cc, rfl, u2, by omega, t9 _ _ hd, hM.same t9.tups, fun bt H' s' hbt => ⟨bt, rfl, hq bt H' s' (fun e => hcq.mpr ⟨hs', hbt.mp e⟩) fun e h => by rw [hbt.mpr (hcq.mp h).2] at e; cases e⟩⟩
            cases o with
            | none =>
              cases (show v3 = .non from hdu9)
              refine ⟨_, rfl, rfl, _, rfl, iteTK (by simp) (iteT ?_)⟩
              exact ⟨_, rfl, _, rfl, tail (fun r e => by (cases e)) _ fun b H' s' h1 h2 => ⟨s', fun e => ⟨h1 e, fun r e => by (cases e)⟩, fun e h => (h2 e h).elim⟩⟩
            | some r =>
              obtain ⟨p, rfl, hp⟩ := hdu9
              refine ⟨_, rfl, rfl, _, rfl, iteFK (by simp) ?_⟩
              refine ⟨_, rfl, _, rfl, D, p, bitsM c n, r, rfl, rfl, SqL.of u2, SqL.of hp, _, rfl, ?_⟩
              cases hlx : HT.lexLt (bitsM c n) r with
              | true =>
                refine iteT ?_
                exact ⟨_, rfl, _, rfl, tail (fun r' e => by cases e; exact hlx) _ fun b H' s' h1 h2 => ⟨s', fun e => ⟨h1 e, fun r' e => by cases e; exact hlx⟩, fun e h => (h2 e h).elim⟩⟩
              | false =>
                exact iteF ⟨Same.refl H9, fun e => by (cases e), fun _ _ => ⟨r, rfl, hlx⟩⟩
          · exact iteFK (decide_eq_false hs) ⟨Same.refl H9, fun e => by (cases e), fun _ h => by omega⟩
        rintro b H' ⟨s', h1, h2⟩
        cases b with
        | false => exact iteF ⟨o, v3, _, _, rfl, t9.trans s', hdu9.same s', least_skip hle (h2 rfl)⟩
        | true => exact iteT ⟨_, rfl, some (bitsM c n), .ref D, _, _, rfl, t9.trans s', ⟨D, rfl, s' _ _ u2⟩, least_put hle (h1 rfl).1 (h1 rfl).2⟩
    · rintro σ H8 ⟨o, v3, v4, v5, rfl, s8, hdu, hle⟩
      rw [hNN] at hle
      exact ⟨_, rfl, k v3 o H8 s8 (least_first (fun r h => ⟨h.1.inc, h.1.ran⟩) hle) hdu⟩
end
end BG
namespace BG
open PySem L2 SO K20
theorem lex_pre (g : List Int) (a b : Int) (u v : List Int) : HT.lexLt (g ++ a :: u) (g ++ b :: v) = if a = b then HT.lexLt u v else decide (a < b) := by
  induction g with
  | nil => rfl
  | cons x g ih => rw [List.cons_append, List.cons_append, HT.lexLt_cons, if_pos rfl, ih]

def startM (tk : List Int) : Int := (tk.getLast?).getD (-1) + 1
theorem start_le {n : Nat} {ad : Int → Int → Bool} {tk t : List Int} {y : Int} (h : Clq n ad (tk ++ y :: t)) : startM tk ≤ y := by
  unfold startM
  cases e : tk.getLast? with
  | none =>
    have := (h.ran y (by simp)).1
    show (-1 : Int) + 1 ≤ y
    omega
  | some x =>
    have hx : x ∈ tk := List.mem_of_getLast? e
    have := (List.pairwise_append.mp h.inc).2.2 x hx y (by simp)
    show x + 1 ≤ y
    omega
theorem start_gt {tk : List Int} (inc : tk.Pairwise (· < ·)) {x : Int} (hx : x ∈ tk) : x < startM tk := by
  unfold startM
  have hne : tk ≠ [] := fun e => by rw [e] at hx; cases hx
  obtain ⟨l, y, rfl⟩ : ∃ l y, tk = l ++ [y] := ⟨tk.dropLast, tk.getLast hne, (List.dropLast_concat_getLast hne).symm⟩
  rw [List.getLast?_concat]
  show x < y + 1
  rcases List.mem_append.mp hx with h | h
  · have := (List.pairwise_append.mp inc).2.2 x h y (by simp)
    omega
  · have : x = y := by simpa using h
    omega
theorem start_nn {n : Nat} {tk : List Int} (ran : ∀ x ∈ tk, 0 ≤ x ∧ x < (n : Int)) : 0 ≤ startM tk ∧ startM tk ≤ (n : Int) := by
  unfold startM
  cases e : tk.getLast? with
  | none => exact ⟨by show (0 : Int) ≤ -1 + 1; decide, by show (-1 : Int) + 1 ≤ _; omega⟩
  | some x =>
    have := ran x (List.mem_of_getLast? e)
    exact ⟨by show (0 : Int) ≤ x + 1; omega, by show x + 1 ≤ _; omega⟩
theorem cut_last (xs : List V) : cutV xs (some (-1)) none = (xs.getLast?).toList := by
  unfold cutV
  have e1 : HT.sIx xs.length 0 (some (-1)) = xs.length - 1 := by
    have e : HT.sIx xs.length 0 (some (-1)) = ((-1 : Int) + (xs.length : Int)).toNat := by
      unfold HT.sIx
      simp
    rw [e]
    omega
  rw [e1, HT.sIx_none]
  by_cases hne : xs = []
  · subst hne
    rfl
  · obtain ⟨l, y, rfl⟩ : ∃ l y, xs = l ++ [y] := ⟨xs.dropLast, xs.getLast hne, (List.dropLast_concat_getLast hne).symm⟩
    rw [List.getLast?_concat, List.length_append, List.length_singleton, Nat.add_sub_cancel, List.drop_left' rfl]
    show [y].take (l.length + 1 - l.length) = [y]
    rw [Nat.add_sub_cancel_left]
    rfl
theorem cx_put {n m : Nat} {ad : Int → Int → Bool} {tk r : List Int} {k : Int} {i : Nat} (hk : k = startM tk + (i : Int)) (hno : ∀ y t, CX n ad m tk (tk ++ y :: t) → startM tk + (i : Int) ≤ y) (hlt : tk.length < m) (h : IsF (CX n ad m (tk ++ [k])) (some r)) : IsF (CX n ad m tk) (some r) := by
  obtain ⟨⟨h1, h2, t, rfl⟩, hmin⟩ := h
  refine ⟨⟨h1, h2, k :: t, by rw [List.append_assoc]; rfl⟩, ?_⟩
  rintro r' ⟨c1, c2, t', rfl⟩
  cases t' with
  | nil => rw [List.append_nil] at c2; omega
  | cons y t' =>
    have hy := hno y t' ⟨c1, c2, _, rfl⟩
    have e : tk ++ [k] ++ t = tk ++ k :: t := by rw [List.append_assoc]; rfl
    by_cases ey : y = k
    · subst ey
      exact hmin _ ⟨c1, c2, t', by rw [List.append_assoc]; rfl⟩
    · rw [e, lex_pre, if_neg ey]
      exact decide_eq_false (by omega)
section
variable {P : Program} {w : World} {K : PySem.W.Frag} {mg : Str → Option Value} {base : Heap}
def spFi (P : Program) (w : World) (dd : Nat) : Sp := fun vs H Q _ => ∃ (d l : Addr) (n m : Nat) (tk : List Int) (ad : Int → Int → Bool) (xs : List (KTu × Addr × V)) (o : Obj) (c : Nat), vs = [.int (n : Int), .ref d, .int (m : Int), .ref l] ∧ H l = some (.lst (tk.map V.int)) ∧ Clq n ad tk ∧ tk.length ≤ m ∧ m - tk.length < dd ∧ n ≤ 100 ∧ H d = some (TD P w d xs o) ∧ ME H xs (isPr n ad) c ∧
  ∀ (v : V) (oo : Option (List Int)) (H' : Hp), Same H H' → IsF (CX n ad m tk) oo → LsO H' v oo → Q v H'
abbrev nFi : List Str := ["_law_many", "_law_pairs_here", "_law_size", "_law_taken", "_law_k", "_law_row"]
theorem scFi : FnScope nFi ["_law_many", "_law_pairs_here", "_law_size", "_law_taken"] (defScope sFi) := ⟨rfl, rfl, rfl, by decide +kernel, rfl, by decide +kernel, by decide +kernel⟩
def scopeFi : Scope := { kind := .function, names := [(".0", .local), ("_law_j", .local), ("_law_k", .free), ("_law_pairs_here", .free)], isGenerator := false, isCoroutine := false, more := [] }
theorem scFi1 : BlkScope (defScope sFi) nFi ["_law_j"] ["_law_k", "_law_pairs_here"] [4, 1] scopeFi := ⟨rfl, by decide +kernel, by decide +kernel, by decide +kernel, rfl, by decide +kernel, by decide +kernel⟩
theorem ok_fi {f : Addr} {fd : FuncData} (F : Fun K "_law_first" "_law_first" sFi f fd) (T : Txt mg) (bF : Binds K fd ["_law_many", "_law_pairs_here", "_law_size", "_law_taken"] []) (gF : mg "_law_first" = some (.ref f)) : ∀ dd : Nat, FnOk P w K mg base CX0 (dd + 1) f fd ["_law_many", "_law_pairs_here", "_law_size", "_law_taken"] (spFi P w dd)
  | 0 => by
    refine F.ok scFi (fun vs H Q E h => ?_) (fun cdv A outer s H vs Q E hr h => ?_)
    · obtain ⟨d, l, n, m, tk, ad, xs, o, c, rfl, _⟩ := h
      rfl
    · obtain ⟨d, l, n, m, tk, ad, xs, o, c, rfl, _, _, _, hm, _⟩ := h
      exact absurd hm (Nat.not_lt_zero _)
  | dd + 1 => by
    have GF := ok_fi F T bF gF dd
    refine F.ok scFi (fun vs H Q E h => ?_) (fun cdv A outer s H vs Q E hr h => ?_)
    · obtain ⟨d, l, n, m, tk, ad, xs, o, c, rfl, _⟩ := h
      rfl
    · obtain ⟨d, l, n, m, tk, ad, xs, od, c, rfl, hl, hq, hle, hmd, n100, hd, hM, k⟩ := h
      have hu64 := hr.units
      have hu1 := Nat.lt_of_le_of_lt (Nat.add_le_add_left (by decide : 1 ≤ 64) _) hu64
      refine ⟨_, pss_cons (ps_if (pt_cmpR op_eq (pe_callB call_len_seq (by rfl) T.len PySem.boot_len (pa_cons (pv 3) pa_nil)) (pv 2) (nomark _)) (pss_one (ps_ret (pv 3))) pss_nil)
        (pss_cons (ps_for PassesOwn.never rfl (pi_range2 rfl T.range (pa_cons (pe_op op_add (pe_ix ix_list (pe_op op_catL (pe_slice sl_list (pv 3) (po_some (pe_un un_neg pe_int)) po_none) (pe_lst (pa_cons (pe_un un_neg pe_int) pa_nil))) pe_int (fun _ _ => rfl)) pe_int) (pa_cons (pv 0) pa_nil))) (pg_name (i := 4) scFi.nd rfl (Or.inr rfl))
          (pss_one (ps_if (pt_cut (pt_cmpR (op_eqD hu64) (pe_lc scFi1 rfl rfl rfl (pi_list (pv 3)) (fun fp C s1 H1 => pg_name (i := 0) scFi1.nd rfl (Or.inl rfl))
              (fun fp C s1 H1 => pts_one (pt_cmp (pc_tnotinW (P := P) (w := w) rfl rfl hu1 (pe_tup (pa_cons (pv 0) (pa_cons (pv 1) pa_nil))) (pv 2)))) (fun fp C s1 H1 => pv 0)) (pe_lst pa_nil) (nomark _)))
            (pss_cons (ps_set (i := 5) scFi.nd rfl (Or.inl rfl) (pe_call GF hr rfl gF F.kp bF .nil pass0 (pa_cons (pv 0) (pa_cons (pv 1) (pa_cons (pv 2) (pa_cons (pe_op op_catL (pv 3) (pe_lst (pa_cons (pv 4) pa_nil))) pa_nil))))))
            (pss_one (ps_if (pt_cmpR op_notN (pv 5) pe_non (nomark _)) (pss_one (ps_ret (pv 5))) pss_nil))) pss_nil)))
        (pss_one (ps_ret pe_non))), ?_⟩
      have htl : (tk.map V.int).length = tk.length := List.length_map _
      have htn : tk.length ≤ n := by
        have := inc_len tk 0 hq.inc hq.ran
        omega
      refine ⟨_, rfl, l, _, rfl, .inl (SqL.of hl), _, rfl, rfl, _, rfl, ?_⟩
      rw [dec_intV, htl]
      by_cases hm : (tk.length : Int) = (m : Int)
      · refine iteTK (decide_eq_true hm) ⟨_, rfl, k (.ref l) (some tk) H (Same.refl H) ⟨⟨hq, by omega, [], (List.append_nil _).symm⟩, ?_⟩ ⟨l, rfl, hl⟩⟩
        rintro r' ⟨_, c2, t', rfl⟩
        have : t' = [] := by
          rw [List.length_append] at c2
          exact List.length_eq_zero_iff.mp (by omega)
        rw [this, List.append_nil]
        exact lex_self _
      · refine iteFK (decide_eq_false hm) ?_
        have hlt : tk.length < m := by omega
        have hst := start_nn hq.ran
        refine ⟨_, rfl, _, rfl, _, rfl, l, _, rfl, SqL.of hl, fun p1 hp1 => ?_⟩
        have s1 := (Same.refl H).upd_free (o := .lst (cutV (tk.map V.int) (some (-1)) none)) hp1
        have q1 : upd H p1 (.lst (cutV (tk.map V.int) (some (-1)) none)) p1 = some (.lst (cutV (tk.map V.int) (some (-1)) none)) := upd_same
        generalize upd H p1 (.lst (cutV (tk.map V.int) (some (-1)) none)) = H1 at s1 q1
        rw [cut_last, List.getLast?_map] at q1
        refine ⟨_, rfl, (by show 1 ≤ sizeLine; decide), fun p2 hp2 => ?_⟩
        have s2 := (Same.refl H1).upd_free (o := .lst [.int (-1)]) hp2
        have q2 : upd H1 p2 (.lst [.int (-1)]) p2 = some (.lst [.int (-1)]) := upd_same
        generalize upd H1 p2 (.lst [.int (-1)]) = H2 at s2 q2
        refine ⟨p1, p2, _, _, rfl, rfl, SqL.of (s2 _ _ q1), SqL.of q2, ?_, fun p3 hp3 => ?_⟩
        · cases tk.getLast? with
          | none => show 0 + 1 ≤ sizeLine; decide
          | some x => show 1 + 1 ≤ sizeLine; decide
        have s3 := (Same.refl H2).upd_free (o := .lst ((Option.map V.int tk.getLast?).toList ++ [.int (-1)])) hp3
        have q3 : upd H2 p3 (.lst ((Option.map V.int tk.getLast?).toList ++ [.int (-1)])) p3 = some (.lst ((Option.map V.int tk.getLast?).toList ++ [.int (-1)])) := upd_same
        generalize upd H2 p3 (.lst ((Option.map V.int tk.getLast?).toList ++ [.int (-1)])) = H3 at s3 q3
        have hat : atI ((Option.map V.int tk.getLast?).toList ++ [V.int (-1)]) 0 = some (.int (startM tk - 1)) := by
          unfold startM
          cases tk.getLast? with
          | none => rfl
          | some x =>
            show some (V.int x) = some (V.int (x + 1 - 1))
            rw [Int.add_sub_cancel]
        refine ⟨p3, _, _, _, rfl, rfl, SqL.of q3, hat, _, _, rfl, rfl, _, rfl, startM tk, (n : Int), ?_, ⟨by omega, by omega, by omega, by omega⟩, ?_⟩
        · show [V.int (startM tk - 1 + 1), V.int (n : Int)] = _
          rw [Int.sub_add_cancel]
        have s03 := s1.trans (s2.trans s3)
        refine for_range (lo := startM tk) (n := ((n : Int) - startM tk).toNat) (fun i σ H4 => ∃ v4 v5 : Option V, σ = [some (.int (n : Int)), some (.ref d), some (.int (m : Int)), some (.ref l), v4, v5] ∧ Same H H4 ∧ ∀ y t, CX n ad m tk (tk ++ y :: t) → startM tk + (i : Int) ≤ y) ⟨none, none, rfl, s03, fun y t h => by have := start_le h.1; omega⟩ ?_ ?_
        · rintro i σ H4 hi ⟨v4, v5, rfl, s4, hno⟩
          generalize hkk : startM tk + (i : Int) = kk at hno
          have hkn : 0 ≤ kk ∧ kk < (n : Int) := by omega
          -- near all that are taken?
          refine ⟨fun bt H' => Same H4 H' ∧ (bt = true ↔ ∀ j ∈ tk, isPr n ad [j, kk]), ?_, ?_⟩
          · refine ⟨_, rfl, l, rfl, ⟨_, SqL.of (s4 _ _ hl)⟩, fun D hD => ?_⟩
            refine lc_list (K := K) (a := l) (xs := tk.map V.int) (fun j ys H5 => Same H4 H5 ∧ H5 D = some (.lst ys) ∧ ys.length ≤ j ∧ ∃ zs : List Int, ys = zs.map V.int ∧ (zs = [] ↔ ∀ x ∈ tk.take j, isPr n ad [x, kk])) (Nat.le_of_lt (small1000 (by omega)))
              ⟨(Same.refl H4).upd_free hD, upd_same, Nat.le_refl _, [], rfl, ⟨fun _ x hx => by (cases hx), fun _ => rfl⟩⟩ (fun j ys H5 h => h.2.2.1) (fun j ys H5 h => SqL.of ((s4.trans h.1) _ _ hl)) ?_ ?_
            · rintro j ys H5 x N M hx ⟨u1, u2, u3, zs, rfl, hz⟩ hN hM'
              rw [List.getElem?_map] at hx
              obtain ⟨x, ex, rfl⟩ := Option.map_eq_some_iff.mp hx
              refine ⟨_, rfl, _, rfl, (by show 2 ≤ sizeLine; decide), fun kt hkt => ?_⟩
              have s6 := (Same.refl H5).upd_free (o := .tup [.int x, .int kk]) hkt
              have q6 : upd H5 kt (.tup [.int x, .int kk]) kt = some (.tup (([x, kk] : List Int).map V.int)) := upd_same
              generalize upd H5 kt (.tup [.int x, .int kk]) = H6 at s6 q6
              have s06 := (s4.trans u1).trans s6
              have hM6 := hM.same s06.tups
              have tkx : tk.take (j + 1) = tk.take j ++ [x] := by rw [List.take_add_one, ex]; rfl
              refine ⟨_, rfl, d, xs, od, kt, [x, kk], rfl, s06 _ _ hd, hM6.tks, rfl, ⟨_, q6, nums_ints _⟩, _, rfl, ?_⟩
              by_cases c1 : isPr n ad [x, kk]
              · refine iteFK (by rw [(has_iff hM6 [x, kk]).mpr c1]; rfl) (hM' H6 ⟨u1.trans s6, s6 _ _ u2, by omega, zs, rfl, ?_⟩)
                rw [hz, tkx]
                refine ⟨fun h y hy => ?_, fun h y hy => h y (List.mem_append_left _ hy)⟩
                rcases List.mem_append.mp hy with h' | h'
                · exact h y h'
                · have : y = x := by simpa using h'
                  rw [this]; exact c1
              · refine iteTK (by rw [Bool.not_eq_true', Bool.eq_false_iff]; exact fun h => c1 ((has_iff hM6 [x, kk]).mp h)) ⟨_, rfl, hN _ H6 (s6 _ _ u2) ⟨(u1.trans s6).upd_free hD, upd_same, by rw [List.length_append, List.length_singleton]; omega, zs ++ [x], by rw [List.map_append]; rfl, ?_⟩⟩
                rw [tkx]
                exact ⟨fun h => by simp at h, fun h => (c1 (h x (by simp))).elim⟩
            · rintro ys H5 ⟨u1, u2, u3, zs, rfl, hz⟩
              rw [htl, List.take_length] at hz
              refine ⟨Nat.zero_le _, fun e he => ?_⟩
              have s6 := (Same.refl H5).upd_free (o := .lst []) he
              refine ⟨.list (zs.map PyData.int), .list [], .lst (SqL.of (s6 _ _ u2)) (dints_at zs), .lst (SqL.of upd_same) .nil, ⟨dints_lay zs, by rw [PyData.depth, dints_depth]; decide⟩, nil_ok, _, rfl, u1.trans s6, ?_⟩
              rw [← hz]
              cases zs with
              | nil => exact ⟨fun _ => rfl, fun _ => rfl⟩
              | cons x zs => exact ⟨fun h => by (cases h), fun h => by (cases h)⟩
          rintro bt H5 ⟨s5, hbt⟩
          have s05 := s4.trans s5
          have again : ∀ H', Same H H' → (∀ t, ¬ CX n ad m tk (tk ++ kk :: t)) → ∀ v5' : Option V, ∃ v4 v5 : Option V, [some (V.int (n : Int)), some (.ref d), some (.int (m : Int)), some (.ref l), some (.int kk), v5'] = [some (V.int (n : Int)), some (.ref d), some (.int (m : Int)), some (.ref l), v4, v5] ∧ Same H H' ∧ ∀ y t, CX n ad m tk (tk ++ y :: t) → startM tk + ((i + 1 : Nat) : Int) ≤ y := fun H' s' hn v5' => by
            refine ⟨_, _, rfl, s', fun y t h => ?_⟩
            have h1 := hno y t h
            by_cases e : y = kk
            · subst e; exact (hn t h).elim
            · omega
          cases bt with
          | false =>
            refine iteF (again H5 s05 (fun t h => ?_) _)
            have hh : ∀ j ∈ tk, isPr n ad [j, kk] := fun j hj => by
              have h1 := (List.pairwise_append.mp h.1.inc).2.2 j hj kk (by simp)
              have h2 := (List.pairwise_append.mp h.1.far).2.2 j hj kk (by simp)
              exact ⟨j, kk, rfl, (hq.ran j hj).1, h1, hkn.2, h2⟩
            have := hbt.mpr hh
            cases this
          | true =>
            have hall := hbt.mp rfl
            refine iteT ?_
            refine ⟨_, rfl, _, rfl, _, rfl, _, rfl, _, rfl, (by show 1 ≤ sizeLine; decide), fun p4 hp4 => ?_⟩
            have s6 := (Same.refl H5).upd_free (o := .lst [.int kk]) hp4
            have q4 : upd H5 p4 (.lst [.int kk]) p4 = some (.lst [.int kk]) := upd_same
            generalize upd H5 p4 (.lst [.int kk]) = H6 at s6 q4
            refine ⟨l, p4, _, _, rfl, rfl, SqL.of ((s05.trans s6) _ _ hl), SqL.of q4, ?_, fun p5 hp5 => ?_⟩
            · rw [htl]
              exact Nat.le_of_lt (small1000 (by show tk.length + 1 ≤ _; omega))
            have s7 := (Same.refl H6).upd_free (o := .lst (tk.map V.int ++ [.int kk])) hp5
            have q5 : upd H6 p5 (.lst (tk.map V.int ++ [.int kk])) p5 = some (.lst ((tk ++ [kk]).map V.int)) := by rw [upd_same, List.map_append]; rfl
            generalize upd H6 p5 (.lst (tk.map V.int ++ [.int kk])) = H7 at s7 q5
            have s07 := s05.trans (s6.trans s7)
            have hq2 : Clq n ad (tk ++ [kk]) := by
              refine ⟨List.pairwise_append.mpr ⟨hq.inc, List.pairwise_singleton _ _, fun a ha b hb => ?_⟩, fun x hx => ?_, List.pairwise_append.mpr ⟨hq.far, List.pairwise_singleton _ _, fun a ha b hb => ?_⟩⟩
              · have : b = kk := by simpa using hb
                have := start_gt hq.inc ha
                omega
              · rcases List.mem_append.mp hx with h | h
                · exact hq.ran x h
                · have : x = kk := by simpa using h
                  rw [this]; exact hkn
              · have e : b = kk := by simpa using hb
                obtain ⟨j, k', e1, _, _, _, h5⟩ := hall a ha
                injection e1 with e1 e2
                injection e2 with e2 _
                rw [e, e1, e2]; exact h5
            refine ⟨d, p5, n, m, tk ++ [kk], ad, xs, od, c, rfl, q5, hq2, by rw [List.length_append]; show tk.length + 1 ≤ m; omega, by rw [List.length_append]; show m - (tk.length + 1) < dd; omega, n100, s07 _ _ hd, hM.same s07.tups, fun v oo H8 s8 ho hv => ?_⟩
            cases oo with
            | none =>
              cases (show v = .non from hv)
              refine ⟨_, rfl, rfl, _, rfl, iteFK (by simp) (again H8 (s07.trans s8) (fun t h => ?_) _)⟩
              exact ho _ ⟨h.1, h.2.1, t, by rw [List.append_assoc]; rfl⟩
            | some r =>
              obtain ⟨p, rfl, hp⟩ := hv
              refine ⟨_, rfl, rfl, _, rfl, iteTK (by simp) ⟨_, rfl, k (.ref p) (some r) H8 (s07.trans s8) (cx_put hkk.symm (fun y t h => by rw [hkk]; exact hno y t h) hlt ho) ⟨p, rfl, hp⟩⟩⟩
        · rintro σ H4 ⟨v4, v5, rfl, s4, hno⟩
          refine k .non none H4 s4 ?_ rfl
          rintro r ⟨c1, c2, t, rfl⟩
          cases t with
          | nil => rw [List.append_nil] at c2; omega
          | cons y t =>
            have h1 := hno y t ⟨c1, c2, _, rfl⟩
            have h2 := (c1.ran y (by simp)).2
            omega
end
end BG
namespace L2
open PySem PySem.Spec PyProof.Rows
section
variable {X : Cx}

def rIdx (K : PySem.W.Frag) : V → List V → Hp → VK → Prop := fun x args H Q => ∃ l xs y dx ds j, x = .ref l ∧ args = [y] ∧ SqL K H l xs ∧ DsAt K H xs ds ∧ DAt K H y dx ∧ DOk dx ∧ PyData.canLayAll0 ds = true ∧ (ds.findIdx? fun d => PyData.eqv d dx) = some j ∧ ds.length ≤ 10000 ∧ Q (.int (j : Int)) H
theorem mt_index (hu : X.A.units + 64 < cLine) : MtR X "list.index" (rIdx X.K) := by
  intro pins s σ H x xs v us Q I rx rs h
  obtain ⟨l, xs, y, dx, ds, j, rfl, rfl, hl, hds, hy, okx, okd, hj, hsz, q⟩ := h
  obtain ⟨u, rfl, ru⟩ := rs.one
  obtain ⟨bs, r2⟩ := hy.reads I ru
  cases rx
  obtain ⟨as, r1⟩ := (DAt.lst hl hds).reads I (u := .ref l) rfl
  cases r1 with
  | list h1 h2 h3 h4 =>
    rename_i o its n as1
    obtain ⟨cls, dd, data, sl⟩ := o
    simp only at h2 h3
    subst h2 h3
    have hm := SeqAt.readsAll_map ds _ _ okd h4
    obtain ⟨hjl, hje, hjn⟩ := List.findIdx?_eq_some_iff_getElem.mp hj
    have hlen : its.toList.length = ds.length := by rw [← hm, List.length_map]
    have at_ : ∀ (i : Nat) (h : i < its.size), PyData.eqv (SeqAt.readOf s.heap its[i]) dx = PyData.eqv (ds[i]'(by rw [← hlen]; simpa using h)) dx := fun i h => by
      have e : (its.toList.map (SeqAt.readOf s.heap))[i]? = ds[i]? := by rw [hm]
      rw [List.getElem?_map, List.getElem?_eq_getElem (by simpa using h), List.getElem?_eq_getElem (by rw [← hlen]; simpa using h)] at e
      have e' := Option.some.inj e
      have : SeqAt.readOf s.heap its[i] = ds[i]'(by rw [← hlen]; simpa using h) := by simpa using e'
      rw [this]
    have hji : j < its.size := by have := hlen; simp at this; omega
    refine call_meets PySem.F.slot_list_index ⟨_, h1, rfl⟩ PySem.F.entry_list_index (PySem.F.args_list_index_2 _ _)
      (SeqAt.list_indexAt l its n dd sl u (fun y => PyData.eqv (SeqAt.readOf s.heap y) dx) j hji (by omega) ?_ ?_) ⟨h1, SeqAt.items_eqAt h4 r2 okd okx.1 (in_room hu okx.2 _), ?_⟩
    · show PyData.eqv (SeqAt.readOf s.heap its[j]) dx = true
      rw [at_ j hji]
      exact hje
    · intro m hm' hlt
      show PyData.eqv (SeqAt.readOf s.heap its[m]) dx = false
      rw [at_ m hm']
      have := hjn m hlt
      simpa using this
    · exact ⟨.int _, H, I.tok _, ⟨_, rfl⟩, q⟩
theorem pe_bmK {K : PySem.W.Frag} (hK : X.K = K) {o e : Expr} {es : List Expr} {to : TE} {t : TA} {name : Str} {apos cpos : Pos} {T id : String} {r : V → List V → Hp → VK → Prop} (pa : PlainAttrs T) (slot : Slot T name id) (hty : typeOf (.builtin id) = pure (.type "method_descriptor")) (hm : MtR X id r) (ho : PE X o to) (ha : PA X (e :: es) t)
    (hbase : attributeBase o name X.env (eval o X.env) = eval o X.env := by rfl)
    (hfew : ((backTo cpos (starEach (e :: es) X.env)).all (fun x => !x.1) && (backToKw cpos (keywordEach [] X.env)).all (fun x => x.1.isSome)
      && decide ((e :: es).length + ([] : List Keyword).length + (if ([] : List Keyword).isEmpty then 0 else 1) < 30)) = true := by rfl)
    (hline : (apos.endLine == cpos.line) = true := by rfl) (hs : starEach (e :: es) X.env = (false, eval e X.env) :: starEach es X.env := by rfl) (hplain : (backTo cpos (starEach es X.env)).any (·.1) = false := by rfl) :
    PE X (.Call (.Attribute o name apos) (e :: es) [] cpos) (tBM K T r to t) := by subst hK; exact pe_bm pa slot hty hm ho ha hbase hfew hline hs hplain
end
end L2
namespace BG
open PySem L2 SO K20
theorem dO_ok (r : List Int) : DOk (.list (r.map PyData.int)) := ⟨dints_lay r, by rw [PyData.depth, dints_depth]; decide⟩
def dO : Option (List Int) → PyData
  | none => .none
  | some r => .list (r.map PyData.int)
theorem dO_dat {K : PySem.W.Frag} {H : Hp} {v : V} : ∀ {o : Option (List Int)}, LsO H v o → DAt K H v (dO o) ∧ DOk (dO o)
  | none, h => by cases (show v = .non from h); exact ⟨.non, rfl, by decide⟩
  | some r, ⟨p, h1, h2⟩ => by subst h1; exact ⟨.lst (SqL.of h2) (dints_at r), dO_ok r⟩
theorem srt_nodup {l : List (List Int)} (h : Srt l) : l.Nodup := h.imp fun {a b} q e => by subst e; exact prLt_asym q q

theorem idx_at {zl : List (List Int)} (h : Srt zl) {i : Nat} {r : List Int} (e : zl[i]? = some r) : ((zl.map dRun).findIdx? fun d => PyData.eqv d (dRun r)) = some i := by
  obtain ⟨hi, ei⟩ := List.getElem?_eq_some_iff.mp e
  rw [List.findIdx?_eq_some_iff_getElem]
  refine ⟨by rw [List.length_map]; exact hi, ?_, fun j hj => ?_⟩
  · rw [List.getElem_map, ei, dRun_eqv]
    exact decide_eq_true rfl
  · rw [List.getElem_map, dRun_eqv, decide_eq_true_iff]
    intro q
    have hn := List.pairwise_iff_getElem.mp (srt_nodup h) j i (by omega) hi hj
    exact hn (q.trans ei.symm)
section
variable {P : Program} {w : World} {K : PySem.W.Frag} {mg : Str → Option Value} {base : Heap}

def spWh : Sp := fun vs H Q _ => ∃ i : Int, vs = [.int i] ∧ Q (.bl true) H
theorem scWh : FnScope ["_law_found"] ["_law_found"] (defScope sWh) := ⟨rfl, rfl, rfl, by decide +kernel, rfl, by decide +kernel, by decide +kernel⟩
theorem ok_wh {f : Addr} {fd : FuncData} (F : Fun K "_law_whole" "_law_whole" sWh f fd) (T : Txt mg) : FnOk P w K mg base CX0 1 f fd ["_law_found"] spWh := by
  refine F.ok scWh (fun vs H Q E h => ?_) (fun cdv A outer s H vs Q E hr h => ?_)
  · obtain ⟨i, rfl, _⟩ := h
    rfl
  · obtain ⟨i, rfl, k⟩ := h
    refine ⟨_, pss_one (ps_ret (pe_and (pe_callB call_isinst (by rfl) T.isin PyProof.Rows.boot_isinstance (pa_cons (pv 0) (pa_cons (pe_bltn (v := .ty "int") (by rfl) T.int PyProof.Rows.boot_int rfl) pa_nil)))
      (pe_one (pe_not (pe_callB call_isinst (by rfl) T.isin PyProof.Rows.boot_isinstance (pa_cons (pv 0) (pa_cons (pe_bltn (v := .ty "bool") (by rfl) T.bool PyProof.Rows.boot_bool rfl) pa_nil))))))), ?_⟩
    refine ⟨_, rfl, _, _, _, true, rfl, .int i, rfl, true, rfl, iteT ?_⟩
    exact ⟨_, rfl, _, _, _, false, rfl, .int i, rfl, false, rfl, k⟩
def spLaw (K : PySem.W.Frag) : Sp := fun vs H Q _ => ∃ (a : Addr) (ns : List Int), vs = [.ref a] ∧ SqL K H a (ns.map V.int) ∧ ns.length ≤ 63 ∧ ∀ H', Q (.bl true) H'
abbrev nLaw : List Str := ["_law_script", "_law_many", "_law_longest", "_law_wide", "_law_good", "_law_bad", "_law_size", "_law_begins_here", "_law_pairs_here", "_law_found", "_law_due_here", "_law_run_here"]
theorem scLaw : FnScope nLaw ["_law_script"] (defScope sLaw) := ⟨rfl, rfl, rfl, by decide +kernel, rfl, by decide +kernel, by decide +kernel⟩
def scopeL1 : Scope := { kind := .function, names := [(".0", .local), ("_law_run_here", .local), ("_law_begins_here", .free)], isGenerator := false, isCoroutine := false, more := [] }
def scopeL2 : Scope := { kind := .function, names := [(".0", .local), ("_law_letter", .local), ("_law_whole", .globalImplicit)], isGenerator := false, isCoroutine := false, more := [] }
theorem scL1 : BlkScope (defScope sLaw) nLaw ["_law_run_here"] ["_law_begins_here"] [7] scopeL1 := ⟨rfl, by decide +kernel, by decide +kernel, by decide +kernel, rfl, by decide +kernel, by decide +kernel⟩
theorem scL2 : BlkScope (defScope sLaw) nLaw ["_law_letter"] [] [] scopeL2 := ⟨rfl, by decide +kernel, by decide +kernel, by decide +kernel, rfl, by decide +kernel, by decide +kernel⟩
theorem many_at (i : Int) (h0 : 0 ≤ i) (h1 : i < 8) : ∃ v : Int, atI [V.int 2, .int 1, .int 3, .int 2, .int 8, .int 0, .int 2, .int 5] i = some (.int v) ∧ 0 ≤ v ∧ v ≤ 8 := by
  have : i = 0 ∨ i = 1 ∨ i = 2 ∨ i = 3 ∨ i = 4 ∨ i = 5 ∨ i = 6 ∨ i = 7 := by omega
  rcases this with rfl | rfl | rfl | rfl | rfl | rfl | rfl | rfl <;> exact ⟨_, rfl, by decide, by decide⟩
theorem size_at (i : Int) (h0 : 0 ≤ i) (h1 : i < 8) : ∃ m : Nat, atI [V.int 2, .int 3, .int 1, .int 4, .int 0, .int 5, .int 2, .int 3] i = some (.int (m : Int)) ∧ m ≤ 5 := by
  have : i = 0 ∨ i = 1 ∨ i = 2 ∨ i = 3 ∨ i = 4 ∨ i = 5 ∨ i = 6 ∨ i = 7 := by omega
  rcases this with rfl | rfl | rfl | rfl | rfl | rfl | rfl | rfl
  · exact ⟨2, rfl, by decide⟩
  · exact ⟨3, rfl, by decide⟩
  · exact ⟨1, rfl, by decide⟩
  · exact ⟨4, rfl, by decide⟩
  · exact ⟨0, rfl, by decide⟩
  · exact ⟨5, rfl, by decide⟩
  · exact ⟨2, rfl, by decide⟩
  · exact ⟨3, rfl, by decide⟩
theorem long_at (i : Int) (h0 : 0 ≤ i) (h1 : i < 4) : ∃ v : Int, atI [V.int 4, .int 8, .int 3, .int 2] i = some (.int v) ∧ 0 ≤ v ∧ v ≤ 8 := by
  have : i = 0 ∨ i = 1 ∨ i = 2 ∨ i = 3 := by omega
  rcases this with rfl | rfl | rfl | rfl <;> exact ⟨_, rfl, by decide, by decide⟩
theorem wide_at (i : Int) (h0 : 0 ≤ i) (h1 : i < 4) : ∃ v : Int, atI [V.int 10, .int 10, .int 24, .int 8] i = some (.int v) ∧ 1 ≤ v ∧ v ≤ 24 := by
  have : i = 0 ∨ i = 1 ∨ i = 2 ∨ i = 3 := by omega
  rcases this with rfl | rfl | rfl | rfl <;> exact ⟨_, rfl, by decide, by decide⟩
theorem ok_law {f fC fTw fBe fPa fLo fFi fDu fWh : Addr} {fd fdC fdTw fdBe fdPa fdLo fdFi fdDu fdWh : FuncData} (F : Fun K "law" "law" sLaw f fd) (T : Txt mg)
    (FC : Fun K "_law_cell_at" "_law_cell_at" sCe fC fdC) (bC : Binds K fdC ["_law_script", "_law_k"] []) (gC : mg "_law_cell_at" = some (.ref fC)) (GC : FnOk P w K mg base CX0 1 fC fdC ["_law_script", "_law_k"] (spCe K))
    (FT : Fun K "_law_two" "_law_two" sTw fTw fdTw) (bT : Binds K fdTw ["_law_script", "_law_many", "_law_size", "_law_longest", "_law_limit"] []) (gT : mg "_law_two" = some (.ref fTw)) (GT : FnOk P w K mg base CX0 3 fTw fdTw ["_law_script", "_law_many", "_law_size", "_law_longest", "_law_limit"] (spTw K))
    (FB : Fun K "_law_begins" "_law_begins" sBe fBe fdBe) (bB : Binds K fdBe ["_law_good", "_law_bad"] []) (gB : mg "_law_begins" = some (.ref fBe)) (GB : FnOk P w K mg base CX0 1 fBe fdBe ["_law_good", "_law_bad"] spBe)
    (FP : Fun K "_law_pairs" "_law_pairs" sPa fPa fdPa) (bP : Binds K fdPa ["_law_good", "_law_bad", "_law_begins_here"] []) (gP : mg "_law_pairs" = some (.ref fPa)) (GP : FnOk P w K mg base CX0 2 fPa fdPa ["_law_good", "_law_bad", "_law_begins_here"] (spPa P w))
    (FL : Fun K "lonely" "lonely" sLo fLo fdLo) (bL : Binds K fdLo ["good", "bad", "size"] []) (gL : mg "lonely" = some (.ref fLo)) (GL : FnOk P w K mg base CX0 9 fLo fdLo ["good", "bad", "size"] spLo)
    (FF : Fun K "_law_first" "_law_first" sFi fFi fdFi) (bF : Binds K fdFi ["_law_many", "_law_pairs_here", "_law_size", "_law_taken"] []) (gF : mg "_law_first" = some (.ref fFi)) (GF : FnOk P w K mg base CX0 7 fFi fdFi ["_law_many", "_law_pairs_here", "_law_size", "_law_taken"] (spFi P w 6))
    (FD : Fun K "_law_due" "_law_due" sDu fDu fdDu) (bD : Binds K fdDu ["_law_begins_here", "_law_pairs_here", "_law_size"] []) (gD : mg "_law_due" = some (.ref fDu)) (GD : FnOk P w K mg base CX0 2 fDu fdDu ["_law_begins_here", "_law_pairs_here", "_law_size"] (spDu P w))
    (FW : Fun K "_law_whole" "_law_whole" sWh fWh fdWh) (bW : Binds K fdWh ["_law_found"] []) (gW : mg "_law_whole" = some (.ref fWh)) (GW : FnOk P w K mg base CX0 1 fWh fdWh ["_law_found"] spWh) :
    FnOk P w K mg base CX0 10 f fd ["_law_script"] (spLaw K) := by
  refine F.ok scLaw (fun vs H Q E h => ?_) (fun cdv A outer s H vs Q E hr h => ?_)
  · obtain ⟨a, ns, rfl, _⟩ := h
    rfl
  · obtain ⟨a, ns, rfl, hS, hlen, k⟩ := h
    have hr1 : Room 1 _ := hr.mono (by decide)
    have hr2 : Room 2 _ := hr.mono (by decide)
    have hr3 : Room 3 _ := hr.mono (by decide)
    have hr7 : Room 7 _ := hr.mono (by decide)
    have hu64 := hr.units
    refine ⟨_, @pss_cons _ _ _ _ _ (ps_set (i := 1) scLaw.nd rfl (Or.inl rfl) (@pe_ix _ _ _ _ _ _ _ ix_list (pe_lst (pa_cons pe_int (pa_cons pe_int (pa_cons pe_int (pa_cons pe_int (pa_cons pe_int (pa_cons pe_int (pa_cons pe_int (pa_cons pe_int pa_nil))))))))) (pe_op op_mod (pe_call GC hr1 rfl gC FC.kp bC .nil pass0 (pa_cons (pv 0) (pa_cons pe_int pa_nil))) pe_int) (fun _ _ => rfl)))
      (@pss_cons _ _ _ _ _ (ps_set (i := 2) scLaw.nd rfl (Or.inl rfl) (@pe_ix _ _ _ _ _ _ _ ix_list (pe_lst (pa_cons pe_int (pa_cons pe_int (pa_cons pe_int (pa_cons pe_int pa_nil))))) (pe_op op_mod (pe_op op_fdiv (pe_call GC hr1 rfl gC FC.kp bC .nil pass0 (pa_cons (pv 0) (pa_cons pe_int pa_nil))) pe_int) pe_int) (fun _ _ => rfl)))
      (@pss_cons _ _ _ _ _ (ps_set (i := 3) scLaw.nd rfl (Or.inl rfl) (@pe_ix _ _ _ _ _ _ _ ix_list (pe_lst (pa_cons pe_int (pa_cons pe_int (pa_cons pe_int (pa_cons pe_int pa_nil))))) (pe_op op_mod (pe_op op_fdiv (pe_call GC hr1 rfl gC FC.kp bC .nil pass0 (pa_cons (pv 0) (pa_cons pe_int pa_nil))) pe_int) pe_int) (fun _ _ => rfl)))
      (pss_cons (ps_asg (pe_call GT hr3 rfl gT FT.kp bT .nil pass0 (pa_cons (pv 0) (pa_cons (pv 1) (pa_cons (pe_op op_add (pe_op op_mod (pe_op op_fdiv (pe_call GC hr1 rfl gC FC.kp bC .nil pass0 (pa_cons (pv 0) (pa_cons pe_int pa_nil))) pe_int) pe_int) pe_int) (pa_cons (pv 2) (pa_cons (pv 3) pa_nil)))))) (pg_tup (n := 2) rfl (pgs_cons (pg_name (i := 4) scLaw.nd rfl (Or.inl rfl)) (pgs_cons (pg_name (i := 5) scLaw.nd rfl (Or.inl rfl)) pgs_nil))))
      (@pss_cons _ _ _ _ _ (ps_set (i := 6) scLaw.nd rfl (Or.inl rfl) (@pe_ix _ _ _ _ _ _ _ ix_list (pe_lst (pa_cons pe_int (pa_cons pe_int (pa_cons pe_int (pa_cons pe_int (pa_cons pe_int (pa_cons pe_int (pa_cons pe_int (pa_cons pe_int pa_nil))))))))) (pe_op op_mod (pe_op op_fdiv (pe_call GC hr1 rfl gC FC.kp bC .nil pass0 (pa_cons (pv 0) (pa_cons pe_int pa_nil))) pe_int) pe_int) (fun _ _ => rfl)))
      (pss_cons (ps_set (i := 7) scLaw.nd rfl (Or.inr rfl) (pe_call GB hr1 rfl gB FB.kp bB .nil pass0 (pa_cons (pv 4) (pa_cons (pv 5) pa_nil))))
      (pss_cons (ps_set (i := 8) scLaw.nd rfl (Or.inl rfl) (pe_call GP hr2 rfl gP FP.kp bP .nil pass0 (pa_cons (pv 4) (pa_cons (pv 5) (pa_cons (pv 7) pa_nil)))))
      (pss_cons (ps_set (i := 9) scLaw.nd rfl (Or.inl rfl) (pe_call GL hr rfl gL FL.kp bL .nil pass0 (pa_cons (pv 4) (pa_cons (pv 5) (pa_cons (pv 6) pa_nil)))))
      (pss_cons (ps_set (i := 10) scLaw.nd rfl (Or.inl rfl) (pe_call GF hr7 rfl gF FF.kp bF .nil pass0 (pa_cons (pe_callB call_len_seq (by rfl) T.len PySem.boot_len (pa_cons (pv 7) pa_nil)) (pa_cons (pv 8) (pa_cons (pv 6) (pa_cons (pe_lst pa_nil) pa_nil))))))
      (pss_cons (ps_if (pt_cut (PW.pt (pw_and (pt_cmpR op_le (pe_callB call_len_seq (by rfl) T.len PySem.boot_len (pa_cons (pv 7) pa_nil)) pe_int (nomark _)) (pw_and1 (pt_cmpR (op_neD hu64) (pv 10) (pe_call GD hr2 rfl gD FD.kp bD .nil pass0 (pa_cons (pv 7) (pa_cons (pv 8) (pa_cons (pv 6) pa_nil)))) (nomark _)))))) (pss_one (ps_ret pe_bl)) pss_nil)
      (pss_cons (ps_if (PW.pt (pw_or (pt_cmpR op_isN (pv 9) pe_non (nomark _)) (pw_or1 (pt_cmpR op_isN (pv 10) pe_non (nomark _))))) (pss_one (ps_ret (pe_and (pe_cmpR op_isN (pv 9) pe_non (nomark _)) (pe_one (pe_cmpR op_isN (pv 10) pe_non (nomark _)))))) pss_nil)
      (pss_cons (ps_if (PW.pt (pw_or (pt_not (pt_val (pe_callB call_isinst (by rfl) T.isin PyProof.Rows.boot_isinstance (pa_cons (pv 9) (pa_cons (pe_bltn (v := .ty "tuple") (by rfl) T.tuple PyProof.Rows.boot_tuple rfl) pa_nil)))))
        (pw_or (pt_cmpR op_ne (pe_callB call_len_seq (by rfl) T.len PySem.boot_len (pa_cons (pv 9) pa_nil)) (pv 6) (nomark _))
        (pw_or1 (pt_cmpR (op_neD hu64) (pe_lc scL1 rfl rfl rfl (pi_tup (pv 9)) (fun fp C s1 H1 => pg_name (i := 0) scL1.nd rfl (Or.inl rfl)) (fun fp C s1 H1 => pts_one (pt_cmpR (r := rInD K true) (op_notInD hu64) (pv 0) (pv 1) (by with_unfolding_all rfl))) (fun fp C s1 H1 => pv 0)) (pe_lst pa_nil) (nomark _)))))) (pss_one (ps_ret pe_bl)) pss_nil)
      (pss_cons (ps_for PassesOwn.never rfl (pi_tup (pv 9)) (pg_name (i := 11) scLaw.nd rfl (Or.inl rfl))
        (pss_one (ps_if (PW.pt (pw_or (pt_not (pt_val (pe_callB call_isinst (by rfl) T.isin PyProof.Rows.boot_isinstance (pa_cons (pv 11) (pa_cons (pe_bltn (v := .ty "tuple") (by rfl) T.tuple PyProof.Rows.boot_tuple rfl) pa_nil)))))
          (pw_or1 (pt_cmpR (op_neD hu64) (pe_lc scL2 rfl rfl rfl (pi_tup (pv 11)) (fun fp C s1 H1 => pg_name (i := 0) scL2.nd rfl (Or.inl rfl)) (fun fp C s1 H1 => pts_one (pt_not (pt_val (pe_call GW hr1 rfl gW FW.kp bW .nil pass0 (pa_cons (pv 0) pa_nil))))) (fun fp C s1 H1 => pv 0)) (pe_lst pa_nil) (nomark _))))) (pss_one (ps_ret pe_bl)) pss_nil)))
      (pss_one (ps_ret (pe_cmpR (op_eqD hu64) (pe_lc scL1 rfl rfl rfl (pi_tup (pv 9)) (fun fp C s1 H1 => pg_name (i := 0) scL1.nd rfl (Or.inl rfl)) (fun fp C s1 H1 => pts_nil) (fun fp C s1 H1 => pe_bmK (K := K) (r := rIdx K) rfl PySem.F.plainAttrs_list PySem.F.slot_list_index PySem.F.type_list_index (mt_index hu64) (pv 1) (pa_cons (pv 0) pa_nil))) (pv 10) (nomark _)))))))))))))))), ?_⟩
    -- many, longest, wide
    refine ⟨(by show 8 ≤ sizeLine; decide), fun l1 hl1 => ?_⟩
    have s1 := (Same.refl H).upd_free (o := .lst [.int 2, .int 1, .int 3, .int 2, .int 8, .int 0, .int 2, .int 5]) hl1
    have q1 : upd H l1 (.lst [.int 2, .int 1, .int 3, .int 2, .int 8, .int 0, .int 2, .int 5]) l1 = some (.lst [.int 2, .int 1, .int 3, .int 2, .int 8, .int 0, .int 2, .int 5]) := upd_same
    generalize upd H l1 (.lst [.int 2, .int 1, .int 3, .int 2, .int 8, .int 0, .int 2, .int 5]) = H1 at s1 q1
    refine ⟨_, rfl, a, ns, 0, rfl, s1.seq hS, by omega, by decide, by decide, fun H2 s2 => ?_⟩
    obtain ⟨many, am, m0, m1⟩ := many_at (cellM ns 0 % 8) (Int.emod_nonneg _ (by decide)) (Int.emod_lt_of_pos _ (by decide))
    refine ⟨_, _, rfl, rfl, (by show (0 : Int) < 8; decide), l1, _, _, _, rfl, rfl, SqL.of (s2 _ _ q1), am, ?_⟩
    have s02 := s1.trans s2
    refine ⟨(by show 4 ≤ sizeLine; decide), fun l2 hl2 => ?_⟩
    have s3 := (Same.refl H2).upd_free (o := .lst [.int 4, .int 8, .int 3, .int 2]) hl2
    have q2 : upd H2 l2 (.lst [.int 4, .int 8, .int 3, .int 2]) l2 = some (.lst [.int 4, .int 8, .int 3, .int 2]) := upd_same
    generalize upd H2 l2 (.lst [.int 4, .int 8, .int 3, .int 2]) = H3 at s3 q2
    refine ⟨_, rfl, a, ns, 0, rfl, (s02.trans s3).seq hS, by omega, by decide, by decide, fun H4 s4 => ?_⟩
    obtain ⟨longest, al, lo0, lo1⟩ := long_at (cellM ns 0 / 8 % 4) (Int.emod_nonneg _ (by decide)) (Int.emod_lt_of_pos _ (by decide))
    refine ⟨_, _, rfl, rfl, ⟨by decide, by decide⟩, _, _, rfl, rfl, (by show (0 : Int) < 4; decide), l2, _, _, _, rfl, rfl, SqL.of (s4 _ _ q2), al, ?_⟩
    have s04 := (s02.trans s3).trans s4
    refine ⟨(by show 4 ≤ sizeLine; decide), fun l3 hl3 => ?_⟩
    have s5 := (Same.refl H4).upd_free (o := .lst [.int 10, .int 10, .int 24, .int 8]) hl3
    have q3 : upd H4 l3 (.lst [.int 10, .int 10, .int 24, .int 8]) l3 = some (.lst [.int 10, .int 10, .int 24, .int 8]) := upd_same
    generalize upd H4 l3 (.lst [.int 10, .int 10, .int 24, .int 8]) = H5 at s5 q3
    refine ⟨_, rfl, a, ns, 0, rfl, (s04.trans s5).seq hS, by omega, by decide, by decide, fun H6 s6 => ?_⟩
    obtain ⟨wide, aw, wi0, wi1⟩ := wide_at (cellM ns 0 / 32 % 4) (Int.emod_nonneg _ (by decide)) (Int.emod_lt_of_pos _ (by decide))
    refine ⟨_, _, rfl, rfl, ⟨by decide, by decide⟩, _, _, rfl, rfl, (by show (0 : Int) < 4; decide), l3, _, _, _, rfl, rfl, SqL.of (s6 _ _ q3), aw, ?_⟩
    have s06 := (s04.trans s5).trans s6
    -- two
    refine ⟨_, rfl, _, rfl, _, rfl, a, ns, 0, rfl, s06.seq hS, by omega, by decide, by decide, fun H7 s7 => ?_⟩
    have z4 : 0 ≤ cellM ns 0 / 128 % 4 ∧ cellM ns 0 / 128 % 4 < 4 := ⟨Int.emod_nonneg _ (by decide), Int.emod_lt_of_pos _ (by decide)⟩
    refine ⟨_, _, rfl, rfl, ⟨by decide, by decide⟩, _, _, rfl, rfl, (by show (0 : Int) < 4; decide), _, _, rfl, rfl, _, rfl, _, rfl, a, ns, many, _, longest, wide, rfl, (s06.trans s7).seq hS, hlen, m0, m1, by omega, by omega, lo0, lo1, by omega, by omega, fun t g b gs bs rms H8 s8 ht hg hb Gr hrl tw cn => ?_⟩
    have s08 := (s06.trans s7).trans s8
    refine ⟨t, [.ref g, .ref b], rfl, SqT.of ht, rfl, .ref g, [.ref b], rfl, .ref b, [], rfl, rfl, ?_⟩
    have w1 := tw.g12
    have w2 := tw.b12
    have hsh : ∀ r ∈ gs ++ bs, r.length ≤ 8 := fun r hr' => by have := tw.sh r hr'; omega
    have hg8 : ∀ r ∈ gs, r.length ≤ 8 := fun r hr' => hsh r (List.mem_append_left _ hr')
    -- size
    refine ⟨(by show 8 ≤ sizeLine; decide), fun l4 hl4 => ?_⟩
    have s9 := (Same.refl H8).upd_free (o := .lst [.int 2, .int 3, .int 1, .int 4, .int 0, .int 5, .int 2, .int 3]) hl4
    have q4 : upd H8 l4 (.lst [.int 2, .int 3, .int 1, .int 4, .int 0, .int 5, .int 2, .int 3]) l4 = some (.lst [.int 2, .int 3, .int 1, .int 4, .int 0, .int 5, .int 2, .int 3]) := upd_same
    generalize upd H8 l4 (.lst [.int 2, .int 3, .int 1, .int 4, .int 0, .int 5, .int 2, .int 3]) = H9 at s9 q4
    refine ⟨_, rfl, a, ns, 0, rfl, (s08.trans s9).seq hS, by omega, by decide, by decide, fun H10 s10 => ?_⟩
    obtain ⟨m, asz, m5⟩ := size_at (cellM ns 0 / 512 % 8) (Int.emod_nonneg _ (by decide)) (Int.emod_lt_of_pos _ (by decide))
    refine ⟨_, _, rfl, rfl, ⟨by decide, by decide⟩, _, _, rfl, rfl, (by show (0 : Int) < 8; decide), l4, _, _, _, rfl, rfl, SqL.of (s10 _ _ q4), asz, ?_⟩
    have hg10 := (hg.same s9).same s10
    have hb10 := (hb.same s9).same s10
    -- begins
    refine ⟨_, rfl, _, rfl, g, b, false, gs, bs, rfl, hg10, hb10, by omega, by omega, hsh, fun lb zs H11 s11 _ hlb hzb => ?_⟩
    have hz24 : zs.length ≤ 24 := by
      have := cn.len hzb
      omega
    have hg11 := hg10.same s11
    have hb11 := hb10.same s11
    have hzl : (zs.map fun z => V.ref z.1).length = zs.length := List.length_map _
    -- pairs
    refine ⟨_, rfl, _, rfl, _, rfl, g, b, lb, gs, bs, zs, rfl, hg11, hb11, hlb, fun z hz => ⟨hzb.at' z hz, hzb.sh z hz⟩, hg8, by omega, fun d xs od cc H12 s12 hd hM => ?_⟩
    -- lonely
    refine ⟨_, rfl, _, rfl, _, rfl, g, b, gs, bs, m, rfl, hg11.same s12, hb11.same s12, by omega, by omega, hsh, ?_, by omega, fun v9 zl o H13 s13 hsz hmz ho hv9 => ?_⟩
    · obtain ⟨l', c1, c2, c3⟩ := cn
      exact ⟨l', c1, c2, by omega⟩
    have ezl : zl = zs.map (·.2) := srt_eq hsz hzb.srt fun x => (hmz x).trans (hzb.mem x).symm
    subst ezl
    rw [List.length_map] at ho
    have s1113 := s12.trans s13
    -- first
    refine ⟨_, rfl, lb, _, rfl, .inl (SqL.of (s1113 _ _ hlb)), _, rfl, _, rfl, Nat.zero_le _, fun le hle => ?_⟩
    have s14 := (Same.refl H13).upd_free (o := .lst []) hle
    have q5 : upd H13 le (.lst []) le = some (.lst (([] : List Int).map V.int)) := upd_same
    generalize upd H13 le (.lst []) = H14 at s14 q5
    have s1114 := s1113.trans s14
    rw [hzl]
    refine ⟨d, le, zs.length, m, [], adB gs bs (zs.map (·.2)), xs, od, cc, rfl, q5, .nil, Nat.zero_le _, by show m - 0 < 6; omega, by omega, (s13.trans s14) _ _ hd, hM.same (s13.trans s14).tups, fun v10 oo H15 s15 hoo hv10 => ?_⟩
    have hoo' : IsF (fun r => Clq zs.length (adB gs bs (zs.map (·.2))) r ∧ r.length = m) oo := hoo.iff fun r => ⟨fun h => ⟨h.1, h.2.1⟩, fun h => ⟨h.1, h.2, r, rfl⟩⟩
    obtain rfl := ho.eq hoo'
    have s1115 := s1114.trans s15
    have s1315 := s14.trans s15
    -- due
    refine ⟨fun bt H' => bt = false ∧ Same H15 H', ?_, ?_⟩
    · refine ⟨_, rfl, lb, _, rfl, .inl (SqL.of (s1115 _ _ hlb)), _, _, rfl, rfl, _, rfl, ?_⟩
      refine ite2 (fun h10 => ?_) (fun _ => ⟨rfl, Same.refl H15⟩)
      have h10' : zs.length ≤ 10 := by
        have := of_decide_eq_true h10
        omega
      refine ⟨_, rfl, _, rfl, _, rfl, _, rfl, lb, d, _, zs.length, m, adB gs bs (zs.map (·.2)), xs, od, cc, rfl, s1115 _ _ hlb, hzl, h10', (s13.trans s1315) _ _ hd, hM.same (s13.trans s1315).tups, fun v o2 H16 s16 ho2 hv => ?_⟩
      obtain rfl := ho.eq ho2
      have d1 := dO_dat (K := K) (hv10.same s16)
      have d2 := dO_dat (K := K) hv
      refine ⟨dO o, dO o, d1.1, d2.1, d1.2, d2.2, _, rfl, ?_, s16⟩
      show (!PyData.eqv (dO o) (dO o)) = false
      rw [SeqAt.eqv_refl _ d1.2.1]
      rfl
    rintro bt H16 ⟨rfl, s16⟩
    refine iteF ?_
    have s1116 := s1115.trans s16
    have hv10' := hv10.same s16
    cases o with
    | none =>
      cases (show v9 = .non from hv9)
      cases (show v10 = .non from hv10')
      exact ⟨_, rfl, rfl, _, rfl, iteTK (by simp) (iteT ⟨_, rfl, rfl, _, rfl, iteTK (by simp) ⟨_, rfl, rfl, k _⟩⟩)⟩
    | some r =>
      obtain ⟨p, ps, rfl, hp0, hpT0⟩ := hv9
      obtain ⟨q, rfl, hq⟩ := hv10'
      have s1316 := s1315.trans s16
      have hp := s1316 _ _ hp0
      have hpT := hpT0.tsame s1316.tups
      refine ⟨_, rfl, rfl, _, rfl, iteFK (by simp) ⟨_, rfl, rfl, _, rfl, iteFK (by simp) ?_⟩⟩
      have hrl : r.length = m := ho.1.2
      have hpl : (ps.map V.ref).length = r.length := by rw [List.length_map, hpT.1, List.length_map]
      refine ⟨_, rfl, _, _, _, true, rfl, .tup hp, rfl, true, rfl, iteF ?_⟩
      refine ⟨_, rfl, p, _, rfl, .inr (SqT.of hp), _, rfl, rfl, _, rfl, ?_⟩
      refine iteFK (by rw [dec_intV, hpl, hrl]; simp) ?_
      have hlb16 := s1116 _ _ hlb
      have hzT : ∀ {H' : Hp}, Same H16 H' → TupsAt H' (zs.map (·.1)) (zs.map (·.2)) := fun s' => (tups_of hzb.at').tsame (s1116.trans s').tups
      have hlb' : (zs.map fun z => V.ref z.1) = (zs.map (·.1)).map V.ref := by rw [List.map_map]; rfl
      -- a run of what is found
      have run : ∀ {i : Nat} {x : V}, (ps.map V.ref)[i]? = some x → ∃ (t : Addr) (y : Int) (z : List Int), x = .ref t ∧ r[i]? = some y ∧ (zs.map (·.2))[y.toNat]? = some z ∧ RA H16 t z ∧ z.length ≤ 8 ∧ (0 ≤ y ∧ y < (zs.length : Int)) := fun {i x} hx => by
        have hi : i < r.length := by
          have := (List.getElem?_eq_some_iff.mp hx).1
          omega
        have ey : r[i]? = some r[i] := List.getElem?_eq_getElem hi
        generalize r[i] = y at ey
        have hy := ho.1.1.ran y (List.mem_of_getElem? ey)
        obtain ⟨z, hz⟩ := some_at (zs.map (·.2)) y hy.1 (by rw [List.length_map]; exact hy.2)
        obtain ⟨t, e1, e2⟩ := hpT.2 i z (by rw [List.getElem?_map, ey]; exact congrArg some (getD_of hz))
        rw [List.getElem?_map, e1] at hx
        cases hx
        have hzm := List.mem_of_getElem? hz
        obtain ⟨z0, hz0, rfl⟩ := List.mem_map.mp hzm
        exact ⟨t, y, _, rfl, ey, hz, e2, hzb.sh z0 hz0, hy⟩
      refine ⟨_, rfl, p, rfl, ⟨_, SqT.of hp⟩, fun D hD => ?_⟩
      refine lc_tup (K := K) (a := p) (xs := ps.map V.ref) (fun j ys H17 => Same H16 H17 ∧ H17 D = some (.lst ys) ∧ ys = []) (Nat.le_of_lt (small1000 (by omega)))
        ⟨(Same.refl H16).upd_free hD, upd_same, rfl⟩ (fun j ys H17 h => by rw [h.2.2]; exact Nat.zero_le _) (fun j ys H17 h => SqT.of (h.1 _ _ hp)) ?_ ?_
      · rintro j ys H17 x N M hx ⟨u1, u2, rfl⟩ hN hM'
        obtain ⟨t, y, z, rfl, ey, ez, ra, _⟩ := run hx
        refine ⟨_, rfl, _, rfl, in_runs (u1 _ _ ra) (.inl (SqL.of (by rw [← hlb']; exact u1 _ _ hlb16))) (hzT u1) ⟨_, rfl, ?_⟩⟩
        refine iteFK ?_ (hM' H17 ⟨u1, u2, rfl⟩)
        show (!decide (z ∈ zs.map (·.2))) = false
        rw [decide_eq_true (List.mem_of_getElem? ez)]
        rfl
      · rintro ys H17 ⟨u1, u2, rfl⟩
        refine ⟨Nat.zero_le _, fun e he => ?_⟩
        have s18 := (Same.refl H17).upd_free (o := .lst []) he
        refine ⟨.list [], .list [], .lst (SqL.of (s18 _ _ u2)) .nil, .lst (SqL.of upd_same) .nil, nil_ok, nil_ok, _, rfl, ?_⟩
        refine iteF ?_
        have s1618 := u1.trans s18
        generalize upd H17 e (.lst []) = H18 at s18 s1618
        -- each run of whole numbers
        refine ⟨_, rfl, p, rfl, ⟨_, SqT.of (s1618 _ _ hp)⟩, ?_⟩
        refine for_tup (K := K) (a := p) (xs := ps.map V.ref) (fun i σ H19 => ∃ v11 : Option V, σ = [some (.ref a), some (.int many), some (.int longest), some (.int wide), some (.ref g), some (.ref b), some (.int (m : Int)), some (.ref lb), some (.ref d), some (.ref p), some (.ref q), v11] ∧ Same H16 H19) ⟨none, rfl, s1618⟩ (fun i σ H19 _ ⟨_, _, h⟩ => SqT.of (h _ _ hp)) ?_ ?_
        · rintro i x σ H19 hx ⟨v11, rfl, s19⟩
          obtain ⟨t, y, z, rfl, ey, ez, ra, z8, _⟩ := run hx
          have ra19 := s19 _ _ ra
          refine ⟨_, rfl, _, _, _, true, rfl, .tup ra19, rfl, true, rfl, iteF ?_⟩
          refine ⟨_, rfl, t, rfl, ⟨_, SqT.of ra19⟩, fun D2 hD2 => ?_⟩
          refine lc_tup (K := K) (a := t) (xs := z.map V.int) (fun j ys H20 => Same H19 H20 ∧ H20 D2 = some (.lst ys) ∧ ys = []) (Nat.le_of_lt (small1000 (by rw [List.length_map]; omega)))
            ⟨(Same.refl H19).upd_free hD2, upd_same, rfl⟩ (fun j ys H20 h => by rw [h.2.2]; exact Nat.zero_le _) (fun j ys H20 h => SqT.of (h.1 _ _ ra19)) ?_ ?_
          · rintro j ys H20 x N M' hx2 ⟨w1, w2, rfl⟩ hN hM'
            rw [List.getElem?_map] at hx2
            obtain ⟨c, _, rfl⟩ := Option.map_eq_some_iff.mp hx2
            exact ⟨_, rfl, c, rfl, true, rfl, iteF (hM' H20 ⟨w1, w2, rfl⟩)⟩
          · rintro ys H20 ⟨w1, w2, rfl⟩
            refine ⟨Nat.zero_le _, fun c hc => ?_⟩
            have s21 := (Same.refl H20).upd_free (o := .lst []) hc
            refine ⟨.list [], .list [], .lst (SqL.of (s21 _ _ w2)) .nil, .lst (SqL.of upd_same) .nil, nil_ok, nil_ok, _, rfl, ?_⟩
            refine iteF ?_
            exact ⟨_, rfl, s19.trans (w1.trans s21)⟩
        · rintro σ H19 ⟨v11, rfl, s19⟩
          refine ⟨_, rfl, p, rfl, ⟨_, SqT.of (s19 _ _ hp)⟩, fun D3 hD3 => ?_⟩
          refine lc_tup (K := K) (a := p) (xs := ps.map V.ref) (fun j ys H20 => Same H19 H20 ∧ H20 D3 = some (.lst ys) ∧ ys = (r.take j).map V.int) (Nat.le_of_lt (small1000 (by omega)))
            ⟨(Same.refl H19).upd_free hD3, upd_same, rfl⟩ (fun j ys H20 h => by rw [h.2.2, List.length_map, List.length_take]; exact Nat.min_le_left _ _) (fun j ys H20 h => SqT.of ((s19.trans h.1) _ _ hp)) ?_ ?_
          · rintro j ys H20 x N M hx ⟨w1, w2, rfl⟩ hN hM'
            obtain ⟨t, y, z, rfl, ey, ez, ra, z8, hy⟩ := run hx
            have s1620 := s19.trans w1
            have hl20 : SqL K H20 lb ((zs.map (·.1)).map V.ref) := SqL.of (by rw [← hlb']; exact s1620 _ _ hlb16)
            refine ⟨_, rfl, .inl ⟨rfl, _, hl20⟩, _, rfl, lb, _, _, dRun z, (zs.map (·.2)).map dRun, y.toNat, rfl, rfl, hl20, runs_dat (hzT s1620), run_dat (s1620 _ _ ra), dRun_ok z, dRuns_lay _, idx_at hzb.srt ez, by rw [List.length_map, List.length_map]; omega, ?_⟩
            refine hN _ H20 w2 ⟨w1.upd_free hD3, upd_same, ?_⟩
            rw [List.take_add_one, ey, List.map_append]
            show _ = _ ++ [V.int y]
            rw [show ((y.toNat : Nat) : Int) = y by omega]
          · rintro ys H20 ⟨w1, w2, rfl⟩
            rw [hpl, List.take_length] at w2
            refine ⟨_, rfl, .list (r.map PyData.int), .list (r.map PyData.int), .lst (SqL.of w2) (dints_at r), .lst (SqL.of ((s19.trans w1) _ _ hq)) (dints_at r), dO_ok r, dO_ok r, ?_⟩
            have er : PyData.eqv (.list (r.map PyData.int)) (.list (r.map PyData.int)) = true := SeqAt.eqv_refl _ (dO_ok r).1
            rw [er]
            exact k H20
end
end BG
namespace BG
open PySem L2 SO K20
section
variable {P : Program} {w : World} {K : PySem.W.Frag} {mg : Str → Option Value} {base : Heap} 
theorem ok_all {f  fCe fPk fHi fRu fRi fBe fTw fRo fTb fAp fBg fAb fFl fLo fWh fLa fPa fEt fDu fFi : Addr} {fd  fdCe fdPk fdHi fdRu fdRi fdBe fdTw fdRo fdTb fdAp fdBg fdAb fdFl fdLo fdWh fdLa fdPa fdEt fdDu fdFi : FuncData} (F : Fun K "law" "law" sLaw f fd) (T : Txt mg)
    (FCe : Fun K "_law_cell_at" "_law_cell_at" sCe fCe fdCe) (bCe : Binds K fdCe ["_law_script", "_law_k"] []) (gCe : mg "_law_cell_at" = some (.ref fCe))
    (FPk : Fun K "_law_pick" "_law_pick" sPk fPk fdPk) (bPk : Binds K fdPk ["_law_cell", "_law_k", "_law_many"] []) (gPk : mg "_law_pick" = some (.ref fPk))
    (FHi : Fun K "_law_hidden" "_law_hidden" sHi fHi fdHi) (bHi : Binds K fdHi ["_law_cell", "_law_many", "_law_size"] []) (gHi : mg "_law_hidden" = some (.ref fHi))
    (FRu : Fun K "_law_run" "_law_run" sRu fRu fdRu) (bRu : Binds K fdRu ["_law_cell", "_law_many", "_law_longest"] []) (gRu : mg "_law_run" = some (.ref fRu))
    (FRi : Fun K "_law_right" "_law_right" sRi fRi fdRi) (bRi : Binds K fdRi ["_law_rooms", "_law_run_here"] []) (gRi : mg "_law_right" = some (.ref fRi))
    (FBe : Fun K "_law_begins" "_law_begins" sBe fBe fdBe) (bBe : Binds K fdBe ["_law_good", "_law_bad"] []) (gBe : mg "_law_begins" = some (.ref fBe))
    (FTw : Fun K "_law_two" "_law_two" sTw fTw fdTw) (bTw : Binds K fdTw ["_law_script", "_law_many", "_law_size", "_law_longest", "_law_limit"] []) (gTw : mg "_law_two" = some (.ref fTw))
    (FRo : Fun K "run_order" "run_order" sRo fRo fdRo) (bRo : Binds K fdRo ["run"] []) (gRo : mg "run_order" = some (.ref fRo))
    (FTb : Fun K "tails_behind" "tails_behind" sTb fTb fdTb) (bTb : Binds K fdTb ["head", "runs"] []) (gTb : mg "tails_behind" = some (.ref fTb))
    (FAp : Fun K "apart" "apart" sAp fAp fdAp) (bAp : Binds K fdAp ["good", "bad", "one", "other"] []) (gAp : mg "apart" = some (.ref fAp))
    (FBg : Fun K "beginnings" "beginnings" sBg fBg fdBg) (bBg : Binds K fdBg ["good", "bad"] []) (gBg : mg "beginnings" = some (.ref fBg))
    (FAb : Fun K "apart_behind" "apart_behind" sAb fAb fdAb) (bAb : Binds K fdAb ["number", "starts", "good", "bad"] []) (gAb : mg "apart_behind" = some (.ref fAb))
    (FFl : Fun K "first_lonely" "first_lonely" sFl fFl fdFl) (bFl : Binds K fdFl ["left", "near", "size"] []) (gFl : mg "first_lonely" = some (.ref fFl))
    (FLo : Fun K "lonely" "lonely" sLo fLo fdLo) (bLo : Binds K fdLo ["good", "bad", "size"] []) (gLo : mg "lonely" = some (.ref fLo))
    (FWh : Fun K "_law_whole" "_law_whole" sWh fWh fdWh) (bWh : Binds K fdWh ["_law_found"] []) (gWh : mg "_law_whole" = some (.ref fWh))
    (FLa : Fun K "_law_apart" "_law_apart" sLa fLa fdLa) (bLa : Binds K fdLa ["_law_good", "_law_bad", "_law_one", "_law_other"] []) (gLa : mg "_law_apart" = some (.ref fLa))
    (FPa : Fun K "_law_pairs" "_law_pairs" sPa fPa fdPa) (bPa : Binds K fdPa ["_law_good", "_law_bad", "_law_begins_here"] []) (gPa : mg "_law_pairs" = some (.ref fPa))
    (FEt : Fun K "_law_each_two" "_law_each_two" sEt fEt fdEt) (bEt : Binds K fdEt ["_law_row", "_law_pairs_here"] []) (gEt : mg "_law_each_two" = some (.ref fEt))
    (FDu : Fun K "_law_due" "_law_due" sDu fDu fdDu) (bDu : Binds K fdDu ["_law_begins_here", "_law_pairs_here", "_law_size"] []) (gDu : mg "_law_due" = some (.ref fDu))
    (FFi : Fun K "_law_first" "_law_first" sFi fFi fdFi) (bFi : Binds K fdFi ["_law_many", "_law_pairs_here", "_law_size", "_law_taken"] []) (gFi : mg "_law_first" = some (.ref fFi))
    : FnOk P w K mg base CX0 10 f fd ["_law_script"] (spLaw K) := by
  have GCe : FnOk P w K mg base CX0 1 fCe fdCe ["_law_script", "_law_k"] (spCe K) := ok_ce FCe T
  have GHi : FnOk P w K mg base CX0 2 fHi fdHi ["_law_cell", "_law_many", "_law_size"] spHi := ok_hi FHi T FPk bPk gPk
  have GRu : FnOk P w K mg base CX0 1 fRu fdRu ["_law_cell", "_law_many", "_law_longest"] spRu := ok_ru FRu T
  have GRi : FnOk P w K mg base CX0 1 fRi fdRi ["_law_rooms", "_law_run_here"] spRi := ok_ri FRi
  have GBe : FnOk P w K mg base CX0 1 fBe fdBe ["_law_good", "_law_bad"] spBe := ok_be FBe T
  have GTw : FnOk P w K mg base CX0 3 fTw fdTw ["_law_script", "_law_many", "_law_size", "_law_longest", "_law_limit"] (spTw K) := ok_tw FTw T FCe bCe gCe GCe FHi bHi gHi GHi FRu bRu gRu GRu FRi bRi gRi GRi FBe bBe gBe GBe
  have GAp : FnOk P w K mg base CX0 3 fAp fdAp ["good", "bad", "one", "other"] spAp := ok_ap FAp T FTb bTb gTb FRo bRo gRo
  have GBg : FnOk P w K mg base CX0 4 fBg fdBg ["good", "bad"] spBg := ok_bg FBg T FRo bRo gRo
  have GAb : FnOk P w K mg base CX0 4 fAb fdAb ["number", "starts", "good", "bad"] spAb := ok_ab FAb T FAp bAp gAp GAp
  have GFl : FnOk P w K mg base CX0 8 fFl fdFl ["left", "near", "size"] (spFl 7) := ok_fl FFl bFl gFl 7
  have GLo : FnOk P w K mg base CX0 9 fLo fdLo ["good", "bad", "size"] spLo := ok_lo FLo T FBg bBg gBg GBg FAb bAb gAb GAb FFl bFl gFl GFl
  have GWh : FnOk P w K mg base CX0 1 fWh fdWh ["_law_found"] spWh := ok_wh FWh T
  have GPa : FnOk P w K mg base CX0 2 fPa fdPa ["_law_good", "_law_bad", "_law_begins_here"] (spPa P w) := ok_pa FPa T FLa bLa gLa
  have GDu : FnOk P w K mg base CX0 2 fDu fdDu ["_law_begins_here", "_law_pairs_here", "_law_size"] (spDu P w) := ok_du FDu T FEt bEt gEt
  have GFi : FnOk P w K mg base CX0 7 fFi fdFi ["_law_many", "_law_pairs_here", "_law_size", "_law_taken"] (spFi P w 6) := ok_fi FFi T bFi gFi 6
  exact ok_law F T FCe bCe gCe GCe FTw bTw gTw GTw FBe bBe gBe GBe FPa bPa gPa GPa FLo bLo gLo GLo FFi bFi gFi GFi FDu bDu gDu GDu FWh bWh gWh GWh
end
end BG

namespace BG
open PySem L2
theorem all_mk {l : PySem.W.OpenLaw} {w : World} {K : PySem.W.Frag} {h : Heap} {mg : Str → Option Value} {fa  fCe fPk fHi fRu fRi fBe fTw fRo fTb fAp fBg fAb fFl fLo fWh fLa fPa fEt fDu fFi fZ : Addr} (X : K.In h) (G : h.Ns mainGlobals mg) (hfa : mg "law" = some (.ref fa))
    {odCe anCe odPk anPk odHi anHi odRu anRu odRi anRi odBe anBe odTw anTw odRo anRo odTb anTb odAp anAp odBg anBg odAb anAb odFl anFl odLo anLo odWh anWh odLa anLa odPa anPa odEt anEt odDu anDu odFi anFi odZ anZ : Option Addr} {slCe slPk slHi slRu slRi slBe slTw slRo slTb slAp slBg slAb slFl slLo slWh slLa slPa slEt slDu slFi slZ : Array (Option Value)} {ocCe kVCe dcCe pmCe cdCe ctCe ocPk kVPk dcPk pmPk cdPk ctPk ocHi kVHi dcHi pmHi cdHi ctHi ocRu kVRu dcRu pmRu cdRu ctRu ocRi kVRi dcRi pmRi cdRi ctRi ocBe kVBe dcBe pmBe cdBe ctBe ocTw kVTw dcTw pmTw cdTw ctTw ocRo kVRo dcRo pmRo cdRo ctRo ocTb kVTb dcTb pmTb cdTb ctTb ocAp kVAp dcAp pmAp cdAp ctAp ocBg kVBg dcBg pmBg cdBg ctBg ocAb kVAb dcAb pmAb cdAb ctAb ocFl kVFl dcFl pmFl cdFl ctFl ocLo kVLo dcLo pmLo cdLo ctLo ocWh kVWh dcWh pmWh cdWh ctWh ocLa kVLa dcLa pmLa cdLa ctLa ocPa kVPa dcPa pmPa cdPa ctPa ocEt kVEt dcEt pmEt cdEt ctEt ocDu kVDu dcDu pmDu cdDu ctDu ocFi kVFi dcFi pmFi cdFi ctFi ocZ kVZ dcZ pmZ cdZ ctZ : Value}
    (aCe : PySem.W.nsIn K mainGlobals "_law_cell_at" = some (some (.ref fCe)))
    (lCe : K.lookup fCe = some ⟨ocCe, odCe, .func (PySem.W.fnOf "_law_cell_at" "_law_cell_at" (defArgs sCe) (defBody sCe) (defScope sCe) .none kVCe dcCe pmCe anCe cdCe ctCe), slCe⟩)
    (cCe : PySem.W.codeIn K cdCe "_law_cell_at" = true)
    (kCe : PySem.W.keepIn K (.ref fCe) = true)
    (aPk : PySem.W.nsIn K mainGlobals "_law_pick" = some (some (.ref fPk)))
    (lPk : K.lookup fPk = some ⟨ocPk, odPk, .func (PySem.W.fnOf "_law_pick" "_law_pick" (defArgs sPk) (defBody sPk) (defScope sPk) .none kVPk dcPk pmPk anPk cdPk ctPk), slPk⟩)
    (cPk : PySem.W.codeIn K cdPk "_law_pick" = true)
    (kPk : PySem.W.keepIn K (.ref fPk) = true)
    (aHi : PySem.W.nsIn K mainGlobals "_law_hidden" = some (some (.ref fHi)))
    (lHi : K.lookup fHi = some ⟨ocHi, odHi, .func (PySem.W.fnOf "_law_hidden" "_law_hidden" (defArgs sHi) (defBody sHi) (defScope sHi) .none kVHi dcHi pmHi anHi cdHi ctHi), slHi⟩)
    (cHi : PySem.W.codeIn K cdHi "_law_hidden" = true)
    (kHi : PySem.W.keepIn K (.ref fHi) = true)
    (aRu : PySem.W.nsIn K mainGlobals "_law_run" = some (some (.ref fRu)))
    (lRu : K.lookup fRu = some ⟨ocRu, odRu, .func (PySem.W.fnOf "_law_run" "_law_run" (defArgs sRu) (defBody sRu) (defScope sRu) .none kVRu dcRu pmRu anRu cdRu ctRu), slRu⟩)
    (cRu : PySem.W.codeIn K cdRu "_law_run" = true)
    (kRu : PySem.W.keepIn K (.ref fRu) = true)
    (aRi : PySem.W.nsIn K mainGlobals "_law_right" = some (some (.ref fRi)))
    (lRi : K.lookup fRi = some ⟨ocRi, odRi, .func (PySem.W.fnOf "_law_right" "_law_right" (defArgs sRi) (defBody sRi) (defScope sRi) .none kVRi dcRi pmRi anRi cdRi ctRi), slRi⟩)
    (cRi : PySem.W.codeIn K cdRi "_law_right" = true)
    (kRi : PySem.W.keepIn K (.ref fRi) = true)
    (aBe : PySem.W.nsIn K mainGlobals "_law_begins" = some (some (.ref fBe)))
    (lBe : K.lookup fBe = some ⟨ocBe, odBe, .func (PySem.W.fnOf "_law_begins" "_law_begins" (defArgs sBe) (defBody sBe) (defScope sBe) .none kVBe dcBe pmBe anBe cdBe ctBe), slBe⟩)
    (cBe : PySem.W.codeIn K cdBe "_law_begins" = true)
    (kBe : PySem.W.keepIn K (.ref fBe) = true)
    (aTw : PySem.W.nsIn K mainGlobals "_law_two" = some (some (.ref fTw)))
    (lTw : K.lookup fTw = some ⟨ocTw, odTw, .func (PySem.W.fnOf "_law_two" "_law_two" (defArgs sTw) (defBody sTw) (defScope sTw) .none kVTw dcTw pmTw anTw cdTw ctTw), slTw⟩)
    (cTw : PySem.W.codeIn K cdTw "_law_two" = true)
    (kTw : PySem.W.keepIn K (.ref fTw) = true)
    (aRo : PySem.W.nsIn K mainGlobals "run_order" = some (some (.ref fRo)))
    (lRo : K.lookup fRo = some ⟨ocRo, odRo, .func (PySem.W.fnOf "run_order" "run_order" (defArgs sRo) (defBody sRo) (defScope sRo) .none kVRo dcRo pmRo anRo cdRo ctRo), slRo⟩)
    (cRo : PySem.W.codeIn K cdRo "run_order" = true)
    (kRo : PySem.W.keepIn K (.ref fRo) = true)
    (aTb : PySem.W.nsIn K mainGlobals "tails_behind" = some (some (.ref fTb)))
    (lTb : K.lookup fTb = some ⟨ocTb, odTb, .func (PySem.W.fnOf "tails_behind" "tails_behind" (defArgs sTb) (defBody sTb) (defScope sTb) .none kVTb dcTb pmTb anTb cdTb ctTb), slTb⟩)
    (cTb : PySem.W.codeIn K cdTb "tails_behind" = true)
    (kTb : PySem.W.keepIn K (.ref fTb) = true)
    (aAp : PySem.W.nsIn K mainGlobals "apart" = some (some (.ref fAp)))
    (lAp : K.lookup fAp = some ⟨ocAp, odAp, .func (PySem.W.fnOf "apart" "apart" (defArgs sAp) (defBody sAp) (defScope sAp) .none kVAp dcAp pmAp anAp cdAp ctAp), slAp⟩)
    (cAp : PySem.W.codeIn K cdAp "apart" = true)
    (kAp : PySem.W.keepIn K (.ref fAp) = true)
    (aBg : PySem.W.nsIn K mainGlobals "beginnings" = some (some (.ref fBg)))
    (lBg : K.lookup fBg = some ⟨ocBg, odBg, .func (PySem.W.fnOf "beginnings" "beginnings" (defArgs sBg) (defBody sBg) (defScope sBg) .none kVBg dcBg pmBg anBg cdBg ctBg), slBg⟩)
    (cBg : PySem.W.codeIn K cdBg "beginnings" = true)
    (kBg : PySem.W.keepIn K (.ref fBg) = true)
    (aAb : PySem.W.nsIn K mainGlobals "apart_behind" = some (some (.ref fAb)))
    (lAb : K.lookup fAb = some ⟨ocAb, odAb, .func (PySem.W.fnOf "apart_behind" "apart_behind" (defArgs sAb) (defBody sAb) (defScope sAb) .none kVAb dcAb pmAb anAb cdAb ctAb), slAb⟩)
    (cAb : PySem.W.codeIn K cdAb "apart_behind" = true)
    (kAb : PySem.W.keepIn K (.ref fAb) = true)
    (aFl : PySem.W.nsIn K mainGlobals "first_lonely" = some (some (.ref fFl)))
    (lFl : K.lookup fFl = some ⟨ocFl, odFl, .func (PySem.W.fnOf "first_lonely" "first_lonely" (defArgs sFl) (defBody sFl) (defScope sFl) .none kVFl dcFl pmFl anFl cdFl ctFl), slFl⟩)
    (cFl : PySem.W.codeIn K cdFl "first_lonely" = true)
    (kFl : PySem.W.keepIn K (.ref fFl) = true)
    (aLo : PySem.W.nsIn K mainGlobals "lonely" = some (some (.ref fLo)))
    (lLo : K.lookup fLo = some ⟨ocLo, odLo, .func (PySem.W.fnOf "lonely" "lonely" (defArgs sLo) (defBody sLo) (defScope sLo) .none kVLo dcLo pmLo anLo cdLo ctLo), slLo⟩)
    (cLo : PySem.W.codeIn K cdLo "lonely" = true)
    (kLo : PySem.W.keepIn K (.ref fLo) = true)
    (aWh : PySem.W.nsIn K mainGlobals "_law_whole" = some (some (.ref fWh)))
    (lWh : K.lookup fWh = some ⟨ocWh, odWh, .func (PySem.W.fnOf "_law_whole" "_law_whole" (defArgs sWh) (defBody sWh) (defScope sWh) .none kVWh dcWh pmWh anWh cdWh ctWh), slWh⟩)
    (cWh : PySem.W.codeIn K cdWh "_law_whole" = true)
    (kWh : PySem.W.keepIn K (.ref fWh) = true)
    (aLa : PySem.W.nsIn K mainGlobals "_law_apart" = some (some (.ref fLa)))
    (lLa : K.lookup fLa = some ⟨ocLa, odLa, .func (PySem.W.fnOf "_law_apart" "_law_apart" (defArgs sLa) (defBody sLa) (defScope sLa) .none kVLa dcLa pmLa anLa cdLa ctLa), slLa⟩)
    (cLa : PySem.W.codeIn K cdLa "_law_apart" = true)
    (kLa : PySem.W.keepIn K (.ref fLa) = true)
    (aPa : PySem.W.nsIn K mainGlobals "_law_pairs" = some (some (.ref fPa)))
    (lPa : K.lookup fPa = some ⟨ocPa, odPa, .func (PySem.W.fnOf "_law_pairs" "_law_pairs" (defArgs sPa) (defBody sPa) (defScope sPa) .none kVPa dcPa pmPa anPa cdPa ctPa), slPa⟩)
    (cPa : PySem.W.codeIn K cdPa "_law_pairs" = true)
    (kPa : PySem.W.keepIn K (.ref fPa) = true)
    (aEt : PySem.W.nsIn K mainGlobals "_law_each_two" = some (some (.ref fEt)))
    (lEt : K.lookup fEt = some ⟨ocEt, odEt, .func (PySem.W.fnOf "_law_each_two" "_law_each_two" (defArgs sEt) (defBody sEt) (defScope sEt) .none kVEt dcEt pmEt anEt cdEt ctEt), slEt⟩)
    (cEt : PySem.W.codeIn K cdEt "_law_each_two" = true)
    (kEt : PySem.W.keepIn K (.ref fEt) = true)
    (aDu : PySem.W.nsIn K mainGlobals "_law_due" = some (some (.ref fDu)))
    (lDu : K.lookup fDu = some ⟨ocDu, odDu, .func (PySem.W.fnOf "_law_due" "_law_due" (defArgs sDu) (defBody sDu) (defScope sDu) .none kVDu dcDu pmDu anDu cdDu ctDu), slDu⟩)
    (cDu : PySem.W.codeIn K cdDu "_law_due" = true)
    (kDu : PySem.W.keepIn K (.ref fDu) = true)
    (aFi : PySem.W.nsIn K mainGlobals "_law_first" = some (some (.ref fFi)))
    (lFi : K.lookup fFi = some ⟨ocFi, odFi, .func (PySem.W.fnOf "_law_first" "_law_first" (defArgs sFi) (defBody sFi) (defScope sFi) .none kVFi dcFi pmFi anFi cdFi ctFi), slFi⟩)
    (cFi : PySem.W.codeIn K cdFi "_law_first" = true)
    (kFi : PySem.W.keepIn K (.ref fFi) = true)
    (aZ : PySem.W.nsIn K mainGlobals "law" = some (some (.ref fZ)))
    (lZ : K.lookup fZ = some ⟨ocZ, odZ, .func (PySem.W.fnOf "law" "law" (defArgs sLaw) (defBody sLaw) (defScope sLaw) .none kVZ dcZ pmZ anZ cdZ ctZ), slZ⟩)
    (cZ : PySem.W.codeIn K cdZ "law" = true)
    (kZ : PySem.W.keepIn K (.ref fZ) = true)
    (zlen : PySem.W.nsIn K mainGlobals "len" = some none)
    (zrange : PySem.W.nsIn K mainGlobals "range" = some none)
    (ztuple : PySem.W.nsIn K mainGlobals "tuple" = some none)
    (zlist : PySem.W.nsIn K mainGlobals "list" = some none)
    (zsorted : PySem.W.nsIn K mainGlobals "sorted" = some none)
    (zisin : PySem.W.nsIn K mainGlobals "isinstance" = some none)
    (zint : PySem.W.nsIn K mainGlobals "int" = some none)
    (zbool : PySem.W.nsIn K mainGlobals "bool" = some none)
    (zmax : PySem.W.nsIn K mainGlobals "max" = some none)
    (zmin : PySem.W.nsIn K mainGlobals "min" = some none)
    : ∃ fd : FuncData, (∀ (s : Shared) (v : Value), BindsTo s fd ⟨[v], []⟩ [("_law_script", v)]) ∧ ∀ base : Heap, K.In base → base.Ns mainGlobals mg → FnOk l.prog w K mg base CX0 10 fa fd ["_law_script"] (spLaw K) := by
  have e := hfa.symm.trans (PySem.W.mg_of X G aZ)
  cases e
  have T : Txt mg := ⟨PySem.W.mg_none_of X G zlen, PySem.W.mg_none_of X G zrange, PySem.W.mg_none_of X G ztuple, PySem.W.mg_none_of X G zlist, PySem.W.mg_none_of X G zsorted, PySem.W.mg_none_of X G zisin, PySem.W.mg_none_of X G zint, PySem.W.mg_none_of X G zbool, PySem.W.mg_none_of X G zmax, PySem.W.mg_none_of X G zmin⟩
  have FCe := fun_mk (st := sCe) lCe cCe kCe
  have bCe := FCe.binds (ps := ["_law_script", "_law_k"]) fun _ _ _ _ _ _ us hl => match us, hl with | [_, _], _ => rfl
  have FPk := fun_mk (st := sPk) lPk cPk kPk
  have bPk := FPk.binds (ps := ["_law_cell", "_law_k", "_law_many"]) fun _ _ _ _ _ _ us hl => match us, hl with | [_, _, _], _ => rfl
  have FHi := fun_mk (st := sHi) lHi cHi kHi
  have bHi := FHi.binds (ps := ["_law_cell", "_law_many", "_law_size"]) fun _ _ _ _ _ _ us hl => match us, hl with | [_, _, _], _ => rfl
  have FRu := fun_mk (st := sRu) lRu cRu kRu
  have bRu := FRu.binds (ps := ["_law_cell", "_law_many", "_law_longest"]) fun _ _ _ _ _ _ us hl => match us, hl with | [_, _, _], _ => rfl
  have FRi := fun_mk (st := sRi) lRi cRi kRi
  have bRi := FRi.binds (ps := ["_law_rooms", "_law_run_here"]) fun _ _ _ _ _ _ us hl => match us, hl with | [_, _], _ => rfl
  have FBe := fun_mk (st := sBe) lBe cBe kBe
  have bBe := FBe.binds (ps := ["_law_good", "_law_bad"]) fun _ _ _ _ _ _ us hl => match us, hl with | [_, _], _ => rfl
  have FTw := fun_mk (st := sTw) lTw cTw kTw
  have bTw := FTw.binds (ps := ["_law_script", "_law_many", "_law_size", "_law_longest", "_law_limit"]) fun _ _ _ _ _ _ us hl => match us, hl with | [_, _, _, _, _], _ => rfl
  have FRo := fun_mk (st := sRo) lRo cRo kRo
  have bRo := FRo.binds (ps := ["run"]) fun _ _ _ _ _ _ us hl => match us, hl with | [_], _ => rfl
  have FTb := fun_mk (st := sTb) lTb cTb kTb
  have bTb := FTb.binds (ps := ["head", "runs"]) fun _ _ _ _ _ _ us hl => match us, hl with | [_, _], _ => rfl
  have FAp := fun_mk (st := sAp) lAp cAp kAp
  have bAp := FAp.binds (ps := ["good", "bad", "one", "other"]) fun _ _ _ _ _ _ us hl => match us, hl with | [_, _, _, _], _ => rfl
  have FBg := fun_mk (st := sBg) lBg cBg kBg
  have bBg := FBg.binds (ps := ["good", "bad"]) fun _ _ _ _ _ _ us hl => match us, hl with | [_, _], _ => rfl
  have FAb := fun_mk (st := sAb) lAb cAb kAb
  have bAb := FAb.binds (ps := ["number", "starts", "good", "bad"]) fun _ _ _ _ _ _ us hl => match us, hl with | [_, _, _, _], _ => rfl
  have FFl := fun_mk (st := sFl) lFl cFl kFl
  have bFl := FFl.binds (ps := ["left", "near", "size"]) fun _ _ _ _ _ _ us hl => match us, hl with | [_, _, _], _ => rfl
  have FLo := fun_mk (st := sLo) lLo cLo kLo
  have bLo := FLo.binds (ps := ["good", "bad", "size"]) fun _ _ _ _ _ _ us hl => match us, hl with | [_, _, _], _ => rfl
  have FWh := fun_mk (st := sWh) lWh cWh kWh
  have bWh := FWh.binds (ps := ["_law_found"]) fun _ _ _ _ _ _ us hl => match us, hl with | [_], _ => rfl
  have FLa := fun_mk (st := sLa) lLa cLa kLa
  have bLa := FLa.binds (ps := ["_law_good", "_law_bad", "_law_one", "_law_other"]) fun _ _ _ _ _ _ us hl => match us, hl with | [_, _, _, _], _ => rfl
  have FPa := fun_mk (st := sPa) lPa cPa kPa
  have bPa := FPa.binds (ps := ["_law_good", "_law_bad", "_law_begins_here"]) fun _ _ _ _ _ _ us hl => match us, hl with | [_, _, _], _ => rfl
  have FEt := fun_mk (st := sEt) lEt cEt kEt
  have bEt := FEt.binds (ps := ["_law_row", "_law_pairs_here"]) fun _ _ _ _ _ _ us hl => match us, hl with | [_, _], _ => rfl
  have FDu := fun_mk (st := sDu) lDu cDu kDu
  have bDu := FDu.binds (ps := ["_law_begins_here", "_law_pairs_here", "_law_size"]) fun _ _ _ _ _ _ us hl => match us, hl with | [_, _, _], _ => rfl
  have FFi := fun_mk (st := sFi) lFi cFi kFi
  have bFi := FFi.binds (ps := ["_law_many", "_law_pairs_here", "_law_size", "_law_taken"]) fun _ _ _ _ _ _ us hl => match us, hl with | [_, _, _, _], _ => rfl
  have FZ := fun_mk (st := sLaw) lZ cZ kZ
  have gCe := PySem.W.mg_of X G aCe
  have gPk := PySem.W.mg_of X G aPk
  have gHi := PySem.W.mg_of X G aHi
  have gRu := PySem.W.mg_of X G aRu
  have gRi := PySem.W.mg_of X G aRi
  have gBe := PySem.W.mg_of X G aBe
  have gTw := PySem.W.mg_of X G aTw
  have gRo := PySem.W.mg_of X G aRo
  have gTb := PySem.W.mg_of X G aTb
  have gAp := PySem.W.mg_of X G aAp
  have gBg := PySem.W.mg_of X G aBg
  have gAb := PySem.W.mg_of X G aAb
  have gFl := PySem.W.mg_of X G aFl
  have gLo := PySem.W.mg_of X G aLo
  have gWh := PySem.W.mg_of X G aWh
  have gLa := PySem.W.mg_of X G aLa
  have gPa := PySem.W.mg_of X G aPa
  have gEt := PySem.W.mg_of X G aEt
  have gDu := PySem.W.mg_of X G aDu
  have gFi := PySem.W.mg_of X G aFi
  exact ⟨PySem.W.fnOf "law" "law" (defArgs sLaw) (defBody sLaw) (defScope sLaw) .none kVZ dcZ pmZ anZ cdZ ctZ, fun s v => .of_eq rfl, fun base _ _ => ok_all FZ T  FCe bCe gCe FPk bPk gPk FHi bHi gHi FRu bRu gRu FRi bRi gRi FBe bBe gBe FTw bTw gTw FRo bRo gRo FTb bTb gTb FAp bAp gAp FBg bBg gBg FAb bAb gAb FFl bFl gFl FLo bLo gLo FWh bWh gWh FLa bLa gLa FPa bPa gPa FEt bEt gEt FDu bDu gDu FFi bFi gFi⟩
theorem walk {l : PySem.W.OpenLaw} {q : Program} {loose : List Str} {XP : (Str → Option Value) → Heap → Prop} {YP : World → Heap → Prop} {d : DefRec} {K : Params → PySem.W.Frag} (hn : l.most = some 63) (hdf : d.params.defaults = [])
    (hY : ∀ (w : World) (h : Heap), YP w h → (K w.params).In h)
    (F : ∀ (w : World) (mg : Str → Option Value) (fa : Addr) (h : Heap), (K w.params).In h → h.Ns mainGlobals mg → mg d.name = some (.ref fa) →
      ∃ fd : FuncData, (∀ (s : Shared) (u : Value), BindsTo s fd ⟨[u], []⟩ [("_law_script", u)]) ∧ ∀ base : Heap, (K w.params).In base → base.Ns mainGlobals mg → FnOk l.prog w (K w.params) mg base CX0 10 fa fd ["_law_script"] (spLaw (K w.params))) :
    PySem.W.WalkO q loose XP YP l.row.toRowW d [] (fun f vs => PySem.call f vs) :=
  L2.walk_of (n := 63) (k := 10) (x := "_law_script") (CX := fun _ => CX0) (sp := fun w => spLaw (K w.params)) hn (by decide) hdf ⟨rfl, by decide, by decide⟩ hY F (fun _ _ a ns hl _ hS => ⟨a, ns, rfl, hS, hl, fun _ => rfl⟩) fun _ _ _ _ _ z => z
end BG
open PySem PySem.W PyProof.Rows
set_option maxRecDepth 100000 in
set_option maxHeartbeats 0 in
theorem PySem.Challenge.cw_logloom_k42_lonely_holds : PySem.Challenge.rw_logloom_k42_lonely.Holds := by
  w_on; o_law
  refine PySem.W.holds_open (q := BG.hQ) (loose := []) (Xt := BG.hX)
    (XP := PySem.W.XL BG.hQ [])
    (Yf := (PySem.W.kHook BG.hK BG.hA BG.hE).obs) (Ya := (PySem.W.kHook BG.hK BG.hA BG.hE).val)
    (YP := (PySem.W.kHook BG.hK BG.hA BG.hE).says)
    (N := 1432) BG.hL (PySem.W.kHook BG.hK BG.hA BG.hE).of (PySem.W.kHook BG.hK BG.hA BG.hE).keeps
    (fun s e => PySem.W.xl_of s (Bool.and_eq_true_iff.mp e).1) PySem.W.XL.keeps
    rfl rfl rfl
    (fun s e => PySem.W.recFacts_of (Bool.and_eq_true_iff.mp e).2)
    rfl (by first | assumption | decide +kernel) (by decide +kernel)
    ⟨rfl, rfl, rfl, rfl, rfl, by decide +kernel⟩ ?hw ?hc
  case hw => w_witness2
  k_fill
  refine BG.walk (l := PySem.Challenge.rw_logloom_k42_lonely) rfl rfl (fun w h Y => PySem.W.kIn_of Y) ?F
  case F =>
    intro w mg fa h KX G hmg
    refine' BG.all_mk KX G hmg ?aCe ?lCe ?cCe ?kCe ?aPk ?lPk ?cPk ?kPk ?aHi ?lHi ?cHi ?kHi ?aRu ?lRu ?cRu ?kRu ?aRi ?lRi ?cRi ?kRi ?aBe ?lBe ?cBe ?kBe ?aTw ?lTw ?cTw ?kTw ?aRo ?lRo ?cRo ?kRo ?aTb ?lTb ?cTb ?kTb ?aAp ?lAp ?cAp ?kAp ?aBg ?lBg ?cBg ?kBg ?aAb ?lAb ?cAb ?kAb ?aFl ?lFl ?cFl ?kFl ?aLo ?lLo ?cLo ?kLo ?aWh ?lWh ?cWh ?kWh ?aLa ?lLa ?cLa ?kLa ?aPa ?lPa ?cPa ?kPa ?aEt ?lEt ?cEt ?kEt ?aDu ?lDu ?cDu ?kDu ?aFi ?lFi ?cFi ?kFi ?aZ ?lZ ?cZ ?kZ ?zlen ?zrange ?ztuple ?zlist ?zsorted ?zisin ?zint ?zbool ?zmax ?zmin
    (case aCe => k_is)
    (case lCe => k_is)
    (case cCe => k_is)
    (case kCe => k_is)
    (case aPk => k_is)
    (case lPk => k_is)
    (case cPk => k_is)
    (case kPk => k_is)
    (case aHi => k_is)
    (case lHi => k_is)
    (case cHi => k_is)
    (case kHi => k_is)
    (case aRu => k_is)
    (case lRu => k_is)
    (case cRu => k_is)
    (case kRu => k_is)
    (case aRi => k_is)
    (case lRi => k_is)
    (case cRi => k_is)
    (case kRi => k_is)
    (case aBe => k_is)
    (case lBe => k_is)
    (case cBe => k_is)
    (case kBe => k_is)
    (case aTw => k_is)
    (case lTw => k_is)
    (case cTw => k_is)
    (case kTw => k_is)
    (case aRo => k_is)
    (case lRo => k_is)
    (case cRo => k_is)
    (case kRo => k_is)
    (case aTb => k_is)
    (case lTb => k_is)
    (case cTb => k_is)
    (case kTb => k_is)
    (case aAp => k_is)
    (case lAp => k_is)
    (case cAp => k_is)
    (case kAp => k_is)
    (case aBg => k_is)
    (case lBg => k_is)
    (case cBg => k_is)
    (case kBg => k_is)
    (case aAb => k_is)
    (case lAb => k_is)
    (case cAb => k_is)
    (case kAb => k_is)
    (case aFl => k_is)
    (case lFl => k_is)
    (case cFl => k_is)
    (case kFl => k_is)
    (case aLo => k_is)
    (case lLo => k_is)
    (case cLo => k_is)
    (case kLo => k_is)
    (case aWh => k_is)
    (case lWh => k_is)
    (case cWh => k_is)
    (case kWh => k_is)
    (case aLa => k_is)
    (case lLa => k_is)
    (case cLa => k_is)
    (case kLa => k_is)
    (case aPa => k_is)
    (case lPa => k_is)
    (case cPa => k_is)
    (case kPa => k_is)
    (case aEt => k_is)
    (case lEt => k_is)
    (case cEt => k_is)
    (case kEt => k_is)
    (case aDu => k_is)
    (case lDu => k_is)
    (case cDu => k_is)
    (case kDu => k_is)
    (case aFi => k_is)
    (case lFi => k_is)
    (case cFi => k_is)
    (case kFi => k_is)
    (case aZ => k_is)
    (case lZ => k_is)
    (case cZ => k_is)
    (case kZ => k_is)
    (case zlen => k_is)
    (case zrange => k_is)
    (case ztuple => k_is)
    (case zlist => k_is)
    (case zsorted => k_is)
    (case zisin => k_is)
    (case zint => k_is)
    (case zbool => k_is)
    (case zmax => k_is)
    (case zmin => k_is)

