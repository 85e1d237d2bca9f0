import PyProof.Rows.All
import Wide.All
import OpenK.AllK
import Wide.FinOn
import Lean
import PyProof.EqAt
import PyProof.EqKinds
import PyProof.TupleCall
import PySem.Challenge.RW_logloom_k62_whole_first_odd_stretch
set_option Elab.async false
set_option linter.all false
set_option maxRecDepth 100000
/-! the run of the top over a tree of objects, by the library's faster forms, in one kernel run -/
namespace HT
open PySem PySem.W
abbrev annR : Option Value := some (.ref 6)
noncomputable abbrev okQ : Thread → Bool := Fast.tw6613529449190102663 11 annR
noncomputable abbrev stQ (p : Program) (w : World) : SharedT → Thread → Option (SharedT × Thread) :=
  Fast.tw10156331382660048174 (Fast.tw11892475500146522536 Fast.tw14364793385576792824) p w
noncomputable def runQ (p : Program) (w : World) : Nat → SharedT → Thread → Option SharedT
  | 0, _, _ => none
  | fuel + 1, a, th => @Bool.rec (fun _ => Option SharedT)
      (@Bool.rec (fun _ => Option SharedT) none (@Option.rec (SharedT × Thread) (fun _ => Option SharedT) none (fun r => runQ p w fuel r.1 r.2) (stQ p w a th)) (okQ th))
      (some a) (through th)
theorem okQ_is (th : Thread) : okQ th = stepOk 11 annR th := by
  show Fast.tw6613529449190102663 11 annR th = _
  rw [← Fast.te6613529449190102663]
theorem stQ_is (p : Program) (w : World) (a : SharedT) (th : Thread) : stQ p w a th = stepT (denote treeTable) p w a th := by
  show Fast.tw10156331382660048174 (Fast.tw11892475500146522536 Fast.tw14364793385576792824) p w a th = _
  rw [← Fast.te10156331382660048174, ← Fast.te11892475500146522536, ← Fast.te14364793385576792824]
theorem runQ_top {p : Program} {w : World} : ∀ (fuel : Nat) (a b : SharedT) (th : Thread),
    runQ p w fuel a th = some b → topRun treeTable p w 11 annR fuel a.abs th = some b.abs
  | 0, _, _, _, e => by cases e
  | fuel + 1, a, b, th, e => by
    unfold runQ at e
    unfold topRun
    rw [okQ_is, stQ_is] at e
    cases e1 : through th
    · rw [e1] at e
      cases e2 : stepOk 11 annR th
      · rw [e2] at e; cases e
      · rw [e2] at e
        cases e3 : stepT (denote treeTable) p w a th with
        | none => rw [e3] at e; cases e
        | some r =>
          rw [e3] at e
          have e4 := stepT_spec (s' := r.1) (t' := r.2) e3
          rw [e4]
          exact runQ_top fuel r.1 b r.2 e
    · rw [e1] at e
      have : a = b := Option.some.inj e
      rw [this]
noncomputable def bT (P : Params) : BT :=
  .node (boot_o_0 P)
    (.node (boot_o_1 P) (.node (boot_o_3 P) (.node (boot_o_7 P) .nil .nil) .nil) (.node (boot_o_5 P) (.node (boot_o_9 P) .nil .nil) .nil))
    (.node (boot_o_2 P) (.node (boot_o_4 P) (.node (boot_o_8 P) .nil .nil) .nil) (.node (boot_o_6 P) (.node (boot_o_10 P) .nil .nil) .nil))
theorem bT_boot : ∀ P, boot_heap P = absHeap (bT P) 11 {} := fun P => by kernel_rfl
noncomputable abbrev at0 (w : World) (os : OsState) : SharedT := ⟨bT w.params, 11, {}, Array.mk [], boot_drawn, boot_toks, os⟩
theorem at0_abs (w : World) (os : OsState) : (at0 w os).abs = ⟨boot_heap w.params, Array.mk [], boot_drawn, boot_toks, os⟩ := by
  rw [bT_boot]; rfl
theorem boot_looks : ∀ P : Params, (((boot_heap P).isNs mainGlobals && (#[] : Array GenState).size == 0) = true ∧ (boot_heap P).objs.size = 11) ∧
    (boot_heap P).nsMap mainGlobals "__annotations__" = annR := fun P => ⟨⟨by kernel_rfl, by kernel_rfl⟩, by kernel_rfl⟩
/-- what is looked at behind the top, ahead of the views -/
noncomputable abbrev kept (p : Program) (P : Params) (b : Shared) : Bool :=
  staticsOk (importedModules p.main.body) (boot_heap P) b.heap && namesBound p b.heap && gensDone b && laidKept (boot_heap P) b.heap
/-- the head out of one kernel run -/
theorem left1 {p q : Program} {loose : List Str} {Xt : Shared → Bool} {α : Type} {Yf : Shared → α} {Ya : World → α} {N : Nat} {g0 : Bool}
    (e : opening p = plainProg p.main.scope.names) (hN : Nat.ble 600 N = true) (f : ∀ s, fenceModules? p s = some s)
    (run : ∀ (w : World) (os : OsState), (runQ p w N (at0 w os) (topStub p)).map (fun b =>
      (kept p w.params b.abs, Fast.tw4187177175401517315 q loose (importedModules p.main.body) Xt g0 b.abs, Yf b.abs)) = some (true, openGood q loose, Ya w)) :
    LeftO p q loose Xt Yf Ya N g0 := by
  intro w
  obtain ⟨⟨hp, gs, d, k, os⟩, o1, o2⟩ := Option.map_eq_some_iff.mp (boot_open e hN f w)
  obtain ⟨rfl, rfl, rfl, rfl⟩ : hp = boot_heap w.params ∧ gs = Array.mk [] ∧ d = boot_drawn ∧ k = boot_toks := by
    simpa using o2
  obtain ⟨⟨z1, z2⟩, z3⟩ := boot_looks w.params
  have r := run w os
  rw [← Fast.te4187177175401517315] at r
  obtain ⟨b, r1, r2⟩ := Option.map_eq_some_iff.mp r
  rw [Prod.mk.injEq, Prod.mk.injEq] at r2
  have r3 := runQ_top N _ b _ r1
  rw [at0_abs] at r3
  have r4 : topFrom treeTable p w N ⟨boot_heap w.params, Array.mk [], boot_drawn, boot_toks, os⟩ = some b.abs := by
    have k1 : kept p w.params b.abs = true := r2.1
    unfold kept at k1
    unfold topFrom
    simp only [z1, z2, z3, r3, Option.bind_some, k1]
  have r5 : openEnds treeTable p w N = some b.abs := by
    unfold openEnds
    simp only [o1, Option.bind_some, r4]
  rw [r5]
  exact congrArg some (by rw [← r2.2.1, ← r2.2.2])
end HT
namespace L2
open PySem
def defArgs (s : Stmt) : Arguments := match s with
  | .FunctionDef _ a _ _ _ _ _ _ _ _ => a
  | _ => { posonlyargs := [], args := [], vararg := none, kwonlyargs := [], kw_defaults := [], kwarg := none, defaults := [] }
def defBody (s : Stmt) : List Stmt := match s with
  | .FunctionDef _ _ b _ _ _ _ _ _ _ => b
  | _ => []
def defScope (s : Stmt) : Scope := match s with
  | .FunctionDef _ _ _ _ _ _ sc _ _ _ => sc
  | _ => { kind := .function, names := [], isGenerator := false, isCoroutine := false }
end L2
namespace K21
open PySem L2
def top (i : Nat) : Stmt := PySem.Challenge.pw_logloom_k62_whole_first_odd_stretch.main.body.getD i (.Pass ⟨0, 0, 0, 0⟩)
abbrev sRB : Stmt := top 1
abbrev sLB : Stmt := top 2
abbrev sWy : Stmt := top 3
abbrev sLI : Stmt := top 5
abbrev sRG : Stmt := top 6
abbrev sUs : Stmt := top 7
abbrev sOn : Stmt := top 9
abbrev sLo : Stmt := top 10
abbrev sSz : Stmt := top 11
abbrev sOd : Stmt := top 12
abbrev sWh : Stmt := top 14
abbrev sCe : Stmt := top 15
abbrev sMa : Stmt := top 16
abbrev sBh : Stmt := top 17
abbrev sRu : Stmt := top 18
abbrev sRo : Stmt := top 19
abbrev sTh : Stmt := top 20
abbrev sSs : Stmt := top 21
abbrev sDu : Stmt := top 22
abbrev sLaw : Stmt := top 23
abbrev cMod : Int := 3
abbrev pBh : List Str := ["_law_machine_here", "_law_room_here"]
abbrev nBh : List Str := ["_law_machine_here", "_law_room_here", "_law_found", "_law_at", "_law_there_here"]
structure Txt (mg : Str → Option Value) : Prop where
  len : mg "len" = none
  range : mg "range" = none
  tuple : mg "tuple" = none
  isin : mg "isinstance" = none
  int : mg "int" = none
  bool : mg "bool" = none
  enum : mg "enumerate" = none
  max : mg "max" = none
  min : mg "min" = none
  sorted : mg "sorted" = none
  set : mg "set" = none
  any : mg "any" = none
end K21
namespace K21
open PySem L2
def hK : PySem.Params → PySem.W.Frag := fun P =>
  (nat_lit 2, ({ cls := Value.none, data := Data.dict #[] } : Obj)) ::
  (nat_lit 3, ({ cls := Value.type "dict", data := Data.dict #[{ hash := PyData.keyHash P (Str.ofString "__name__"), key := Value.str (Str.ofString "__name__") 165, val := Value.str (Str.ofString "law_logloom_k62_whole_first_odd_stretch") 281 }, { hash := PyData.keyHash P (Str.ofString "__doc__"), key := Value.str (Str.ofString "__doc__") 166, val := Value.none }, { hash := PyData.keyHash P (Str.ofString "__package__"), key := Value.str (Str.ofString "__package__") 167, val := Value.none }, { hash := PyData.keyHash P (Str.ofString "__loader__"), key := Value.str (Str.ofString "__loader__") 168, val := Value.builtin "__main__.__loader__#opaque" }, { hash := PyData.keyHash P (Str.ofString "__spec__"), key := Value.str (Str.ofString "__spec__") 169, val := Value.none }, { hash := PyData.keyHash P (Str.ofString "__annotations__"), key := Value.str (Str.ofString "__annotations__") 170, val := Value.ref 6 }, { hash := PyData.keyHash P (Str.ofString "__builtins__"), key := Value.str (Str.ofString "__builtins__") 171, val := Value.ref 4 }, { hash := PyData.keyHash P (Str.ofString "__file__"), key := Value.str (Str.ofString "__file__") 173, val := Value.str (Str.ofString "/claim/cut.py") 172 }, { hash := PyData.keyHash P (Str.ofString "__cached__"), key := Value.str (Str.ofString "__cached__") 174, val := Value.none }, { hash := PyData.keyHash P (Str.ofString "room_behind"), key := Value.str (Str.ofString "room_behind") 200, val := Value.ref 21 }, { hash := PyData.keyHash P (Str.ofString "lets_by"), key := Value.str (Str.ofString "lets_by") 208, val := Value.ref 28 }, { hash := PyData.keyHash P (Str.ofString "ways"), key := Value.str (Str.ofString "ways") 223, val := Value.ref 35 }, { hash := PyData.keyHash P (Str.ofString "letter_into"), key := Value.str (Str.ofString "letter_into") 235, val := Value.ref 42 }, { hash := PyData.keyHash P (Str.ofString "runs_to_good"), key := Value.str (Str.ofString "runs_to_good") 248, val := Value.ref 49 }, { hash := PyData.keyHash P (Str.ofString "useful"), key := Value.str (Str.ofString "useful") 254, val := Value.ref 54 }, { hash := PyData.keyHash P (Str.ofString "rooms_on"), key := Value.str (Str.ofString "rooms_on") 262, val := Value.ref 59 }, { hash := PyData.keyHash P (Str.ofString "least_odd"), key := Value.str (Str.ofString "least_odd") 268, val := Value.ref 64 }, { hash := PyData.keyHash P (Str.ofString "size_of"), key := Value.str (Str.ofString "size_of") 274, val := Value.ref 69 }, { hash := PyData.keyHash P (Str.ofString "odd"), key := Value.str (Str.ofString "odd") 280, val := Value.ref 74 }, { hash := PyData.keyHash P (Str.ofString "_law_whole"), key := Value.str (Str.ofString "_law_whole") 289, val := Value.ref 81 }, { hash := PyData.keyHash P (Str.ofString "_law_cell_at"), key := Value.str (Str.ofString "_law_cell_at") 297, val := Value.ref 88 }, { hash := PyData.keyHash P (Str.ofString "_law_machine"), key := Value.str (Str.ofString "_law_machine") 303, val := Value.ref 93 }, { hash := PyData.keyHash P (Str.ofString "_law_behind"), key := Value.str (Str.ofString "_law_behind") 314, val := Value.ref 100 }, { hash := PyData.keyHash P (Str.ofString "_law_run"), key := Value.str (Str.ofString "_law_run") 326, val := Value.ref 107 }, { hash := PyData.keyHash P (Str.ofString "_law_room"), key := Value.str (Str.ofString "_law_room") 336, val := Value.ref 114 }, { hash := PyData.keyHash P (Str.ofString "_law_there"), key := Value.str (Str.ofString "_law_there") 342, val := Value.ref 119 }, { hash := PyData.keyHash P (Str.ofString "_law_stretches"), key := Value.str (Str.ofString "_law_stretches") 354, val := Value.ref 126 }, { hash := PyData.keyHash P (Str.ofString "_law_due"), key := Value.str (Str.ofString "_law_due") 367, val := Value.ref 133 }, { hash := PyData.keyHash P (Str.ofString "law"), key := Value.str (Str.ofString "law") 380, val := Value.ref 140 }] 29 } : Obj)) ::
  (nat_lit 15, ({ cls := Value.type "tuple", data := Data.seq #[] } : Obj)) ::
  (nat_lit 17, ({ cls := Value.type "tuple", data := Data.seq #[Value.str (Str.ofString "machine") 192, Value.str (Str.ofString "room") 193, Value.str (Str.ofString "run") 194, Value.str (Str.ofString "rooms") 195, Value.str (Str.ofString "here") 196, Value.str (Str.ofString "letter") 197] } : Obj)) ::
  (nat_lit 18, ({ cls := Value.type "tuple", data := Data.seq #[] } : Obj)) ::
  (nat_lit 20, ({ cls := Value.type "code", data := Data.fields #[Value.str (Str.ofString "room_behind") 189, Value.str (Str.ofString "room_behind") 190, Value.str (Str.ofString "/claim/cut.py") 191, Value.int 2 0, Value.int 3 0, Value.int 0 0, Value.int 0 0, Value.int 3 0, Value.ref 15, Value.bool true, Value.int 181 0, Value.ref 16, Value.none, Value.ref 17, Value.ref 18, Value.ref 19, Value.int 198 0, Value.int 2 0, Value.str (Str.ofString "/claim/cut.py") 199] } : Obj)) ::
  (nat_lit 21, (⟨(Value.type "function"), (none), .func (PySem.W.fnOf (Str.ofString "room_behind") (Str.ofString "room_behind") (defArgs (top 1)) (defBody (top 1)) (defScope (top 1)) (Value.none) (Value.none) (Value.none) (Value.str (Str.ofString "logloom.machines") 187) (none) (Value.ref 20) (Value.none)), (#[])⟩ : Obj)) ::
  (nat_lit 22, ({ cls := Value.type "tuple", data := Data.seq #[] } : Obj)) ::
  (nat_lit 24, ({ cls := Value.type "tuple", data := Data.seq #[Value.str (Str.ofString "machine") 204, Value.str (Str.ofString "run") 205] } : Obj)) ::
  (nat_lit 25, ({ cls := Value.type "tuple", data := Data.seq #[] } : Obj)) ::
  (nat_lit 27, ({ cls := Value.type "code", data := Data.fields #[Value.str (Str.ofString "lets_by") 201, Value.str (Str.ofString "lets_by") 202, Value.str (Str.ofString "/claim/cut.py") 203, Value.int 8 0, Value.int 2 0, Value.int 0 0, Value.int 0 0, Value.int 3 0, Value.ref 22, Value.bool true, Value.int 181 0, Value.ref 23, Value.none, Value.ref 24, Value.ref 25, Value.ref 26, Value.int 206 0, Value.int 8 0, Value.str (Str.ofString "/claim/cut.py") 207] } : Obj)) ::
  (nat_lit 28, (⟨(Value.type "function"), (none), .func (PySem.W.fnOf (Str.ofString "lets_by") (Str.ofString "lets_by") (defArgs (top 2)) (defBody (top 2)) (defScope (top 2)) (Value.none) (Value.none) (Value.none) (Value.str (Str.ofString "logloom.machines") 187) (none) (Value.ref 27) (Value.none)), (#[])⟩ : Obj)) ::
  (nat_lit 29, ({ cls := Value.type "tuple", data := Data.seq #[] } : Obj)) ::
  (nat_lit 31, ({ cls := Value.type "tuple", data := Data.seq #[Value.str (Str.ofString "machine") 212, Value.str (Str.ofString "rooms") 213, Value.str (Str.ofString "found") 214, Value.str (Str.ofString "met") 215, Value.str (Str.ofString "done") 216, Value.str (Str.ofString "here") 217, Value.str (Str.ofString "way") 218, Value.str (Str.ofString "letter") 219, Value.str (Str.ofString "room") 220] } : Obj)) ::
  (nat_lit 32, ({ cls := Value.type "tuple", data := Data.seq #[] } : Obj)) ::
  (nat_lit 34, ({ cls := Value.type "code", data := Data.fields #[Value.str (Str.ofString "ways") 209, Value.str (Str.ofString "ways") 210, Value.str (Str.ofString "/claim/cut.py") 211, Value.int 10 0, Value.int 1 0, Value.int 0 0, Value.int 0 0, Value.int 3 0, Value.ref 29, Value.bool true, Value.int 181 0, Value.ref 30, Value.none, Value.ref 31, Value.ref 32, Value.ref 33, Value.int 221 0, Value.int 10 0, Value.str (Str.ofString "/claim/cut.py") 222] } : Obj)) ::
  (nat_lit 35, (⟨(Value.type "function"), (none), .func (PySem.W.fnOf (Str.ofString "ways") (Str.ofString "ways") (defArgs (top 3)) (defBody (top 3)) (defScope (top 3)) (Value.none) (Value.none) (Value.none) (Value.str (Str.ofString "logloom.machines") 187) (none) (Value.ref 34) (Value.none)), (#[])⟩ : Obj)) ::
  (nat_lit 36, ({ cls := Value.type "tuple", data := Data.seq #[] } : Obj)) ::
  (nat_lit 38, ({ cls := Value.type "tuple", data := Data.seq #[Value.str (Str.ofString "nexts") 229, Value.str (Str.ofString "known") 230, Value.str (Str.ofString "letter") 231, Value.str (Str.ofString "there") 232] } : Obj)) ::
  (nat_lit 39, ({ cls := Value.type "tuple", data := Data.seq #[] } : Obj)) ::
  (nat_lit 41, ({ cls := Value.type "code", data := Data.fields #[Value.str (Str.ofString "letter_into") 226, Value.str (Str.ofString "letter_into") 227, Value.str (Str.ofString "/claim/cut.py") 228, Value.int 25 0, Value.int 2 0, Value.int 0 0, Value.int 0 0, Value.int 3 0, Value.ref 36, Value.bool true, Value.int 181 0, Value.ref 37, Value.none, Value.ref 38, Value.ref 39, Value.ref 40, Value.int 233 0, Value.int 25 0, Value.str (Str.ofString "/claim/cut.py") 234] } : Obj)) ::
  (nat_lit 42, (⟨(Value.type "function"), (none), .func (PySem.W.fnOf (Str.ofString "letter_into") (Str.ofString "letter_into") (defArgs (top 5)) (defBody (top 5)) (defScope (top 5)) (Value.none) (Value.none) (Value.none) (Value.str (Str.ofString "logloom.stretches") 224) (none) (Value.ref 41) (Value.none)), (#[])⟩ : Obj)) ::
  (nat_lit 43, ({ cls := Value.type "tuple", data := Data.seq #[] } : Obj)) ::
  (nat_lit 45, ({ cls := Value.type "tuple", data := Data.seq #[Value.str (Str.ofString "machine") 239, Value.str (Str.ofString "rooms") 240, Value.str (Str.ofString "known") 241, Value.str (Str.ofString "number") 242, Value.str (Str.ofString "room") 243, Value.str (Str.ofString "before") 244, Value.str (Str.ofString "letter") 245] } : Obj)) ::
  (nat_lit 46, ({ cls := Value.type "tuple", data := Data.seq #[] } : Obj)) ::
  (nat_lit 48, ({ cls := Value.type "code", data := Data.fields #[Value.str (Str.ofString "runs_to_good") 236, Value.str (Str.ofString "runs_to_good") 237, Value.str (Str.ofString "/claim/cut.py") 238, Value.int 30 0, Value.int 1 0, Value.int 0 0, Value.int 0 0, Value.int 3 0, Value.ref 43, Value.bool true, Value.int 181 0, Value.ref 44, Value.none, Value.ref 45, Value.ref 46, Value.ref 47, Value.int 246 0, Value.int 30 0, Value.str (Str.ofString "/claim/cut.py") 247] } : Obj)) ::
  (nat_lit 49, (⟨(Value.type "function"), (none), .func (PySem.W.fnOf (Str.ofString "runs_to_good") (Str.ofString "runs_to_good") (defArgs (top 6)) (defBody (top 6)) (defScope (top 6)) (Value.none) (Value.none) (Value.none) (Value.str (Str.ofString "logloom.stretches") 224) (none) (Value.ref 48) (Value.none)), (#[])⟩ : Obj)) ::
  (nat_lit 50, ({ cls := Value.type "tuple", data := Data.seq #[] } : Obj)) ::
  (nat_lit 53, ({ cls := Value.type "code", data := Data.fields #[Value.str (Str.ofString "useful") 249, Value.str (Str.ofString "useful") 250, Value.str (Str.ofString "/claim/cut.py") 251, Value.int 44 0, Value.int 1 0, Value.int 0 0, Value.int 0 0, Value.int 3 0, Value.ref 50, Value.bool true, Value.int 181 0, Value.ref 51, Value.none, Value.none, Value.none, Value.ref 52, Value.int 252 0, Value.int 44 0, Value.str (Str.ofString "/claim/cut.py") 253] } : Obj)) ::
  (nat_lit 54, (⟨(Value.type "function"), (none), .func (PySem.W.fnOf (Str.ofString "useful") (Str.ofString "useful") (defArgs (top 7)) (defBody (top 7)) (defScope (top 7)) (Value.none) (Value.none) (Value.none) (Value.str (Str.ofString "logloom.stretches") 224) (none) (Value.ref 53) (Value.none)), (#[])⟩ : Obj)) ::
  (nat_lit 55, ({ cls := Value.type "tuple", data := Data.seq #[] } : Obj)) ::
  (nat_lit 58, ({ cls := Value.type "code", data := Data.fields #[Value.str (Str.ofString "rooms_on") 257, Value.str (Str.ofString "rooms_on") 258, Value.str (Str.ofString "/claim/cut.py") 259, Value.int 48 0, Value.int 4 0, Value.int 0 0, Value.int 0 0, Value.int 3 0, Value.ref 55, Value.bool true, Value.int 181 0, Value.ref 56, Value.none, Value.none, Value.none, Value.ref 57, Value.int 260 0, Value.int 48 0, Value.str (Str.ofString "/claim/cut.py") 261] } : Obj)) ::
  (nat_lit 59, (⟨(Value.type "function"), (none), .func (PySem.W.fnOf (Str.ofString "rooms_on") (Str.ofString "rooms_on") (defArgs (top 9)) (defBody (top 9)) (defScope (top 9)) (Value.none) (Value.none) (Value.none) (Value.str (Str.ofString "logloom.odd") 255) (none) (Value.ref 58) (Value.none)), (#[])⟩ : Obj)) ::
  (nat_lit 60, ({ cls := Value.type "tuple", data := Data.seq #[] } : Obj)) ::
  (nat_lit 63, ({ cls := Value.type "code", data := Data.fields #[Value.str (Str.ofString "least_odd") 263, Value.str (Str.ofString "least_odd") 264, Value.str (Str.ofString "/claim/cut.py") 265, Value.int 51 0, Value.int 5 0, Value.int 0 0, Value.int 0 0, Value.int 3 0, Value.ref 60, Value.bool true, Value.int 181 0, Value.ref 61, Value.none, Value.none, Value.none, Value.ref 62, Value.int 266 0, Value.int 51 0, Value.str (Str.ofString "/claim/cut.py") 267] } : Obj)) ::
  (nat_lit 64, (⟨(Value.type "function"), (none), .func (PySem.W.fnOf (Str.ofString "least_odd") (Str.ofString "least_odd") (defArgs (top 10)) (defBody (top 10)) (defScope (top 10)) (Value.none) (Value.none) (Value.none) (Value.str (Str.ofString "logloom.odd") 255) (none) (Value.ref 63) (Value.none)), (#[])⟩ : Obj)) ::
  (nat_lit 65, ({ cls := Value.type "tuple", data := Data.seq #[] } : Obj)) ::
  (nat_lit 68, ({ cls := Value.type "code", data := Data.fields #[Value.str (Str.ofString "size_of") 269, Value.str (Str.ofString "size_of") 270, Value.str (Str.ofString "/claim/cut.py") 271, Value.int 62 0, Value.int 1 0, Value.int 0 0, Value.int 0 0, Value.int 3 0, Value.ref 65, Value.bool true, Value.int 181 0, Value.ref 66, Value.none, Value.none, Value.none, Value.ref 67, Value.int 272 0, Value.int 62 0, Value.str (Str.ofString "/claim/cut.py") 273] } : Obj)) ::
  (nat_lit 69, (⟨(Value.type "function"), (none), .func (PySem.W.fnOf (Str.ofString "size_of") (Str.ofString "size_of") (defArgs (top 11)) (defBody (top 11)) (defScope (top 11)) (Value.none) (Value.none) (Value.none) (Value.str (Str.ofString "logloom.odd") 255) (none) (Value.ref 68) (Value.none)), (#[])⟩ : Obj)) ::
  (nat_lit 70, ({ cls := Value.type "tuple", data := Data.seq #[] } : Obj)) ::
  (nat_lit 73, ({ cls := Value.type "code", data := Data.fields #[Value.str (Str.ofString "odd") 275, Value.str (Str.ofString "odd") 276, Value.str (Str.ofString "/claim/cut.py") 277, Value.int 64 0, Value.int 2 0, Value.int 0 0, Value.int 0 0, Value.int 3 0, Value.ref 70, Value.bool true, Value.int 181 0, Value.ref 71, Value.none, Value.none, Value.none, Value.ref 72, Value.int 278 0, Value.int 64 0, Value.str (Str.ofString "/claim/cut.py") 279] } : Obj)) ::
  (nat_lit 74, (⟨(Value.type "function"), (none), .func (PySem.W.fnOf (Str.ofString "odd") (Str.ofString "odd") (defArgs (top 12)) (defBody (top 12)) (defScope (top 12)) (Value.none) (Value.none) (Value.none) (Value.str (Str.ofString "logloom.odd") 255) (none) (Value.ref 73) (Value.none)), (#[])⟩ : Obj)) ::
  (nat_lit 75, ({ cls := Value.type "tuple", data := Data.seq #[] } : Obj)) ::
  (nat_lit 77, ({ cls := Value.type "tuple", data := Data.seq #[Value.str (Str.ofString "_law_found") 286] } : Obj)) ::
  (nat_lit 78, ({ cls := Value.type "tuple", data := Data.seq #[] } : Obj)) ::
  (nat_lit 80, ({ cls := Value.type "code", data := Data.fields #[Value.str (Str.ofString "_law_whole") 283, Value.str (Str.ofString "_law_whole") 284, Value.str (Str.ofString "/claim/cut.py") 285, Value.int 75 0, Value.int 1 0, Value.int 0 0, Value.int 0 0, Value.int 3 0, Value.ref 75, Value.bool true, Value.int 181 0, Value.ref 76, Value.none, Value.ref 77, Value.ref 78, Value.ref 79, Value.int 287 0, Value.int 75 0, Value.str (Str.ofString "/claim/cut.py") 288] } : Obj)) ::
  (nat_lit 81, (⟨(Value.type "function"), (none), .func (PySem.W.fnOf (Str.ofString "_law_whole") (Str.ofString "_law_whole") (defArgs (top 14)) (defBody (top 14)) (defScope (top 14)) (Value.none) (Value.none) (Value.none) (Value.str (Str.ofString "law_logloom_k62_whole_first_odd_stretch") 281) (none) (Value.ref 80) (Value.none)), (#[])⟩ : Obj)) ::
  (nat_lit 82, ({ cls := Value.type "tuple", data := Data.seq #[] } : Obj)) ::
  (nat_lit 84, ({ cls := Value.type "tuple", data := Data.seq #[Value.str (Str.ofString "_law_script") 293, Value.str (Str.ofString "_law_k") 294] } : Obj)) ::
  (nat_lit 85, ({ cls := Value.type "tuple", data := Data.seq #[] } : Obj)) ::
  (nat_lit 87, ({ cls := Value.type "code", data := Data.fields #[Value.str (Str.ofString "_law_cell_at") 290, Value.str (Str.ofString "_law_cell_at") 291, Value.str (Str.ofString "/claim/cut.py") 292, Value.int 77 0, Value.int 2 0, Value.int 0 0, Value.int 0 0, Value.int 3 0, Value.ref 82, Value.bool true, Value.int 181 0, Value.ref 83, Value.none, Value.ref 84, Value.ref 85, Value.ref 86, Value.int 295 0, Value.int 77 0, Value.str (Str.ofString "/claim/cut.py") 296] } : Obj)) ::
  (nat_lit 88, (⟨(Value.type "function"), (none), .func (PySem.W.fnOf (Str.ofString "_law_cell_at") (Str.ofString "_law_cell_at") (defArgs (top 15)) (defBody (top 15)) (defScope (top 15)) (Value.none) (Value.none) (Value.none) (Value.str (Str.ofString "law_logloom_k62_whole_first_odd_stretch") 281) (none) (Value.ref 87) (Value.none)), (#[])⟩ : Obj)) ::
  (nat_lit 89, ({ cls := Value.type "tuple", data := Data.seq #[] } : Obj)) ::
  (nat_lit 92, ({ cls := Value.type "code", data := Data.fields #[Value.str (Str.ofString "_law_machine") 298, Value.str (Str.ofString "_law_machine") 299, Value.str (Str.ofString "/claim/cut.py") 300, Value.int 83 0, Value.int 3 0, Value.int 0 0, Value.int 0 0, Value.int 3 0, Value.ref 89, Value.bool true, Value.int 181 0, Value.ref 90, Value.none, Value.none, Value.none, Value.ref 91, Value.int 301 0, Value.int 83 0, Value.str (Str.ofString "/claim/cut.py") 302] } : Obj)) ::
  (nat_lit 93, (⟨(Value.type "function"), (none), .func (PySem.W.fnOf (Str.ofString "_law_machine") (Str.ofString "_law_machine") (defArgs (top 16)) (defBody (top 16)) (defScope (top 16)) (Value.none) (Value.none) (Value.none) (Value.str (Str.ofString "law_logloom_k62_whole_first_odd_stretch") 281) (none) (Value.ref 92) (Value.none)), (#[])⟩ : Obj)) ::
  (nat_lit 94, ({ cls := Value.type "tuple", data := Data.seq #[] } : Obj)) ::
  (nat_lit 96, ({ cls := Value.type "tuple", data := Data.seq #[Value.str (Str.ofString "_law_machine_here") 307, Value.str (Str.ofString "_law_room_here") 308, Value.str (Str.ofString "_law_found") 309, Value.str (Str.ofString "_law_at") 310, Value.str (Str.ofString "_law_there_here") 311] } : Obj)) ::
  (nat_lit 97, ({ cls := Value.type "tuple", data := Data.seq #[] } : Obj)) ::
  (nat_lit 99, ({ cls := Value.type "code", data := Data.fields #[Value.str (Str.ofString "_law_behind") 304, Value.str (Str.ofString "_law_behind") 305, Value.str (Str.ofString "/claim/cut.py") 306, Value.int 95 0, Value.int 2 0, Value.int 0 0, Value.int 0 0, Value.int 3 0, Value.ref 94, Value.bool true, Value.int 181 0, Value.ref 95, Value.none, Value.ref 96, Value.ref 97, Value.ref 98, Value.int 312 0, Value.int 95 0, Value.str (Str.ofString "/claim/cut.py") 313] } : Obj)) ::
  (nat_lit 100, (⟨(Value.type "function"), (none), .func (PySem.W.fnOf (Str.ofString "_law_behind") (Str.ofString "_law_behind") (defArgs (top 17)) (defBody (top 17)) (defScope (top 17)) (Value.none) (Value.none) (Value.none) (Value.str (Str.ofString "law_logloom_k62_whole_first_odd_stretch") 281) (none) (Value.ref 99) (Value.none)), (#[])⟩ : Obj)) ::
  (nat_lit 101, ({ cls := Value.type "tuple", data := Data.seq #[] } : Obj)) ::
  (nat_lit 103, ({ cls := Value.type "tuple", data := Data.seq #[Value.str (Str.ofString "_law_cell") 318, Value.str (Str.ofString "_law_many") 319, Value.str (Str.ofString "_law_most") 320, Value.str (Str.ofString "_law_number") 321, Value.str (Str.ofString "_law_run_here") 322, Value.str (Str.ofString "_law_k") 323] } : Obj)) ::
  (nat_lit 104, ({ cls := Value.type "tuple", data := Data.seq #[] } : Obj)) ::
  (nat_lit 106, ({ cls := Value.type "code", data := Data.fields #[Value.str (Str.ofString "_law_run") 315, Value.str (Str.ofString "_law_run") 316, Value.str (Str.ofString "/claim/cut.py") 317, Value.int 104 0, Value.int 3 0, Value.int 0 0, Value.int 0 0, Value.int 3 0, Value.ref 101, Value.bool true, Value.int 181 0, Value.ref 102, Value.none, Value.ref 103, Value.ref 104, Value.ref 105, Value.int 324 0, Value.int 104 0, Value.str (Str.ofString "/claim/cut.py") 325] } : Obj)) ::
  (nat_lit 107, (⟨(Value.type "function"), (none), .func (PySem.W.fnOf (Str.ofString "_law_run") (Str.ofString "_law_run") (defArgs (top 18)) (defBody (top 18)) (defScope (top 18)) (Value.none) (Value.none) (Value.none) (Value.str (Str.ofString "law_logloom_k62_whole_first_odd_stretch") 281) (none) (Value.ref 106) (Value.none)), (#[])⟩ : Obj)) ::
  (nat_lit 108, ({ cls := Value.type "tuple", data := Data.seq #[] } : Obj)) ::
  (nat_lit 110, ({ cls := Value.type "tuple", data := Data.seq #[Value.str (Str.ofString "_law_machine_here") 330, Value.str (Str.ofString "_law_room_here") 331, Value.str (Str.ofString "_law_run_here") 332, Value.str (Str.ofString "_law_letter") 333] } : Obj)) ::
  (nat_lit 111, ({ cls := Value.type "tuple", data := Data.seq #[] } : Obj)) ::
  (nat_lit 113, ({ cls := Value.type "code", data := Data.fields #[Value.str (Str.ofString "_law_room") 327, Value.str (Str.ofString "_law_room") 328, Value.str (Str.ofString "/claim/cut.py") 329, Value.int 113 0, Value.int 3 0, Value.int 0 0, Value.int 0 0, Value.int 3 0, Value.ref 108, Value.bool true, Value.int 181 0, Value.ref 109, Value.none, Value.ref 110, Value.ref 111, Value.ref 112, Value.int 334 0, Value.int 113 0, Value.str (Str.ofString "/claim/cut.py") 335] } : Obj)) ::
  (nat_lit 114, (⟨(Value.type "function"), (none), .func (PySem.W.fnOf (Str.ofString "_law_room") (Str.ofString "_law_room") (defArgs (top 19)) (defBody (top 19)) (defScope (top 19)) (Value.none) (Value.none) (Value.none) (Value.str (Str.ofString "law_logloom_k62_whole_first_odd_stretch") 281) (none) (Value.ref 113) (Value.none)), (#[])⟩ : Obj)) ::
  (nat_lit 115, ({ cls := Value.type "tuple", data := Data.seq #[] } : Obj)) ::
  (nat_lit 118, ({ cls := Value.type "code", data := Data.fields #[Value.str (Str.ofString "_law_there") 337, Value.str (Str.ofString "_law_there") 338, Value.str (Str.ofString "/claim/cut.py") 339, Value.int 117 0, Value.int 4 0, Value.int 0 0, Value.int 0 0, Value.int 3 0, Value.ref 115, Value.bool true, Value.int 181 0, Value.ref 116, Value.none, Value.none, Value.none, Value.ref 117, Value.int 340 0, Value.int 117 0, Value.str (Str.ofString "/claim/cut.py") 341] } : Obj)) ::
  (nat_lit 119, (⟨(Value.type "function"), (none), .func (PySem.W.fnOf (Str.ofString "_law_there") (Str.ofString "_law_there") (defArgs (top 20)) (defBody (top 20)) (defScope (top 20)) (Value.none) (Value.none) (Value.none) (Value.str (Str.ofString "law_logloom_k62_whole_first_odd_stretch") 281) (none) (Value.ref 118) (Value.none)), (#[])⟩ : Obj)) ::
  (nat_lit 120, ({ cls := Value.type "tuple", data := Data.seq #[] } : Obj)) ::
  (nat_lit 122, ({ cls := Value.type "tuple", data := Data.seq #[Value.str (Str.ofString "_law_length") 346, Value.str (Str.ofString "_law_found") 347, Value.str (Str.ofString "_law_start") 348, Value.str (Str.ofString "_law_stop") 349, Value.str (Str.ofString "_law_head") 350, Value.str (Str.ofString "_law_tail") 351] } : Obj)) ::
  (nat_lit 123, ({ cls := Value.type "tuple", data := Data.seq #[] } : Obj)) ::
  (nat_lit 125, ({ cls := Value.type "code", data := Data.fields #[Value.str (Str.ofString "_law_stretches") 343, Value.str (Str.ofString "_law_stretches") 344, Value.str (Str.ofString "/claim/cut.py") 345, Value.int 124 0, Value.int 1 0, Value.int 0 0, Value.int 0 0, Value.int 3 0, Value.ref 120, Value.bool true, Value.int 181 0, Value.ref 121, Value.none, Value.ref 122, Value.ref 123, Value.ref 124, Value.int 352 0, Value.int 124 0, Value.str (Str.ofString "/claim/cut.py") 353] } : Obj)) ::
  (nat_lit 126, (⟨(Value.type "function"), (none), .func (PySem.W.fnOf (Str.ofString "_law_stretches") (Str.ofString "_law_stretches") (defArgs (top 21)) (defBody (top 21)) (defScope (top 21)) (Value.none) (Value.none) (Value.none) (Value.str (Str.ofString "law_logloom_k62_whole_first_odd_stretch") 281) (none) (Value.ref 125) (Value.none)), (#[])⟩ : Obj)) ::
  (nat_lit 127, ({ cls := Value.type "tuple", data := Data.seq #[] } : Obj)) ::
  (nat_lit 129, ({ cls := Value.type "tuple", data := Data.seq #[Value.str (Str.ofString "_law_machine_here") 358, Value.str (Str.ofString "_law_run_here") 359, Value.str (Str.ofString "_law_size") 360, Value.str (Str.ofString "_law_start") 361, Value.str (Str.ofString "_law_behind_here") 362, Value.str (Str.ofString "_law_stop") 363, Value.str (Str.ofString "_law_tail") 364] } : Obj)) ::
  (nat_lit 130, ({ cls := Value.type "tuple", data := Data.seq #[] } : Obj)) ::
  (nat_lit 132, ({ cls := Value.type "code", data := Data.fields #[Value.str (Str.ofString "_law_due") 355, Value.str (Str.ofString "_law_due") 356, Value.str (Str.ofString "/claim/cut.py") 357, Value.int 133 0, Value.int 2 0, Value.int 0 0, Value.int 0 0, Value.int 3 0, Value.ref 127, Value.bool true, Value.int 181 0, Value.ref 128, Value.none, Value.ref 129, Value.ref 130, Value.ref 131, Value.int 365 0, Value.int 133 0, Value.str (Str.ofString "/claim/cut.py") 366] } : Obj)) ::
  (nat_lit 133, (⟨(Value.type "function"), (none), .func (PySem.W.fnOf (Str.ofString "_law_due") (Str.ofString "_law_due") (defArgs (top 22)) (defBody (top 22)) (defScope (top 22)) (Value.none) (Value.none) (Value.none) (Value.str (Str.ofString "law_logloom_k62_whole_first_odd_stretch") 281) (none) (Value.ref 132) (Value.none)), (#[])⟩ : Obj)) ::
  (nat_lit 134, ({ cls := Value.type "tuple", data := Data.seq #[] } : Obj)) ::
  (nat_lit 136, ({ cls := Value.type "tuple", data := Data.seq #[Value.str (Str.ofString "_law_script") 371, Value.str (Str.ofString "_law_machine_here") 372, Value.str (Str.ofString "_law_start") 373, Value.str (Str.ofString "_law_longest") 374, Value.str (Str.ofString "_law_k") 375, Value.str (Str.ofString "_law_run_here") 376, Value.str (Str.ofString "_law_found") 377] } : Obj)) ::
  (nat_lit 137, ({ cls := Value.type "tuple", data := Data.seq #[] } : Obj)) ::
  (nat_lit 139, ({ cls := Value.type "code", data := Data.fields #[Value.str (Str.ofString "law") 368, Value.str (Str.ofString "law") 369, Value.str (Str.ofString "/claim/cut.py") 370, Value.int 138 0, Value.int 1 0, Value.int 0 0, Value.int 0 0, Value.int 3 0, Value.ref 134, Value.bool true, Value.int 181 0, Value.ref 135, Value.none, Value.ref 136, Value.ref 137, Value.ref 138, Value.int 378 0, Value.int 138 0, Value.str (Str.ofString "/claim/cut.py") 379] } : Obj)) ::
  (nat_lit 140, (⟨(Value.type "function"), (none), .func (PySem.W.fnOf (Str.ofString "law") (Str.ofString "law") (defArgs (top 23)) (defBody (top 23)) (defScope (top 23)) (Value.none) (Value.none) (Value.none) (Value.str (Str.ofString "law_logloom_k62_whole_first_odd_stretch") 281) (none) (Value.ref 139) (Value.none)), (#[])⟩ : Obj)) :: []
def hA : List PySem.Addr := nat_lit 2 :: nat_lit 3 :: nat_lit 15 :: nat_lit 17 :: nat_lit 18 :: nat_lit 20 :: nat_lit 21 :: nat_lit 22 :: nat_lit 24 :: nat_lit 25 :: nat_lit 27 :: nat_lit 28 :: nat_lit 29 :: nat_lit 31 :: nat_lit 32 :: nat_lit 34 :: nat_lit 35 :: nat_lit 36 :: nat_lit 38 :: nat_lit 39 :: nat_lit 41 :: nat_lit 42 :: nat_lit 43 :: nat_lit 45 :: nat_lit 46 :: nat_lit 48 :: nat_lit 49 :: nat_lit 50 :: nat_lit 53 :: nat_lit 54 :: nat_lit 55 :: nat_lit 58 :: nat_lit 59 :: nat_lit 60 :: nat_lit 63 :: nat_lit 64 :: nat_lit 65 :: nat_lit 68 :: nat_lit 69 :: nat_lit 70 :: nat_lit 73 :: nat_lit 74 :: nat_lit 75 :: nat_lit 77 :: nat_lit 78 :: nat_lit 80 :: nat_lit 81 :: nat_lit 82 :: nat_lit 84 :: nat_lit 85 :: nat_lit 87 :: nat_lit 88 :: nat_lit 89 :: nat_lit 92 :: nat_lit 93 :: nat_lit 94 :: nat_lit 96 :: nat_lit 97 :: nat_lit 99 :: nat_lit 100 :: nat_lit 101 :: nat_lit 103 :: nat_lit 104 :: nat_lit 106 :: nat_lit 107 :: nat_lit 108 :: nat_lit 110 :: nat_lit 111 :: nat_lit 113 :: nat_lit 114 :: nat_lit 115 :: nat_lit 118 :: nat_lit 119 :: nat_lit 120 :: nat_lit 122 :: nat_lit 123 :: nat_lit 125 :: nat_lit 126 :: nat_lit 127 :: nat_lit 129 :: nat_lit 130 :: nat_lit 132 :: nat_lit 133 :: nat_lit 134 :: nat_lit 136 :: nat_lit 137 :: nat_lit 139 :: nat_lit 140 :: []
theorem hE : ∀ P, hA = (hK P).map (·.1) := fun _ => by kernel_rfl
def hQ : PySem.Program := { PySem.Challenge.pw_logloom_k62_whole_first_odd_stretch with
  main := { PySem.Challenge.pw_logloom_k62_whole_first_odd_stretch.main with
    body := [top 1, top 2, top 3, top 5, top 6, top 7, top 9, top 10, top 11, top 12, top 14, top 15, top 16, top 17, top 18, top 19, top 20, top 21, top 22, top 23] } }
abbrev hH : PySem.W.Hook := PySem.W.kHook hK hA hE
abbrev hX (s : PySem.Shared) : Bool := PySem.W.xlAt hQ [] s &&
  PySem.W.recOk (PySem.W.RowW.records (PySem.W.OpenRow.toRowW (PySem.W.OpenLaw.row PySem.Challenge.rw_logloom_k62_whole_first_odd_stretch))) s
set_option maxHeartbeats 0 in
theorem hL : PySem.W.LeftO PySem.Challenge.pw_logloom_k62_whole_first_odd_stretch hQ [] hX hH.obs hH.val 1422 :=
  HT.left1 rfl rfl (fun _ => rfl) (fun w os => by kernel_rfl)
end K21

namespace L2
open PySem PySem.Spec PyProof.Rows


abbrev Key := Sum Int Str
def keyIs : Key → Value → Bool
  | .inl k, v => Value.isInt k v
  | .inr x, v => Value.isStrOf x v
def keyH (w : World) : Key → Int
  | .inl k => hashInt k
  | .inr x => hashStr w x
theorem keyIs_shape : ∀ {k : Key} {v : Value}, keyIs k v = true → (∃ i t, k = Sum.inl i ∧ v = Value.int i t) ∨ (∃ x t, k = Sum.inr x ∧ v = Value.str x t)
  | .inl i, v, h => by
    obtain ⟨t, e⟩ := Value.isInt_shape (k := i) (v := v) h
    exact .inl ⟨i, t, rfl, e⟩
  | .inr x, v, h => by
    obtain ⟨t, e⟩ := Value.isStrOf_shape (x := x) (v := v) h
    exact .inr ⟨x, t, rfl, e⟩
theorem keyIs_int (i : Int) (t : Tok) : keyIs (.inl i) (.int i t) = true := by simp [keyIs, Value.isInt]
theorem keyIs_str (x : Str) (t : Tok) : keyIs (.inr x) (.str x t) = true := by simp [keyIs, Value.isStrOf]
theorem key_ll (a b : Int) : decide ((Sum.inl a : Key) = Sum.inl b) = (a == b) := by
  by_cases e : a = b
  · subst e; simp
  · have h : ¬ (Sum.inl a : Key) = Sum.inl b := fun q => e (Sum.inl.inj q)
    rw [decide_eq_false h]
    exact (beq_eq_false_iff_ne.mpr e).symm
theorem key_rr (a b : Str) : decide ((Sum.inr a : Key) = Sum.inr b) = decide (a = b) := by
  by_cases e : a = b
  · subst e; simp
  · have h : ¬ (Sum.inr a : Key) = Sum.inr b := fun q => e (Sum.inr.inj q)
    rw [decide_eq_false h, decide_eq_false e]
theorem key_lr (a : Int) (b : Str) : decide ((Sum.inl a : Key) = Sum.inr b) = false := decide_eq_false (fun q => nomatch q)
theorem key_rl (a : Str) (b : Int) : decide ((Sum.inr a : Key) = Sum.inl b) = false := decide_eq_false (fun q => nomatch q)

def mixKind (prog : Program) (w : World) : PySem.KeyKind prog w Key where
  is := keyIs
  hash := keyH w
  inj := fun v a b ha hb => by
    rcases keyIs_shape ha with ⟨i, t, rfl, rfl⟩ | ⟨x, t, rfl, rfl⟩
    · rcases keyIs_shape hb with ⟨j, u, rfl, e⟩ | ⟨y, u, rfl, e⟩
      · injection e with e1 _; rw [e1]
      · exact nomatch e
    · rcases keyIs_shape hb with ⟨j, u, rfl, e⟩ | ⟨y, u, rfl, e⟩
      · exact nomatch e
      · injection e with e1 _; rw [e1]
  byValue := fun k v h => by
    rcases keyIs_shape h with ⟨i, t, rfl, rfl⟩ | ⟨x, t, rfl, rfl⟩ <;> rfl
  pyHash := fun hv h => by
    rcases keyIs_shape hv with ⟨i, t, rfl, rfl⟩ | ⟨x, t, rfl, rfl⟩
    · exact wpAny_pyHash_int h
    · exact wpAny_pyHash_str h
  eqBool := fun hu hv h => by
    rcases keyIs_shape hu with ⟨i, t, rfl, rfl⟩ | ⟨x, t, rfl, rfl⟩
    · rcases keyIs_shape hv with ⟨j, u, rfl, rfl⟩ | ⟨y, u, rfl, rfl⟩
      · rw [key_ll] at h; exact wpAny_eqBool_int h
      · rw [key_lr] at h; exact SeqAt.EqAt.int_str i t y u _ _ _ _ h
    · rcases keyIs_shape hv with ⟨j, u, rfl, rfl⟩ | ⟨y, u, rfl, rfl⟩
      · rw [key_rl] at h; exact SeqAt.EqAt.str_int x t j u _ _ _ _ h
      · rw [key_rr] at h; exact wpAny_eqBool_str h
  «strs» := fun k x t v h => by
    rcases keyIs_shape h with ⟨i, u, rfl, e⟩ | ⟨y, u, rfl, e⟩
    · exact nomatch e
    · injection e with e1 _
      subst e1
      cases v <;> rfl

theorem mixKind_int (prog : Program) (w : World) (i : Int) (t : Tok) : (mixKind prog w).is (.inl i) (.int i t) = true := keyIs_int i t
theorem mixKind_str (prog : Program) (w : World) (x : Str) (t : Tok) : (mixKind prog w).is (.inr x) (.str x t) = true := keyIs_str x t
end L2

namespace L2
open PySem PySem.Spec PyProof.Rows


inductive V where
  | non | bl (b : Bool) | int (i : Int) | str (x : Str) | byt (b : Array UInt8) | flt (b : UInt64) | ref (a : Addr) | ty (n : String)
  deriving DecidableEq

def RelV : V → Value → Prop
  | .non, u => u = Value.none
  | .bl b, u => u = Value.bool b
  | .int i, u => ∃ t, u = Value.int i t
  | .str x, u => ∃ t, u = Value.str x t
  | .byt b, u => ∃ t, u = Value.bytes b t
  | .flt b, u => ∃ t, u = Value.float b t
  | .ref a, u => u = Value.ref a
  | .ty n, u => u = Value.type n

abbrev Vals : List V → List Value → Prop := Paired RelV
theorem Vals.length {xs : List V} {us : List Value} (r : Vals xs us) : xs.length = us.length := Paired.length r
theorem Vals.get : ∀ {xs : List V} {us : List Value} {i : Nat} {x : V}, Vals xs us → xs[i]? = some x → ∃ u, us[i]? = some u ∧ RelV x u
  | _, _, _, _, .nil, e => by simp at e
  | _, _, 0, _, .cons r _, e => by simp at e; subst e; exact ⟨_, rfl, r⟩
  | _, _, i + 1, x, .cons _ t, e => by
    obtain ⟨u, h1, h2⟩ := Vals.get (i := i) (x := x) t (by simpa using e)
    exact ⟨u, by simpa using h1, h2⟩
theorem Vals.append : ∀ {xs ys : List V} {us ws : List Value}, Vals xs us → Vals ys ws → Vals (xs ++ ys) (us ++ ws)
  | _, _, _, _, .nil, s => s
  | _, _, _, _, .cons r t, s => .cons r (Vals.append t s)
theorem Vals.take : ∀ {xs : List V} {us : List Value} (n : Nat), Vals xs us → Vals (xs.take n) (us.take n)
  | _, _, 0, _ => .nil
  | _, _, _ + 1, .nil => .nil
  | _, _, n + 1, .cons r t => .cons r (Vals.take n t)
theorem Vals.drop : ∀ {xs : List V} {us : List Value} (n : Nat), Vals xs us → Vals (xs.drop n) (us.drop n)
  | _, _, 0, r => r
  | _, _, _ + 1, .nil => .nil
  | _, _, n + 1, .cons _ t => Vals.drop n t
def RelO : Option V → Option Value → Prop
  | some v, some u => RelV v u
  | none, none => True
  | _, _ => False
def KV {κ : Type} : List (κ × V) → List (κ × Value) → Prop := Paired fun (p : κ × V) (q : κ × Value) => p.1 = q.1 ∧ RelV p.2 q.2


def kV : Key → V
  | .inl i => .int i
  | .inr x => .str x


inductive HO where
  
  | lst (xs : List V)
  
  | tup (xs : List V)
  
  | dK (kvs : List (Key × V)) | dT (kvs : List (List Key × V))
  
  | set (S : Int → Bool) (n : Nat)
  
  | ins (C dx : Addr) (fs : List (Str × V))
  
  | own (x : Addr)
  
  | xd (fs : List (Str × V))
  
  | met (f x : Addr)
  
  | rng (lo hi : Int)
  
  | frz (o : Obj) (u : HO)
  
  | tbl (ps : Array Value)
  
  | ext (φ : Heap → Prop)

abbrev Hp := Addr → Option HO
def upd (H : Hp) (a : Addr) (o : HO) : Hp := fun b => if b = a then some o else H b
theorem upd_same {H : Hp} {a : Addr} {o : HO} : upd H a o a = some o := by unfold upd; rw [if_pos rfl]
theorem upd_ne {H : Hp} {a b : Addr} {o : HO} (h : b ≠ a) : upd H a o b = H b := by unfold upd; rw [if_neg h]
theorem ne_of {H : Hp} {a b : Addr} {o u : HO} (h : H a = some o) (h' : H b = some u) (d : o ≠ u) : a ≠ b := by
  intro e; subst e; rw [h] at h'; exact d (Option.some.inj h')
theorem ne_of_none {H : Hp} {a b : Addr} {o : HO} (h : H a = some o) (h' : H b = none) : a ≠ b := by
  intro e; subst e; rw [h] at h'; cases h'

section
variable (P : Program) (w : World)
def ObjOk (H : Hp) (h : Heap) (a : Addr) : HO → Prop
  | .lst xs => xs.length ≤ sizeLine ∧ ∃ (its : List Value) (n : Nat), Vals xs its ∧ h.get? a = some { cls := .type "list", data := .seq its.toArray n }
  | .tup xs => xs.length ≤ sizeLine ∧ ∃ its : List Value, Vals xs its ∧ IsTup h a its.toArray
  | .dK kvs => kvs.length ≤ sizeLine ∧ (a == sysModules) = false ∧ ∃ vs, KV kvs vs ∧ h.DictOf (mixKind P w) a vs
  | .dT kvs => kvs.length ≤ sizeLine ∧ (a == sysModules) = false ∧ ∃ xs : List (List Key × Addr × Value),
      Paired (fun (p : List Key × V) (q : List Key × Addr × Value) => p.1 = q.1 ∧ H q.2.1 = some (.tup (p.1.map kV)) ∧ RelV p.2 q.2.2) kvs xs ∧
      ∃ o es ep, h.get? a = some o ∧ o.ExactDict ∧ o.data = .dict es ep ∧ es.toList = xs.map (entryOfKey (tupleKind (mixKind P w))) ∧ (xs.map (·.1)).Nodup
  | .set S n => h.SetOf (intKind P w) a S n
  | .ins C dx fs => H dx = some (.own a) ∧ fs.length ≤ 1000 ∧ dx ≠ a ∧ h.get? a = some (PySem.W.instObj C dx) ∧
      ∃ mA, h.Ns1 dx mA ∧ (∀ f, RelO (fs.lookup f) (mA f)) ∧ PySem.Within mA (fs.map (·.1))
  | .own _ => ∃ o, h.get? a = some o
  | .xd fs => ∃ mA, h.Ns1 a mA ∧ ∀ f, RelO (fs.lookup f) (mA f)
  | .rng lo hi => ∃ t u v, h.get? a = some { cls := .type "range", data := .fields #[.int lo t, .int hi u, .int 1 v] }
  | .frz o u => h.get? a = some o ∧ ObjOk H h a u
  | .tbl ps => h.get? a = some { cls := .none, data := .fields ps }
  | .met f x => h.get? a = some (PySem.W.methodObj (.ref f) (.ref x))
  | .ext φ => φ h ∧ (∃ o, h.get? a = some o) ∧ ∀ h1 h2 : Heap, φ h1 → (∀ o, h1.get? a = some o → h2.get? a = some o) → φ h2

def HOk (H : Hp) (h : Heap) : Prop := ∀ a o, H a = some o → ObjOk P w H h a o
end

section
variable {P : Program} {w : World} {H H' : Hp} {h h' : Heap} {a : Addr} {o : HO}
theorem ObjOk.lt (x : ObjOk P w H h a o) : a < h.objs.size := by
  cases o with
  | lst xs => obtain ⟨_, _, _, _, e⟩ := x; exact Heap.lt_size e
  | tup xs => obtain ⟨_, _, _, p⟩ := x; exact p.lt
  | dK kvs => obtain ⟨_, _, _, _, o, _, _, e, _⟩ := x; exact Heap.lt_size e
  | dT kvs => obtain ⟨_, _, _, _, o, _, _, e, _⟩ := x; exact Heap.lt_size e
  | set S n => obtain ⟨o, _, _, _, e, _⟩ := x; exact Heap.lt_size e
  | ins C dx fs => obtain ⟨_, _, _, e, _⟩ := x; exact Heap.lt_size e
  | own y => obtain ⟨_, e⟩ := x; exact Heap.lt_size e
  | xd fs => obtain ⟨_, ⟨_, _, _, e, _⟩, _⟩ := x; exact Heap.lt_size e
  | rng lo hi => obtain ⟨_, _, _, e⟩ := x; exact Heap.lt_size e
  | frz ob u => obtain ⟨e, _⟩ := x; exact Heap.lt_size e
  | tbl ps => exact Heap.lt_size (show h.get? a = some _ from x)
  | met f y => exact Heap.lt_size (show h.get? a = some _ from x)
  | ext φ => obtain ⟨_, ⟨_, e⟩, _⟩ := x; exact Heap.lt_size e
theorem Paired.mapP {α β : Type} {F G : α → β → Prop} : ∀ {l₁ : List α} {l₂ : List β}, Paired F l₁ l₂ → (∀ a b, F a b → G a b) → Paired G l₁ l₂
  | _, _, .nil, _ => .nil
  | _, _, .cons r t, f => .cons (f _ _ r) (Paired.mapP t f)
theorem ObjOk.stay (x : ObjOk P w H h a o) (k : ∀ b u, (b = a ∨ H b = some (.own a)) → h.get? b = some u → h'.get? b = some u)
    (ho : ∀ b, H b = some (.own a) → H' b = some (.own a)) (ht : ∀ b xs, H b = some (.tup xs) → H' b = some (.tup xs)) : ObjOk P w H' h' a o := by
  induction o with
  | lst xs => obtain ⟨z, its, n, r, e⟩ := x; exact ⟨z, its, n, r, k _ _ (.inl rfl) e⟩
  | tup xs => obtain ⟨z, its, r, ob, e, c⟩ := x; exact ⟨z, its, r, ob, k _ _ (.inl rfl) e, c⟩
  | dK kvs => obtain ⟨z, y, vs, r, ob, es, ep, e, c⟩ := x; exact ⟨z, y, vs, r, ob, es, ep, k _ _ (.inl rfl) e, c⟩
  | dT kvs =>
    obtain ⟨z, y, xs, r, ob, es, ep, e, c⟩ := x
    exact ⟨z, y, xs, Paired.mapP r fun p q z => ⟨z.1, ht _ _ z.2.1, z.2.2⟩, ob, es, ep, k _ _ (.inl rfl) e, c⟩
  | set S n => obtain ⟨ob, es, ep, t, e, c⟩ := x; exact ⟨ob, es, ep, t, k _ _ (.inl rfl) e, c⟩
  | ins C dx fs =>
    obtain ⟨d, z, ne, e, mA, ⟨od, es, ep, e2, c⟩, r⟩ := x
    exact ⟨ho _ d, z, ne, k _ _ (.inl rfl) e, mA, ⟨od, es, ep, k _ _ (.inr d) e2, c⟩, r⟩
  | own y => obtain ⟨ob, e⟩ := x; exact ⟨ob, k _ _ (.inl rfl) e⟩
  | xd fs => obtain ⟨mA, ⟨od, es, ep, e, c⟩, r⟩ := x; exact ⟨mA, ⟨od, es, ep, k _ _ (.inl rfl) e, c⟩, r⟩
  | rng lo hi => obtain ⟨t, u, v, e⟩ := x; exact ⟨t, u, v, k _ _ (.inl rfl) e⟩
  | frz ob u ih => obtain ⟨e, q⟩ := x; exact ⟨k _ _ (.inl rfl) e, ih q⟩
  | tbl ps =>
    have e : h.get? a = some { cls := .none, data := .fields ps } := x
    show h'.get? a = some { cls := .none, data := .fields ps }
    exact k a _ (.inl rfl) e
  | met f y =>
    have e : h.get? a = some (PySem.W.methodObj (.ref f) (.ref y)) := x
    show h'.get? a = some (PySem.W.methodObj (.ref f) (.ref y))
    exact k a _ (.inl rfl) e
  | ext φ => obtain ⟨p, ⟨o, e⟩, st⟩ := x; exact ⟨st _ _ p fun o q => k _ _ (.inl rfl) q, ⟨o, k _ _ (.inl rfl) e⟩, st⟩
theorem HOk.lt (x : HOk P w H h) (e : H a = some o) : a < h.objs.size := (x a o e).lt
theorem HOk.fresh (x : HOk P w H h) (e : h.objs.size ≤ a) : H a = none := by
  cases q : H a with
  | none => rfl
  | some u => exact absurd (Nat.lt_of_lt_of_le (x.lt q) e) (Nat.lt_irrefl _)

theorem HOk.kept (x : HOk P w H h) (k : ∀ b u, h.get? b = some u → h'.get? b = some u) : HOk P w H h' := fun a o e =>
  (x a o e).stay (fun b u _ q => k b u q) (fun _ q => q) fun _ _ q => q

theorem HOk.laid (x : HOk P w H h) (k : ∀ b u, h.get? b = some u → h'.get? b = some u) (hp : h.objs.size ≤ a) (new : ObjOk P w (upd H a o) h' a o) : HOk P w (upd H a o) h' := fun b u e => by
  have hn := x.fresh hp
  by_cases hb : b = a
  · subst hb; rw [upd_same] at e; cases e; exact new
  · rw [upd_ne hb] at e
    exact (x b u e).stay (fun c v _ q => k c v q) (fun c q => by rw [upd_ne (ne_of_none q hn)]; exact q) fun c xs q => by rw [upd_ne (ne_of_none q hn)]; exact q
end


def Rd (H : Hp) (a : Addr) (u : HO) : Prop := H a = some u ∨ ∃ o, H a = some (.frz o u)
theorem Rd.ok {P : Program} {w : World} {H : Hp} {h : Heap} {a : Addr} {u : HO} (r : Rd H a u) (x : HOk P w H h) : ObjOk P w H h a u := by
  rcases r with r | ⟨o, r⟩
  · exact x a u r
  · obtain ⟨_, q⟩ := x a _ r
    exact q

def Mut : Option HO → Prop
  | some (.lst _) => True
  | some (.dK _) => True
  | some (.dT _) => True
  | some (.set _ _) => True
  | some (.ins _ _ _) => True
  | some (.ext _) => True
  | _ => False
section
variable {P : Program} {w : World} {H : Hp} {h h' : Heap} {x e : Addr} {o' : HO}

theorem HOk.write (ok : HOk P w H h) (mu : Mut (H x)) (he : e = x ∨ H e = some (.own x)) (k : ∀ b u, b ≠ e → h.get? b = some u → h'.get? b = some u) (heo : ∃ u, h'.get? e = some u)
    (new : ObjOk P w (upd H x o') h' x o') : HOk P w (upd H x o') h' := fun b u q => by
  have nown : ∀ c y, H c = some (.own y) → c ≠ x := fun c y r z => by subst z; rw [r] at mu; exact mu
  have ntup : ∀ c xs, H c = some (.tup xs) → c ≠ x := fun c xs r z => by subst z; rw [r] at mu; exact mu
  by_cases hb : b = x
  · subst hb; rw [upd_same] at q; cases q; exact new
  · rw [upd_ne hb] at q
    by_cases hbe : b = e
    · have q' : H b = some (.own x) := by
        rcases he with z | z
        · exact absurd (hbe.trans z) hb
        · rw [hbe]; exact z
      rw [q] at q'; cases q'
      obtain ⟨v, hv⟩ := heo
      exact ⟨v, by rw [hbe]; exact hv⟩
    · refine (ok b u q).stay (fun c v hc r => k c v ?_ r) (fun c r => by rw [upd_ne (nown c b r)]; exact r) fun c xs r => by rw [upd_ne (ntup c xs r)]; exact r
      rcases hc with rfl | hc
      · exact hbe
      · rintro rfl
        rcases he with z | z
        · exact nown c b hc z
        · rw [hc] at z; cases z; exact hb rfl
end


structure Un (fs ex : List Addr) (H H' : Hp) (h h' : Heap) : Prop where
  keep : ∀ b o, h.get? b = some o → H b = none → b ∉ fs → b ∉ ex → h'.get? b = some o
  slot : ∀ b o, h.get? b = some o → H b = none → b ∈ fs → b ∉ ex → ∃ sl, h'.get? b = some { o with slots := sl }
  free : ∀ b o, h.get? b = some o → H b = none → b ∉ ex → H' b = none
  there : ∀ b o, h.get? b = some o → b ∉ ex → ∃ o', h'.get? b = some o'
  tups : ∀ b xs, H b = some (.tup xs) → H' b = some (.tup xs)
  frzs : ∀ b o u, H b = some (.frz o u) → H' b = some (.frz o u)
  tbls : ∀ b ps, H b = some (.tbl ps) → ∃ more, H' b = some (.tbl (ps ++ more))
section
variable {fs fs' ex ex' : List Addr} {H H1 H2 : Hp} {h h1 h2 h' : Heap} {a x e : Addr} {o : HO}
theorem Un.any (u : Un fs ex H H1 h h1) {b : Addr} {ob : Obj} (q : h.get? b = some ob) (n : H b = none) (hx : b ∉ ex) : ∃ sl, h1.get? b = some { ob with slots := sl } := by
  by_cases hb : b ∈ fs
  · exact u.slot b ob q n hb hx
  · exact ⟨ob.slots, u.keep b ob q n hb hx⟩
theorem Un.kept (k : ∀ b u, h.get? b = some u → h'.get? b = some u) : Un fs ex H H h h' :=
  ⟨fun b ob q _ _ _ => k b ob q, fun b ob q _ _ _ => ⟨ob.slots, k b ob q⟩, fun _ _ _ n _ => n, fun b ob q _ => ⟨ob, k b ob q⟩, fun _ _ q => q, fun _ _ _ q => q, fun _ ps q => ⟨#[], by rw [q]; simp⟩⟩
theorem Un.refl : Un fs ex H H h h := Un.kept fun _ _ q => q
theorem Un.laid (k : ∀ b u, h.get? b = some u → h'.get? b = some u) (hp : h.objs.size ≤ a) (hn : H a = none) : Un fs ex H (upd H a o) h h' where
  keep := fun b u q _ _ _ => k b u q
  slot := fun b u q _ _ _ => ⟨u.slots, k b u q⟩
  free := fun b u q n _ => by rw [upd_ne (Nat.ne_of_lt (Nat.lt_of_lt_of_le (Heap.lt_size q) hp))]; exact n
  there := fun b u q _ => ⟨u, k b u q⟩
  tups := fun b xs q => by rw [upd_ne (ne_of_none q hn)]; exact q
  frzs := fun b u xs q => by rw [upd_ne (ne_of_none q hn)]; exact q
  tbls := fun b ps q => ⟨#[], by rw [upd_ne (ne_of_none q hn), q]; simp⟩
theorem Un.write (mu : Mut (H x)) (he : e = x ∨ H e = some (.own x)) (k : ∀ b u, b ≠ e → h.get? b = some u → h'.get? b = some u) (heo : ∃ u, h'.get? e = some u) : Un fs ex H (upd H x o) h h' := by
  have hx : ∀ b, H b = none → b ≠ x := fun b n z => by subst z; rw [n] at mu; exact mu
  have hb : ∀ b, H b = none → b ≠ e := fun b n z => by
    subst z
    rcases he with r | r
    · exact hx b n r
    · rw [n] at r; cases r
  have hm : ∀ b u, H b = some u → ¬ Mut (some u) → b ≠ x := fun b u q nm z => by subst z; rw [q] at mu; exact nm mu
  refine ⟨fun b u q n _ _ => k b u (hb b n) q, fun b u q n _ _ => ⟨u.slots, k b u (hb b n) q⟩, fun b u q n _ => by rw [upd_ne (hx b n)]; exact n, fun b u q _ => ?_,
    fun b xs q => by rw [upd_ne (hm b _ q fun z => z)]; exact q, fun b u xs q => by rw [upd_ne (hm b _ q fun z => z)]; exact q, fun b ps q => ⟨#[], by rw [upd_ne (hm b _ q fun z => z), q]; simp⟩⟩
  by_cases hbe : b = e
  · subst hbe; exact heo
  · exact ⟨u, k b u hbe q⟩
end


def trk (h : Heap) (H : Hp) : List Addr := (List.range h.objs.size).filter fun a => (H a).isSome
def hidT (h : Heap) (H : Hp) : Heap := PySem.W.hideAll h (trk h H)
theorem hidT_size (h : Heap) (H : Hp) : (hidT h H).objs.size = h.objs.size := PySem.W.hideAll_size _ _
theorem hidT_get {h : Heap} {H : Hp} {b : Addr} {o : Obj} (e : h.get? b = some o) (n : H b = none) : (hidT h H).get? b = some o :=
  PySem.W.hideAll_get _ e fun hm => by
    have q : (H b).isSome = true := (List.mem_filter.mp hm).2
    rw [n] at q; simp at q
theorem of_hidT {h : Heap} {H : Hp} {b : Addr} {o : Obj} (e : (hidT h H).get? b = some o) : h.get? b = some o ∧ H b = none := by
  have e' : h.get? b = some o := PySem.W.of_hideAll (trk h H) e
  refine ⟨e', ?_⟩
  cases q : H b with
  | none => rfl
  | some x =>
    have hm : b ∈ trk h H := List.mem_filter.mpr ⟨List.mem_range.mpr (Heap.lt_size e'), by simp [q]⟩
    have z : (hidT h H).get? b = none := PySem.W.hideAll_none (trk h H) hm
    rw [z] at e; cases e


end L2

namespace L2
open PySem PySem.Spec PyProof.Rows


structure Mod (K : PySem.W.Frag) (mg : Str → Option Value) (base : Heap) : Prop where
  kin : K.In base
  glob : base.Ns mainGlobals mg
  blt : ∃ mb, base.Ns builtinsNs mb ∧ ∀ x : Str, x ≠ "__name__" → mb x = bootBuiltins x
  nolimit : base.NoLimit


structure Cx where
  prog : Program
  w : World
  K : PySem.W.Frag
  mg : Str → Option Value
  base : Heap
  A : Around
  N : List Str
  s₀ : Shared
  H₀ : Hp
  env : Env
  outer : List Env
  stack : List Env
  ex : List Addr
  fn : Str → Bool
  calm : Bool
  pn : List (Addr × Obj)
  xe : Value → Shared → Prop

def frs (l : List Env) : List Addr := l.filterMap (·.frame)
abbrev Cx.fs (X : Cx) : List Addr := frs X.outer

def Vis (sc : Scope) (x : Str) : Prop := sc.names.lookup x = some .local ∨ sc.names.lookup x = some .cell ∨ sc.names.lookup x = some .free
def Loc (sc : Scope) (x : Str) : Prop := sc.names.lookup x = some .local ∨ sc.names.lookup x = some .cell
def Look (env : Env) (h : Heap) (m : Str → Option Value) (x : Str) (u : Value) : Prop :=
  (env.kindOf x = some .local ∧ m x = some u) ∨ ((env.kindOf x = some .cell ∨ env.kindOf x = some .free) ∧ ∃ c, env.cells.lookup x = some c ∧ h.IsCell c (some u))

structure Cx.Ok (X : Cx) : Prop where
  mod : Mod X.K X.mg X.base
  kind : X.env.scope.kind = .function
  glob : X.env.globals = mainGlobals
  blt : X.env.builtins = builtinsNs
  above : X.s₀.heap.objs.size ≤ X.env.locals
  inj : ∀ x y c, X.env.cells.lookup x = some c → X.env.cells.lookup y = some c → x = y
  has : ∀ x, (X.env.kindOf x = some .cell ∨ X.env.kindOf x = some .free) → ∃ c, X.env.cells.lookup x = some c
  cab : ∀ x c, X.fn x = true → X.env.cells.lookup x = some c → X.s₀.heap.objs.size ≤ c
  hd : X.calm = true → X.A.handled = none
  frames : X.A.frames = some X.stack
  stk : X.stack = X.outer ∨ (X.stack = X.env :: X.outer ∧ X.env.frame = some X.env.locals)
  exf : ∀ b ∈ X.ex, b ≠ X.env.locals ∧ ∀ x c, X.env.cells.lookup x = some c → c ≠ b
  bs : ∀ b o, X.base.get? b = some o → X.s₀.heap.get? b = some o ∧ X.H₀ b = none
  bsz : X.base.objs.size ≤ X.s₀.heap.objs.size
  noex : ∀ b o, X.base.get? b = some o → b ∉ X.ex
  exfs : ∀ b ∈ X.ex, b ∉ X.fs
  funs : X.s₀.heap.FunFrames X.base X.outer
  frf : ∀ b ∈ X.fs, X.H₀ b = none

structure Inv (X : Cx) (pins : List (Addr × Obj)) (σ : List (Option V)) (H : Hp) (s : Shared) : Prop where
  ok : X.Ok
  os : s.os = X.s₀.os
  bare : AllBare s.gens
  base : Un X.fs X.ex X.H₀ H X.s₀.heap s.heap
  loc : ∃ m, s.heap.Ns X.env.locals m ∧ ∀ (i : Nat) (x : Str) (v : V), X.N[i]? = some x → σ[i]? = some (some v) → Vis X.env.scope x → ∃ u, RelV v u ∧ Look X.env s.heap m x u
  cell : ∀ x c, X.env.cells.lookup x = some c → ∃ v, s.heap.IsCell c v
  free : H X.env.locals = none
  freeC : ∀ x c, X.env.cells.lookup x = some c → H c = none
  pin : ∀ p ∈ X.pn ++ pins, s.heap.get? p.1 = some p.2 ∧ H p.1 = none ∧ p.1 ≠ X.env.locals ∧ p.1 ∉ X.fs ∧ ∀ v, p.2.data ≠ .cell v
  hok : HOk X.prog X.w H s.heap
  len : σ.length = X.N.length

section
variable {X : Cx} {pins : List (Addr × Obj)} {σ : List (Option V)} {H H' : Hp} {s : Shared} {h' : Heap}

theorem Cx.Ok.nofr (ok : X.Ok) {b : Addr} {o : Obj} (e : X.base.get? b = some o) : b ∉ X.fs := fun hb => by
  have := (ok.funs.mem hb).1
  rw [e] at this; cases this
theorem Inv.bs (I : Inv X pins σ H s) : ∀ b o, X.base.get? b = some o → s.heap.get? b = some o ∧ H b = none := fun b o e =>
  ⟨I.base.keep b o (I.ok.bs b o e).1 (I.ok.bs b o e).2 (I.ok.nofr e) (I.ok.noex b o e), I.base.free b o (I.ok.bs b o e).1 (I.ok.bs b o e).2 (I.ok.noex b o e)⟩
theorem Inv.bk (I : Inv X pins σ H s) : ∀ b o, X.base.get? b = some o → s.heap.get? b = some o := fun b o e => (I.bs b o e).1
theorem Inv.mod (I : Inv X pins σ H s) : Mod X.K X.mg X.base := I.ok.mod
theorem Inv.kIn (I : Inv X pins σ H s) : X.K.In s.heap := I.ok.mod.kin.keeps I.bk
theorem Inv.lt (I : Inv X pins σ H s) : X.env.locals < s.heap.objs.size := let ⟨_, hn, _⟩ := I.loc; hn.lt
theorem Inv.sz (I : Inv X pins σ H s) : X.s₀.heap.objs.size ≤ s.heap.objs.size := Nat.le_trans I.ok.above (Nat.le_of_lt I.lt)
theorem Inv.nofs (I : Inv X pins σ H s) {a : Addr} (h : s.heap.objs.size ≤ a) : a ∉ X.fs := fun hb => by
  obtain ⟨_, o, ho, _⟩ := I.ok.funs.mem hb
  exact absurd (Nat.lt_of_lt_of_le (Heap.lt_size ho) (Nat.le_trans I.sz h)) (Nat.lt_irrefl _)
theorem Inv.cne (I : Inv X pins σ H s) : ∀ x c, X.env.cells.lookup x = some c → c ≠ X.env.locals := fun x c e z => by
  obtain ⟨v, o, ho, hd⟩ := I.cell x c e
  obtain ⟨m, ⟨o', es, ep, ho', hd', _⟩, _⟩ := I.loc
  rw [z, ho'] at ho; cases ho; rw [hd'] at hd; cases hd
theorem Inv.funs (I : Inv X pins σ H s) : s.heap.FunFrames X.base X.outer := by
  have all : ∀ (l : List Env), (∀ b ∈ frs l, b ∈ X.fs) → X.s₀.heap.FunFrames X.base l → s.heap.FunFrames X.base l := by
    intro l
    induction l with
    | nil => intro _ _; trivial
    | cons env r ih =>
      intro hs hl
      obtain ⟨hk, ⟨L, o, hf, hn, ho, hd⟩, hr⟩ := hl
      have hL : L ∈ X.fs := hs L (by unfold frs; rw [List.filterMap_cons, hf]; exact List.mem_cons_self)
      obtain ⟨sl, e⟩ := I.base.slot L o ho (I.ok.frf L hL) hL fun z => I.ok.exfs L z hL
      exact ⟨hk, ⟨L, _, hf, hn, e, hd⟩, ih (fun b hb => hs b (by unfold frs; rw [List.filterMap_cons, hf]; exact List.mem_cons_of_mem _ hb)) hr⟩
  exact all X.outer (fun _ hb => hb) I.ok.funs


theorem Inv.stack (I : Inv X pins σ H s) : s.heap.FunFrames X.base X.stack := by
  rcases I.ok.stk with e | ⟨e, hf⟩
  · rw [e]; exact I.funs
  · rw [e]
    obtain ⟨m, hn, _⟩ := I.loc
    refine .cons (by rw [I.ok.kind]; decide) hf hn ?_ I.funs
    exact Heap.get?_none_of_le (Nat.le_trans I.ok.bsz I.ok.above)
theorem Inv.stkSub (I : Inv X pins σ H s) : ∀ b ∈ frs X.stack, b ∈ X.env.locals :: X.fs := fun b hb => by
  rcases I.ok.stk with e | ⟨e, hf⟩
  · rw [e] at hb; exact List.mem_cons_of_mem _ hb
  · rw [e] at hb
    unfold frs at hb
    rw [List.filterMap_cons, hf] at hb
    exact hb
theorem Inv.stkFree (I : Inv X pins σ H s) : ∀ b ∈ frs X.stack, H b = none := fun b hb => by
  rcases List.mem_cons.mp (I.stkSub b hb) with e | hb
  · rw [e]; exact I.free
  · obtain ⟨_, o, ho, _⟩ := I.ok.funs.mem hb
    exact I.base.free b o ho (I.ok.frf b hb) fun z => I.ok.exfs b z hb


theorem Inv.step {g' : Array GenState} {t' : Nat} {d' : Drawn} {ch : List Addr} (I : Inv X pins σ H s)
    (hch : ∀ b ∈ ch, (b ∈ X.ex ∨ X.s₀.heap.objs.size ≤ b) ∧ b ≠ X.env.locals ∧ (∀ x c, X.env.cells.lookup x = some c → c ≠ b) ∧ ∀ p ∈ X.pn ++ pins, p.1 ≠ b)
    (keep : ∀ b o, b ≠ X.env.locals → b ∉ X.fs → b ∉ ch → s.heap.get? b = some o → H b = none → h'.get? b = some o)
    (slot : ∀ b o, b ≠ X.env.locals → b ∈ X.fs → b ∉ ch → s.heap.get? b = some o → H b = none → ∃ sl, h'.get? b = some { o with slots := sl }) (free : ∀ b o, b ∉ ch → s.heap.get? b = some o → H b = none → H' b = none)
    (there : ∀ b o, b ∉ ch → s.heap.get? b = some o → ∃ o', h'.get? b = some o')
    (tups : ∀ b xs, H b = some (.tup xs) → H' b = some (.tup xs)) (frzs : ∀ b o u, H b = some (.frz o u) → H' b = some (.frz o u)) (tbls : ∀ b ps, H b = some (.tbl ps) → ∃ more, H' b = some (.tbl (ps ++ more)))
    (ns : ∀ m, s.heap.Ns X.env.locals m → h'.Ns X.env.locals m) (hok : HOk X.prog X.w H' h') (hg : AllBare g') :
    Inv X pins σ H' { s with heap := h', gens := g', drawn := d', toks := t' } := by
  have neL : ∀ b o, X.s₀.heap.get? b = some o → b ≠ X.env.locals := fun b o e => Nat.ne_of_lt (Nat.lt_of_lt_of_le (Heap.lt_size e) I.ok.above)
  have neC : ∀ b o, X.s₀.heap.get? b = some o → b ∉ X.ex → b ∉ ch := fun b o e hx hb => by
    rcases (hch b hb).1 with z | z
    · exact hx z
    · exact absurd (Nat.lt_of_lt_of_le (Heap.lt_size e) z) (Nat.lt_irrefl _)
  have cellK : ∀ x c, X.env.cells.lookup x = some c → ∀ v, s.heap.IsCell c v → h'.IsCell c v := fun x c e v ⟨o, ho, hd⟩ => by
    have nch : c ∉ ch := fun z => (hch c z).2.2.1 x c e rfl
    by_cases hc : c ∈ X.fs
    · obtain ⟨sl, q⟩ := slot c o (I.cne x c e) hc nch ho (I.freeC x c e)
      exact ⟨_, q, hd⟩
    · exact ⟨o, keep c o (I.cne x c e) hc nch ho (I.freeC x c e), hd⟩
  refine ⟨I.ok, I.os, hg, ⟨fun b o e n hb hx => ?_, fun b o e n hb hx => ?_, fun b o e n hx => ?_, fun b o e hx => ?_, fun b xs e => tups b xs (I.base.tups b xs e), fun b o xs e => frzs b o xs (I.base.frzs b o xs e), fun b ps e => ?_⟩, ?_, fun x c e => ?_, ?_, fun x c e => ?_, fun p hp => ?_, hok, I.len⟩
  · exact keep b o (neL b o e) hb (neC b o e hx) (I.base.keep b o e n hb hx) (I.base.free b o e n hx)
  · obtain ⟨sl, e1⟩ := I.base.slot b o e n hb hx
    obtain ⟨sl', e2⟩ := slot b _ (neL b o e) hb (neC b o e hx) e1 (I.base.free b o e n hx)
    exact ⟨sl', e2⟩
  · obtain ⟨o', e1⟩ := I.base.there b o e hx
    exact free b o' (neC b o e hx) e1 (I.base.free b o e n hx)
  · obtain ⟨o', e1⟩ := I.base.there b o e hx
    exact there b o' (neC b o e hx) e1
  · obtain ⟨m1, e1⟩ := I.base.tbls b ps e
    obtain ⟨m2, e2⟩ := tbls b _ e1
    exact ⟨m1 ++ m2, by rw [e2, Array.append_assoc]⟩
  · obtain ⟨m, hn, hl⟩ := I.loc
    refine ⟨m, ns m hn, fun i x v e1 e2 e3 => ?_⟩
    obtain ⟨u, r, l⟩ := hl i x v e1 e2 e3
    refine ⟨u, r, ?_⟩
    rcases l with l | ⟨k, c, e, z⟩
    · exact .inl l
    · exact .inr ⟨k, c, e, cellK x c e _ z⟩
  · obtain ⟨v, z⟩ := I.cell x c e
    exact ⟨v, cellK x c e v z⟩
  · obtain ⟨m, ⟨o, _, _, ho, _⟩, _⟩ := I.loc
    exact free _ o (fun z => (hch _ z).2.1 rfl) ho I.free
  · obtain ⟨v, o, ho, hd⟩ := I.cell x c e
    exact free c o (fun z => (hch c z).2.2.1 x c e rfl) ho (I.freeC x c e)
  · obtain ⟨e, n, ne, nf, d⟩ := I.pin p hp
    have nch : p.1 ∉ ch := fun z => (hch p.1 z).2.2.2 p hp rfl
    exact ⟨keep p.1 p.2 ne nf nch e n, free p.1 p.2 nch e n, ne, nf, d⟩

theorem Inv.un {t' : Nat} (I : Inv X pins σ H s) (u : Un X.fs [] H H' s.heap h') (hok : HOk X.prog X.w H' h') : Inv X pins σ H' { s with heap := h', toks := t' } := by
  obtain ⟨m, ⟨o, es, ep, ho, r⟩, _⟩ := id I.loc
  obtain ⟨sl, hL⟩ := u.any ho I.free (by simp)
  exact I.step (g' := s.gens) (d' := s.drawn) (ch := []) (fun _ z => nomatch z) (fun b o _ hb _ e n => u.keep b o e n hb (by simp)) (fun b o _ hb _ e n => u.slot b o e n hb (by simp)) (fun b o _ e n => u.free b o e n (by simp)) (fun b o _ e => u.there b o e (by simp)) u.tups u.frzs u.tbls (fun m' hm => by
    obtain ⟨o', es', ep', ho', r'⟩ := hm
    rw [ho] at ho'; cases ho'
    exact ⟨_, es', ep', hL, r'⟩) hok I.bare

theorem Inv.call {g' : Array GenState} {t' : Nat} {d' : Drawn} {ch : List Addr} (I : Inv X pins σ H s) (u : Un (frs X.stack) ch H H' s.heap h') (hok : HOk X.prog X.w H' h') (hg : AllBare g')
    (hch : ∀ b ∈ ch, (b ∈ X.ex ∨ X.s₀.heap.objs.size ≤ b) ∧ b ≠ X.env.locals ∧ (∀ x c, X.env.cells.lookup x = some c → c ≠ b) ∧ ∀ p ∈ X.pn ++ pins, p.1 ≠ b) :
    Inv X pins σ H' { s with heap := h', gens := g', drawn := d', toks := t' } := by
  obtain ⟨m, ⟨o, es, ep, ho, r⟩, _⟩ := id I.loc
  obtain ⟨sl, hL⟩ := u.any ho I.free fun z => (hch _ z).2.1 rfl
  exact I.step (ch := ch) hch (fun b o hL hb hc e n => u.keep b o e n (fun z => (List.mem_cons.mp (I.stkSub b z)).elim hL hb) hc) (fun b o _ _ hc e n => u.any e n hc) (fun b o hc e n => u.free b o e n hc) (fun b o hc e => u.there b o e hc) u.tups u.frzs u.tbls (fun m' hm => by
    obtain ⟨o', es', ep', ho', r'⟩ := hm
    rw [ho] at ho'; cases ho'
    exact ⟨_, es', ep', hL, r'⟩) hok hg

theorem Inv.turned {t' : Nat} {it : Addr} (I : Inv X pins σ H s) (k : ∀ b o, b ≠ it → s.heap.get? b = some o → h'.get? b = some o) (hn : H it = none) (hL : it ≠ X.env.locals)
    (h1 : it ∈ X.ex ∨ X.s₀.heap.objs.size ≤ it) (h2 : ∀ x c, X.env.cells.lookup x = some c → c ≠ it) (h3 : ∀ p ∈ X.pn ++ pins, p.1 ≠ it) : Inv X pins σ H { s with heap := h', toks := t' } := by
  have nit : ∀ b u, H b = some u → b ≠ it := fun b u e z => by rw [z, hn] at e; cases e
  refine I.step (g' := s.gens) (d' := s.drawn) (ch := [it]) (fun b hb => ?_) (fun b o _ _ hc e _ => k b o (fun z => hc (by simp [z])) e) (fun b o _ _ hc e _ => ⟨o.slots, k b o (fun z => hc (by simp [z])) e⟩) (fun _ _ _ _ n => n)
    (fun b o hc e => ⟨o, k b o (fun z => hc (by simp [z])) e⟩) (fun _ _ e => e) (fun _ _ _ e => e) (fun b ps e => ⟨#[], by rw [e]; simp⟩) (fun m hm => ?_) (fun b u e => ?_) I.bare
  · have e : b = it := by simpa using hb
    subst e
    exact ⟨h1, hL, h2, h3⟩
  · obtain ⟨o, es, ep, ho, r⟩ := hm
    exact ⟨o, es, ep, k _ o (Ne.symm hL) ho, r⟩
  · refine (I.hok b u e).stay (fun c v hc q => k c v ?_ q) (fun _ q => q) fun _ _ q => q
    rcases hc with z | z
    · rw [z]; exact nit b u e
    · exact nit c _ z
theorem Inv.tok (I : Inv X pins σ H s) (t : Nat) : Inv X pins σ H { s with toks := t } := I.un (h' := s.heap) (t' := t) Un.refl I.hok

theorem Inv.kept {t' : Nat} (I : Inv X pins σ H s) (k : ∀ b u, s.heap.get? b = some u → h'.get? b = some u) : Inv X pins σ H { s with heap := h', toks := t' } := I.un (Un.kept k) (I.hok.kept k)

theorem Inv.laid {a : Addr} {o : HO} {t' : Nat} (I : Inv X pins σ H s) (k : ∀ b u, s.heap.get? b = some u → h'.get? b = some u) (hp : s.heap.objs.size ≤ a) (new : ObjOk X.prog X.w (upd H a o) h' a o) :
    Inv X pins σ (upd H a o) { s with heap := h', toks := t' } := I.un (Un.laid k hp (I.hok.fresh hp)) (I.hok.laid k hp new)

theorem Inv.write {x e : Addr} {o : HO} {t' : Nat} (I : Inv X pins σ H s) (mu : Mut (H x)) (he : e = x ∨ H e = some (.own x)) (k : ∀ b u, b ≠ e → s.heap.get? b = some u → h'.get? b = some u) (heo : ∃ u, h'.get? e = some u)
    (new : ObjOk X.prog X.w (upd H x o) h' x o) : Inv X pins σ (upd H x o) { s with heap := h', toks := t' } := I.un (Un.write mu he k heo) (I.hok.write mu he k heo new)

theorem Inv.pins_of {pins' : List (Addr × Obj)} (I : Inv X pins σ H s) (h : ∀ p ∈ pins', s.heap.get? p.1 = some p.2 ∧ H p.1 = none ∧ p.1 ≠ X.env.locals ∧ p.1 ∉ X.fs ∧ ∀ v, p.2.data ≠ .cell v) : Inv X pins' σ H s :=
  ⟨I.ok, I.os, I.bare, I.base, I.loc, I.cell, I.free, I.freeC, fun p hp => (List.mem_append.mp hp).elim (fun z => I.pin p (List.mem_append_left _ z)) (h p), I.hok, I.len⟩

theorem nodup_ix {N : List Str} (hN : N.Nodup) {i j : Nat} {x : Str} (a : N[i]? = some x) (b : N[j]? = some x) : i = j := by
  obtain ⟨h1, e1⟩ := List.getElem?_eq_some_iff.mp a
  obtain ⟨h2, e2⟩ := List.getElem?_eq_some_iff.mp b
  exact (List.getElem_inj hN).mp (e1.trans e2.symm)


theorem store_ok2 {M : Model} {A : Around} {E : Value → Shared → Prop} {i : Nat} {x : Str} {v : V} {u : Value} {Q : Unit → Shared → Prop} (I : Inv X pins σ H s) (hN : X.N.Nodup) (hi : X.N[i]? = some x) (hx : Loc X.env.scope x) (r : RelV v u)
    (h : ∀ s', Inv X pins (σ.set i (some v)) H s' → (∃ a, Heap.SameBut a s.heap s'.heap ∧ (a = X.env.locals ∨ X.env.cells.lookup x = some a)) → Q () s') (hf : X.fn x = true ∨ X.env.scope.names.lookup x = some .local := by first | exact .inl rfl | exact .inr rfl | assumption) : wpAny M A (storeName X.env x u) Q E s := by
  obtain ⟨m, hn, hl⟩ := id I.loc
  have hcls : (X.env.scope.kind == .class || (X.env.scope.kind == .module && X.env.locals != X.env.globals)) = false := by rw [I.ok.kind]; rfl
  have hiσ : i < σ.length := by rw [I.len]; exact (List.getElem?_eq_some_iff.mp hi).1
  have cne := I.cne
  have tracked : ∀ {a : Addr} {h' : Heap}, (∃ o, s.heap.get? a = some o ∧ H a = none) → Heap.SameBut a s.heap h' → HOk X.prog X.w H h' := fun {a h'} ha hs b ob e => by
    obtain ⟨_, _, hfree⟩ := ha
    refine (I.hok b ob e).stay (fun c w' hc q => (hs.2 c ?_).trans q) (fun _ q => q) fun _ _ q => q
    rintro rfl
    rcases hc with rfl | hc
    · rw [hfree] at e; cases e
    · rw [hfree] at hc; cases hc
  rcases hx with hk | hk
  · refine wpAny_storeName_local hk hn (fun h' hn' hs => ?_) hcls
    obtain ⟨oL, _, _, hoL, _⟩ := id hn
    refine h _ ⟨I.ok, I.os, I.bare, ⟨fun b o e n hb hx => ?_, fun b o e n hb hx => ?_, I.base.free, fun b o e hx => ?_, I.base.tups, I.base.frzs, I.base.tbls⟩, ⟨_, hn', fun j y v' e1 e2 e3 => ?_⟩, fun y c e => ?_, I.free, I.freeC, fun p hp => ?_, tracked ⟨oL, hoL, I.free⟩ hs, by simpa using I.len⟩ ⟨_, hs, .inl rfl⟩
    · exact (hs.2 b (Nat.ne_of_lt (Nat.lt_of_lt_of_le (Heap.lt_size e) I.ok.above))).trans (I.base.keep b o e n hb hx)
    · obtain ⟨sl, e1⟩ := I.base.slot b o e n hb hx
      exact ⟨sl, (hs.2 b (Nat.ne_of_lt (Nat.lt_of_lt_of_le (Heap.lt_size e) I.ok.above))).trans e1⟩
    · obtain ⟨o', e1⟩ := I.base.there b o e hx
      exact ⟨o', (hs.2 b (Nat.ne_of_lt (Nat.lt_of_lt_of_le (Heap.lt_size e) I.ok.above))).trans e1⟩
    · by_cases hj : j = i
      · subst hj
        rw [hi] at e1; cases e1
        rw [List.getElem?_set_self hiσ] at e2
        cases e2
        exact ⟨u, r, .inl ⟨hk, by simp⟩⟩
      · rw [List.getElem?_set_ne (Ne.symm hj)] at e2
        obtain ⟨u', r', q⟩ := hl j y v' e1 e2 e3
        refine ⟨u', r', ?_⟩
        rcases q with ⟨k, e⟩ | ⟨k, c, e, z⟩
        · refine .inl ⟨k, ?_⟩
          have : y ≠ x := fun e => hj (nodup_ix hN e1 (e ▸ hi))
          simp [this, e]
        · exact .inr ⟨k, c, e, z.sameBut hs (cne y c e)⟩
    · obtain ⟨w', z⟩ := I.cell y c e
      exact ⟨w', z.sameBut hs (cne y c e)⟩
    · obtain ⟨e, n, ne, nf, d⟩ := I.pin p hp
      exact ⟨(hs.2 p.1 ne).trans e, n, ne, nf, d⟩
  · have hfn : X.fn x = true := by
      rcases hf with z | z
      · exact z
      · rw [z] at hk; cases hk
    obtain ⟨c, hc⟩ := I.ok.has x (.inl hk)
    obtain ⟨w', z⟩ := I.cell x c hc
    refine wpAny_storeName_cell I.ok.kind hk hc z (fun h' hc' hs => ?_)
    obtain ⟨oc, hoc, hocd⟩ := id z
    refine h { s with heap := h' } ⟨I.ok, I.os, I.bare, ⟨fun b o e n hb hx => ?_, fun b o e n hb hx => ?_, I.base.free, fun b o e hx => ?_, I.base.tups, I.base.frzs, I.base.tbls⟩, ⟨m, hn.sameBut hs (Ne.symm (cne x c hc)), fun j y v' e1 e2 e3 => ?_⟩, fun y c' e => ?_, I.free, I.freeC, fun p hp => ?_, tracked ⟨oc, hoc, I.freeC x c hc⟩ hs, by simpa using I.len⟩ ⟨c, hs, .inr hc⟩
    · exact (hs.2 b (Nat.ne_of_lt (Nat.lt_of_lt_of_le (Heap.lt_size e) (I.ok.cab x c hfn hc)))).trans (I.base.keep b o e n hb hx)
    · obtain ⟨sl, e1⟩ := I.base.slot b o e n hb hx
      exact ⟨sl, (hs.2 b (Nat.ne_of_lt (Nat.lt_of_lt_of_le (Heap.lt_size e) (I.ok.cab x c hfn hc)))).trans e1⟩
    · obtain ⟨o', e1⟩ := I.base.there b o e hx
      exact ⟨o', (hs.2 b (Nat.ne_of_lt (Nat.lt_of_lt_of_le (Heap.lt_size e) (I.ok.cab x c hfn hc)))).trans e1⟩
    · by_cases hj : j = i
      · subst hj
        rw [hi] at e1; cases e1
        rw [List.getElem?_set_self hiσ] at e2
        cases e2
        exact ⟨u, r, .inr ⟨.inl hk, c, hc, hc'⟩⟩
      · rw [List.getElem?_set_ne (Ne.symm hj)] at e2
        obtain ⟨u', r', q⟩ := hl j y v' e1 e2 e3
        refine ⟨u', r', ?_⟩
        rcases q with q | ⟨k, c', e, z'⟩
        · exact .inl q
        · refine .inr ⟨k, c', e, z'.sameBut hs ?_⟩
          rintro rfl
          exact hj (nodup_ix hN e1 (I.ok.inj _ _ _ e hc ▸ hi))
    · by_cases hcc : c' = c
      · subst hcc; exact ⟨_, hc'⟩
      · obtain ⟨w2, z2⟩ := I.cell y c' e
        exact ⟨w2, z2.sameBut hs hcc⟩
    · obtain ⟨e, n, ne, nf, d⟩ := I.pin p hp
      refine ⟨(hs.2 p.1 ?_).trans e, n, ne, nf, d⟩
      intro q
      rw [q, hoc] at e
      have q' : oc = p.2 := Option.some.inj e
      exact d w' (by rw [← q']; exact hocd)
theorem store_ok {M : Model} {A : Around} {E : Value → Shared → Prop} {i : Nat} {x : Str} {v : V} {u : Value} {Q : Unit → Shared → Prop} (I : Inv X pins σ H s) (hN : X.N.Nodup) (hi : X.N[i]? = some x) (hx : Loc X.env.scope x) (r : RelV v u)
    (h : ∀ s', Inv X pins (σ.set i (some v)) H s' → Q () s') (hf : X.fn x = true ∨ X.env.scope.names.lookup x = some .local := by first | exact .inl rfl | exact .inr rfl | assumption) : wpAny M A (storeName X.env x u) Q E s :=
  store_ok2 I hN hi hx r (fun s' I' _ => h s' I') hf

theorem Inv.call' {s' : Shared} {ch : List Addr} (I : Inv X pins σ H s) (ho : s'.os = s.os) (u : Un (frs X.stack) ch H H' s.heap s'.heap) (hok : HOk X.prog X.w H' s'.heap) (hg : AllBare s'.gens)
    (hch : ∀ b ∈ ch, (b ∈ X.ex ∨ X.s₀.heap.objs.size ≤ b) ∧ b ≠ X.env.locals ∧ (∀ x c, X.env.cells.lookup x = some c → c ≠ b) ∧ ∀ p ∈ X.pn ++ pins, p.1 ≠ b) : Inv X pins σ H' s' := by
  obtain ⟨h', g', d', t', o'⟩ := s'
  have e : o' = s.os := ho
  subst e
  exact I.call (g' := g') (t' := t') (d' := d') u hok hg hch
end



abbrev XK := Value → Option Addr → Hp → Prop
abbrev St := List (Option V)
abbrev VK := V → Hp → Prop

abbrev TE := St → Hp → VK → Prop
abbrev TT := St → Hp → (Bool → Hp → Prop) → Prop
abbrev TA := St → Hp → (List V → Hp → Prop) → Prop

structure Ends where
  nx : St → Hp → Prop
  rt : VK
  bk : St → Hp → Prop := fun _ _ => False
  ct : St → Hp → Prop := fun _ _ => False
abbrev TS := Ends → St → Hp → Prop

def EP (X : Cx) (pins : List (Addr × Obj)) (σ : St) (Q : VK) (u : Value) (s' : Shared) : Prop := ∃ v H', Inv X pins σ H' s' ∧ RelV v u ∧ Q v H'
def TP (X : Cx) (pins : List (Addr × Obj)) (σ : St) (Q : Bool → Hp → Prop) (b : Bool) (s' : Shared) : Prop := ∃ H', Inv X pins σ H' s' ∧ Q b H'
def AP (X : Cx) (pins : List (Addr × Obj)) (σ : St) (Q : List V → Hp → Prop) (us : List Value) (s' : Shared) : Prop := ∃ vs H', Inv X pins σ H' s' ∧ Vals vs us ∧ Q vs H'
def SP (X : Cx) (pins : List (Addr × Obj)) (D : Ends) (f : Flow) (s' : Shared) : Prop :=
  match f with
  | .next => ∃ σ' H', Inv X pins σ' H' s' ∧ D.nx σ' H'
  | .brk => ∃ σ' H', Inv X pins σ' H' s' ∧ D.bk σ' H'
  | .cont => ∃ σ' H', Inv X pins σ' H' s' ∧ D.ct σ' H'
  | .ret u => ∃ v σ' H', Inv X pins σ' H' s' ∧ RelV v u ∧ D.rt v H'

def PE (X : Cx) (e : Expr) (t : TE) : Prop :=
  ∀ (pins : List (Addr × Obj)) (s : Shared) (σ : St) (H : Hp) (Q : VK), Inv X pins σ H s → t σ H Q → wpAny (model X.prog X.w) X.A (eval e X.env) (EP X pins σ Q) X.xe s
def PT (X : Cx) (e : Expr) (t : TT) : Prop :=
  ∀ (pins : List (Addr × Obj)) (s : Shared) (σ : St) (H : Hp) (Q : Bool → Hp → Prop), Inv X pins σ H s → t σ H Q → wpAny (model X.prog X.w) X.A (isTrue e X.env (eval e X.env)) (TP X pins σ Q) X.xe s

def PW (X : Cx) (e : Expr) (t : TT) : Prop :=
  ∀ (whole : Sem Value) (pins : List (Addr × Obj)) (s : Shared) (σ : St) (H : Hp) (Q : Bool → Hp → Prop), Inv X pins σ H s → t σ H Q → wpAny (model X.prog X.w) X.A (isTrue e X.env whole) (TP X pins σ Q) X.xe s
theorem PW.pt {X : Cx} {e : Expr} {t : TT} (h : PW X e t) : PT X e t := h _

def PA (X : Cx) (es : List Expr) (t : TA) : Prop :=
  ∀ (pos : Pos) (pins : List (Addr × Obj)) (s : Shared) (σ : St) (H : Hp) (Q : List V → Hp → Prop), Inv X pins σ H s → t σ H Q → wpAny (model X.prog X.w) X.A (spliced (backTo pos (starEach es X.env))) (AP X pins σ Q) X.xe s
def PS (X : Cx) (st : Stmt) (t : TS) : Prop :=
  ∀ (pins : List (Addr × Obj)) (s : Shared) (σ : St) (H : Hp) (D : Ends), Inv X pins σ H s → t D σ H → wpAny (model X.prog X.w) X.A (exec st X.env) (SP X pins D) X.xe s
def PSs (X : Cx) (st : List Stmt) (t : TS) : Prop :=
  ∀ (pins : List (Addr × Obj)) (s : Shared) (σ : St) (H : Hp) (D : Ends), Inv X pins σ H s → t D σ H → wpAny (model X.prog X.w) X.A (execs st X.env) (SP X pins D) X.xe s

theorem thn {α : Type} {t : Sem α} {Q Q' : α → Shared → Prop} {M : Model} {A : Around} {E : Value → Shared → Prop} {s : Shared} (h : wpAny M A t Q E s) (hQ : ∀ a s, Q a s → Q' a s) : wpAny M A t Q' E s := wpAny_mono h hQ fun _ _ x => x
end L2

namespace L2
open PySem PySem.Spec PyProof.Rows
section
variable {X : Cx}


def tVar (i : Nat) : TE := fun σ H Q => ∃ v, σ[i]? = some (some v) ∧ Q v H
def tC (v : V) : TE := fun _ H Q => Q v H
theorem pe_var {i : Nat} {x : Str} {pos : Pos} (hN : X.N[i]? = some x) (hv : Vis X.env.scope x) (hd : (x == ("__debug__" : Str)) = false := by decide) (hcd : (x == ("__classdict__" : Str)) = false := by decide) : PE X (.Name x pos) (tVar i) := by
  intro pins s σ H Q I h
  obtain ⟨v, e, h⟩ := h
  obtain ⟨m, hn, hl⟩ := I.loc
  obtain ⟨u, r, l⟩ := hl i x v hN e hv
  have fin : EP X pins σ Q u s := ⟨v, H, I, r, h⟩
  rcases l with ⟨hk, hm⟩ | ⟨hk, c, hc, hcell⟩
  · exact wpAny_Name (wpAny_loadName_local I.ok.kind hk hn hm fin) hd
  · rcases hk with hk | hk
    · exact wpAny_Name (wpAny_loadName_cell I.ok.kind hk hc hcell fin) hd
    · exact wpAny_Name (wpAny_loadName_free I.ok.kind hk hc hcell fin hcd) hd
theorem pe_int {i j pos} : PE X (.Constant (.int i) j pos) (tC (.int i)) := fun _ _ _ H _ I h => wpAny_Constant_int ⟨.int i, H, I.tok _, ⟨_, rfl⟩, h⟩
theorem pe_bl {b j pos} : PE X (.Constant (.bool b) j pos) (tC (.bl b)) := fun _ _ _ H _ I h => Constant_bool ⟨.bl b, H, I, rfl, h⟩
theorem pe_non {j pos} : PE X (.Constant .none j pos) (tC .non) := fun _ _ _ H _ I h => Constant_none ⟨.non, H, I, rfl, h⟩
def Gl (X : Cx) (x : Str) : Prop := X.env.kindOf x = some .globalImplicit
theorem ld_glob {E : Value → Shared → Prop} {pins : List (Addr × Obj)} {s : Shared} {σ : St} {H : Hp} {x : Str} {u : Value} {pos : Pos} {Q : Value → Shared → Prop} (I : Inv X pins σ H s) (hg : Gl X x) (hm : X.mg x = some u) (h : Q u s)
    (hd : (x == ("__debug__" : Str)) = false := by decide) : wpAny (model X.prog X.w) X.A (eval (.Name x pos) X.env) Q E s :=
  Calls.Name_function_global I.ok.kind hg (Calls.loadGlobal_global (by rw [I.ok.glob]; exact I.mod.glob.keeps I.bk) hm h) hd
theorem ld_blt {E : Value → Shared → Prop} {pins : List (Addr × Obj)} {s : Shared} {σ : St} {H : Hp} {x : Str} {u : Value} {pos : Pos} {Q : Value → Shared → Prop} (I : Inv X pins σ H s) (hg : Gl X x) (hm : X.mg x = none) (hv : bootBuiltins x = some u) (h : Q u s)
    (hn : x ≠ "__name__" := by decide) (hd : (x == ("__debug__" : Str)) = false := by decide) : wpAny (model X.prog X.w) X.A (eval (.Name x pos) X.env) Q E s := by
  obtain ⟨mb, h1, h2⟩ := I.mod.blt
  exact Calls.Name_function_global I.ok.kind hg (Calls.loadGlobal_builtin (by rw [I.ok.glob]; exact I.mod.glob.keeps I.bk) hm (by rw [I.ok.blt]; exact h1.keeps I.bk) ((h2 x hn).trans hv) h) hd

theorem pe_glob {x : Str} {v : V} {u : Value} {pos : Pos} (hg : Gl X x) (hm : X.mg x = some u) (r : RelV v u) (hd : (x == ("__debug__" : Str)) = false := by decide) : PE X (.Name x pos) (tC v) :=
  fun _ _ _ H _ I h => ld_glob I hg hm ⟨v, H, I, r, h⟩ hd
theorem pe_bltn {x : Str} {v : V} {u : Value} {pos : Pos} (hg : Gl X x) (hm : X.mg x = none) (hv : bootBuiltins x = some u) (r : RelV v u) (hn : x ≠ "__name__" := by decide) (hd : (x == ("__debug__" : Str)) = false := by decide) : PE X (.Name x pos) (tC v) :=
  fun _ _ _ H _ I h => ld_blt I hg hm hv ⟨v, H, I, r, h⟩ hn hd



variable {a b : Expr} {ta tb : TE} {pos : Pos}
def PC (X : Cx) (op : CmpOp) (a b : Expr) (t : TE) : Prop :=
  ∀ (pins : List (Addr × Obj)) (s : Shared) (σ : St) (H : Hp) (Q : VK), Inv X pins σ H s → t σ H Q →
    wpAny (model X.prog X.w) X.A (eval a X.env) (fun v s₁ => wpAny (model X.prog X.w) X.A (eval b X.env) (fun u s₂ => wpAny (model X.prog X.w) X.A (compareOp op v u) (EP X pins σ Q) X.xe s₂) X.xe s₁) X.xe s
theorem nobehind (b : Expr) {op : CmpOp} (h : op ≠ .In) (h2 : op ≠ .NotIn) : behindInMarks op b = false := by
  have e1 : (op == CmpOp.In) = false := by cases op <;> first | rfl | exact absurd rfl h
  have e2 : (op == CmpOp.NotIn) = false := by cases op <;> first | rfl | exact absurd rfl h2
  cases b <;> simp [behindInMarks, e1, e2]
def tNotN (ta : TE) : TE := fun σ H Q => ta σ H fun x H1 => Q (.bl (!decide (x = .non))) H1
theorem RelV.none_iff {x : V} {v : Value} (r : RelV x v) : (v == Value.none) = decide (x = .non) := by
  cases x with
  | non => cases r; rfl
  | bl _ => cases r; rfl
  | int _ => obtain ⟨t, rfl⟩ := r; rfl
  | str _ => obtain ⟨t, rfl⟩ := r; rfl
  | byt _ => obtain ⟨t, rfl⟩ := r; rfl
  | flt _ => obtain ⟨t, rfl⟩ := r; rfl
  | ref _ => cases r; rfl
  | ty _ => cases r; rfl
theorem pc_notN {j pos'} (ha : PE X a ta) : PC X .IsNot a (.Constant .none j pos') (tNotN ta) := by
  intro pins s σ H Q I h
  refine thn (ha pins s σ H _ I h) fun v s1 ⟨x, H1, I1, r1, q1⟩ => ?_
  exact Constant_none (isnot_none_gen ⟨.bl _, H1, I1, by rw [r1.none_iff]; rfl, q1⟩)

def tB (t : TE) : TT := fun σ H Q => t σ H fun x H1 => ∃ c, x = .bl c ∧ Q c H1
theorem pt_cmp {op : CmpOp} {t : TE} (h : PC X op a b t) (h1 : behindInMarks op b = false := by first | exact nobehind _ (by decide) (by decide) | rfl) : PT X (.Compare a [op] [b] pos) (tB t) := by
  intro pins s σ H Q I hw
  refine wpAny_isTrue_Compare1 (thn (h pins s σ H _ I hw) fun v s1 h1 => thn h1 fun u s2 h2 => thn h2 fun c s3 ⟨x, H1, I1, r1, q1⟩ => ?_) h1
  obtain ⟨d, rfl, q⟩ := q1
  cases r1
  exact wpAny_truthy_bool ⟨H1, I1, q⟩

theorem pt_val {e : Expr} {t : TE} (h : PE X e t) (he : ∀ whole, isTrue e X.env whole = (do let v ← whole; standAt e.pos; holding [v] (truthy v)) := by intro _; rfl) : PT X e (tB t) := by
  intro pins s σ H Q I hw
  refine isTrue_plain (thn (h pins s σ H _ I hw) fun v s1 ⟨x, H1, I1, r1, q1⟩ => ?_) (he _)
  obtain ⟨d, rfl, q⟩ := q1
  cases r1
  exact wpAny_truthy_bool ⟨H1, I1, q⟩


variable {tA tB' : TT} {rest : List Expr}
def tAnd (t u : TT) : TT := fun σ H Q => t σ H fun c H1 => if c = true then u σ H1 Q else Q false H1
def tOr (t u : TT) : TT := fun σ H Q => t σ H fun c H1 => if c = true then Q true H1 else u σ H1 Q
def tNot (t : TT) : TT := fun σ H Q => t σ H fun c H1 => Q (!c) H1
theorem pw_and1 (ha : PT X a tA) : PW X (.BoolOp .And [a] pos) tA := by
  intro wh pins s σ H Q I h
  refine isTrue_and (thn (ha pins s σ H Q I h) fun c s1 e => ?_)
  cases c with
  | true => exact isTrue_and_nil e
  | false => exact e
theorem pw_or1 (ha : PT X a tA) : PW X (.BoolOp .Or [a] pos) tA := by
  intro wh pins s σ H Q I h
  refine isTrue_or (thn (ha pins s σ H Q I h) fun c s1 e => ?_)
  cases c with
  | false => exact isTrue_or_nil e
  | true => exact e
theorem pw_and (ha : PT X a tA) (hb : PW X (.BoolOp .And (b :: rest) pos) tB') : PW X (.BoolOp .And (a :: b :: rest) pos) (tAnd tA tB') := by
  intro wh pins s σ H Q I h
  refine isTrue_and (thn (ha pins s σ H _ I h) fun c s1 ⟨H1, I1, q1⟩ => ?_)
  cases c with
  | true => exact hb wh pins s1 σ H1 Q I1 q1
  | false => exact ⟨H1, I1, q1⟩
theorem pw_or (ha : PT X a tA) (hb : PW X (.BoolOp .Or (b :: rest) pos) tB') : PW X (.BoolOp .Or (a :: b :: rest) pos) (tOr tA tB') := by
  intro wh pins s σ H Q I h
  refine isTrue_or (thn (ha pins s σ H _ I h) fun c s1 ⟨H1, I1, q1⟩ => ?_)
  cases c with
  | true => exact ⟨H1, I1, q1⟩
  | false => exact hb wh pins s1 σ H1 Q I1 q1
theorem pt_not (ha : PT X a tA) : PT X (.UnaryOp .Not a pos) (tNot tA) := by
  intro pins s σ H Q I h
  exact isTrue_not (ha pins s σ H (fun c H1 => Q (!c) H1) I h)

def tAndV (ta tb : TE) : TE := fun σ H Q => ta σ H fun x H1 => ∃ c, x = .bl c ∧ if c = true then tb σ H1 Q else Q (.bl false) H1
def tNotV (ta : TE) : TE := fun σ H Q => ta σ H fun x H1 => ∃ c, x = .bl c ∧ Q (.bl (!c)) H1
theorem pe_one {op} {t : TE} (h : PE X a t) : PE X (.BoolOp op [a] pos) t := fun pins s σ H Q I hw => BoolOp_one (h pins s σ H Q I hw)
theorem pe_and (ha : PE X a ta) (hb : PE X (.BoolOp .And (b :: rest) pos) tb) : PE X (.BoolOp .And (a :: b :: rest) pos) (tAndV ta tb) := by
  intro pins s σ H Q I h
  refine BoolOp_and (thn (ha pins s σ H _ I h) fun v s1 ⟨x, H1, I1, r1, q1⟩ => ?_)
  obtain ⟨c, rfl, q1⟩ := q1
  cases r1
  refine wpAny_truthy_bool ?_
  cases c with
  | true => exact hb pins s1 σ H1 Q I1 q1
  | false => exact ⟨.bl false, H1, I1, rfl, q1⟩
theorem pe_not (ha : PE X a ta) : PE X (.UnaryOp .Not a pos) (tNotV ta) := by
  intro pins s σ H Q I h
  refine UnaryOp_ (thn (ha pins s σ H _ I h) fun v s1 ⟨x, H1, I1, r1, q1⟩ => ?_)
  obtain ⟨c, rfl, q1⟩ := q1
  cases r1
  exact not_of (wpAny_truthy_bool ⟨.bl (!c), H1, I1, rfl, q1⟩)

def tIf (t : TT) (ta tb : TE) : TE := fun σ H Q => t σ H fun c H1 => if c = true then ta σ H1 Q else tb σ H1 Q
theorem pe_ifExp {c : Expr} (hc : PT X c tA) (ha : PE X a ta) (hb : PE X b tb) : PE X (.IfExp c a b pos) (tIf tA ta tb) := by
  intro pins s σ H Q I h
  refine wpAny_IfExp (thn (hc pins s σ H _ I h) fun d s1 ⟨H1, I1, q1⟩ => ?_)
  cases d with
  | true => exact ha pins s1 σ H1 Q I1 q1
  | false => exact hb pins s1 σ H1 Q I1 q1
end
end L2

namespace L2
open PySem PySem.Spec PyProof.Rows


def SqL (K : PySem.W.Frag) (H : Hp) (a : Addr) (xs : List V) : Prop :=
  Rd H a (.lst xs) ∨
    ∃ (o : Obj) (its : Array Value) (n : Nat), K.lookup a = some o ∧ o.cls = .type "list" ∧ o.dict = none ∧ o.data = .seq its n ∧ its.size ≤ sizeLine ∧ Vals xs its.toList
def SqT (K : PySem.W.Frag) (H : Hp) (a : Addr) (xs : List V) : Prop :=
  Rd H a (.tup xs) ∨
    ∃ (o : Obj) (its : Array Value) (n : Nat), K.lookup a = some o ∧ o.cls = .type "tuple" ∧ o.data = .seq its n ∧ its.size ≤ sizeLine ∧ Vals xs its.toList
def absV : Value → Option V
  | .none => some .non
  | .bool b => some (.bl b)
  | .int i _ => some (.int i)
  | .str x _ => some (.str x)
  | .bytes b _ => some (.byt b)
  | .float b _ => some (.flt b)
  | .ref a => some (.ref a)
  | .type n => some (.ty n)
  | _ => none
theorem RelV.abs {x : V} {u : Value} (r : RelV x u) : absV u = some x := by
  cases x with
  | non => cases r; rfl
  | bl _ => cases r; rfl
  | int _ => obtain ⟨t, rfl⟩ := r; rfl
  | str _ => obtain ⟨t, rfl⟩ := r; rfl
  | byt _ => obtain ⟨t, rfl⟩ := r; rfl
  | flt _ => obtain ⟨t, rfl⟩ := r; rfl
  | ref _ => cases r; rfl
  | ty _ => cases r; rfl
theorem RelV.inj {x y : V} {u : Value} (r : RelV x u) (q : RelV y u) : x = y := Option.some.inj (r.abs.symm.trans q.abs)
theorem Vals.inj : ∀ {xs ys : List V} {us : List Value}, Vals xs us → Vals ys us → xs = ys
  | _, _, _, .nil, .nil => rfl
  | _, _, _, .cons r t, .cons r' t' => by rw [r.inj r', Vals.inj t t']
section
variable {X : Cx} {pins : List (Addr × Obj)} {σ : St} {H : Hp} {s : Shared} {a : Addr} {xs ys : List V}
theorem SqL.of {K : PySem.W.Frag} (h : H a = some (.lst xs)) : SqL K H a xs := .inl (.inl h)
theorem SqT.of {K : PySem.W.Frag} (h : H a = some (.tup xs)) : SqT K H a xs := .inl (.inl h)
theorem Inv.list (I : Inv X pins σ H s) (h : SqL X.K H a xs) : ∃ its : List Value, Vals xs its ∧ PlainL s.heap a its.toArray ∧ xs.length ≤ sizeLine := by
  rcases h with h | ⟨o, its, n, hk, hc, hd, hs, hz, r⟩
  · obtain ⟨z, its, n, r, e⟩ := h.ok I.hok
    exact ⟨its, r, ⟨_, n, e, rfl, rfl, rfl⟩, z⟩
  · refine ⟨its.toList, r, ⟨o, n, I.kIn a o hk, hc, hd, by simpa using hs⟩, ?_⟩
    have e := r.length
    simp only [Array.length_toList] at e
    omega
theorem Inv.tuple (I : Inv X pins σ H s) (h : SqT X.K H a xs) : ∃ its : List Value, Vals xs its ∧ IsTup s.heap a its.toArray ∧ xs.length ≤ sizeLine := by
  rcases h with h | ⟨o, its, n, hk, hc, hs, hz, r⟩
  · obtain ⟨z, its, r, p⟩ := h.ok I.hok
    exact ⟨its, r, p, z⟩
  · refine ⟨its.toList, r, ⟨o, I.kIn a o hk, hc, n, by simpa using hs⟩, ?_⟩
    have e := r.length
    simp only [Array.length_toList] at e
    omega
theorem Inv.list_inj (I : Inv X pins σ H s) (h : SqL X.K H a xs) (h' : SqL X.K H a ys) : xs = ys := by
  obtain ⟨its, r, ⟨o, n, e, _, _, d⟩, _⟩ := I.list h
  obtain ⟨its', r', ⟨o', n', e', _, _, d'⟩, _⟩ := I.list h'
  rw [e] at e'; cases e'
  rw [d] at d'
  injection d' with d1 _
  have : its = its' := by simpa using congrArg Array.toList d1
  subst this
  exact r.inj r'
theorem Inv.tuple_inj (I : Inv X pins σ H s) (h : SqT X.K H a xs) (h' : SqT X.K H a ys) : xs = ys := by
  obtain ⟨its, r, ⟨o, e, _, n, d⟩, _⟩ := I.tuple h
  obtain ⟨its', r', ⟨o', e', _, n', d'⟩, _⟩ := I.tuple h'
  rw [e] at e'; cases e'
  rw [d] at d'
  injection d' with d1 _
  have : its = its' := by simpa using congrArg Array.toList d1
  subst this
  exact r.inj r'
end


abbrev Cx.wish (X : Cx) (E : Value → Shared → Prop) : Cx := { X with xe := E }

abbrev Cx.nox (X : Cx) : Cx := X.wish fun _ _ => False
theorem Cx.Ok.wish {X : Cx} (ok : X.Ok) (E : Value → Shared → Prop) : (X.wish E).Ok :=
  ⟨ok.mod, ok.kind, ok.glob, ok.blt, ok.above, ok.inj, ok.has, ok.cab, ok.hd, ok.frames, ok.stk, ok.exf, ok.bs, ok.bsz, ok.noex, ok.exfs, ok.funs, ok.frf⟩
theorem Cx.Ok.unwish {X : Cx} {E : Value → Shared → Prop} (ok : (X.wish E).Ok) : X.Ok :=
  ⟨ok.mod, ok.kind, ok.glob, ok.blt, ok.above, ok.inj, ok.has, ok.cab, ok.hd, ok.frames, ok.stk, ok.exf, ok.bs, ok.bsz, ok.noex, ok.exfs, ok.funs, ok.frf⟩
section
variable {X : Cx} {pins : List (Addr × Obj)} {σ : St} {H : Hp} {s : Shared} {E : Value → Shared → Prop}
theorem Inv.wish (I : Inv X pins σ H s) (E : Value → Shared → Prop) : Inv (X.wish E) pins σ H s := ⟨I.ok.wish E, I.os, I.bare, I.base, I.loc, I.cell, I.free, I.freeC, I.pin, I.hok, I.len⟩
theorem Inv.unwish (I : Inv (X.wish E) pins σ H s) : Inv X pins σ H s := ⟨I.ok.unwish, I.os, I.bare, I.base, I.loc, I.cell, I.free, I.freeC, I.pin, I.hok, I.len⟩
theorem SP.unwish {D : Ends} {f : Flow} {s' : Shared} (h : SP (X.wish E) pins D f s') : SP X pins D f s' := by
  cases f with
  | next => obtain ⟨σ', H', I, q⟩ := h; exact ⟨σ', H', I.unwish, q⟩
  | brk => obtain ⟨σ', H', I, q⟩ := h; exact ⟨σ', H', I.unwish, q⟩
  | cont => obtain ⟨σ', H', I, q⟩ := h; exact ⟨σ', H', I.unwish, q⟩
  | ret u => obtain ⟨v, σ', H', I, r, q⟩ := h; exact ⟨v, σ', H', I.unwish, r, q⟩
theorem PSs.nox {st : List Stmt} {t : TS} (h : PSs X.nox st t) : PSs X st t := fun pins s σ H D I hw =>
  wpAny_mono (h pins s σ H D (I.wish _) hw) (fun _ _ q => q.unwish) fun _ _ z => False.elim z
end


section
variable {X : Cx} {st : Stmt} {rest : List Stmt} {t u : TS} {e : Expr} {te : TE} {pos : Pos}
def tNext : TS := fun D σ H => D.nx σ H
def tSeq (t u : TS) : TS := fun D σ H => t { D with nx := u D } σ H
theorem pss_nil : PSs X [] tNext := fun _ _ σ H _ I h => wpAny_execs_nil ⟨σ, H, I, h⟩
theorem pss_cons (h1 : PS X st t) (h2 : PSs X rest u) : PSs X (st :: rest) (tSeq t u) := by
  intro pins s σ H D I h
  refine wpAny_execs_cons (thn (h1 pins s σ H { D with nx := u D } I h) fun f s1 q => ?_)
  cases f with
  | next =>
    obtain ⟨σ', H', I', q⟩ := q
    exact h2 pins s1 σ' H' D I' q
  | ret v => exact q
  | brk => exact q
  | cont => exact q
theorem pss_one (h1 : PS X st t) : PSs X [st] t := by
  intro pins s σ H D I h
  refine wpAny_execs_cons (thn (h1 pins s σ H D I h) fun f s1 q => ?_)
  cases f with
  | next => exact wpAny_execs_nil q
  | ret v => exact q
  | brk => exact q
  | cont => exact q
theorem Inv.quiet {pins : List (Addr × Obj)} {σ : St} {H : Hp} {s : Shared} (I : Inv X pins σ H s) : interactive X.env = false := by simp [interactive, I.ok.kind]

def tDrop (te : TE) : TS := fun D σ H => te σ H fun _ H1 => D.nx σ H1
theorem ps_expr (he : PE X e te) (hs : swapsWith e none pos.line X.env = pure false := by rfl) : PS X (.Expr e pos) (tDrop te) := by
  intro pins s σ H D I h
  exact wpAny_Expr_any (thn (he pins s σ H _ I h) fun v s1 ⟨x, H1, I1, r1, q1⟩ => ⟨σ, H1, I1, q1⟩) I.quiet hs
def tRet (te : TE) : TS := fun D σ H => te σ H D.rt
theorem ps_ret (he : PE X e te) : PS X (.Return (some e) pos) (tRet te) := by
  intro pins s σ H D I h
  exact wpAny_Return_some (thn (he pins s σ H _ I h) fun v s1 ⟨x, H1, I1, r1, q1⟩ => ⟨x, σ, H1, I1, r1, q1⟩)
def tIfS (c : TT) (t u : TS) : TS := fun D σ H => c σ H fun b H1 => if b = true then t D σ H1 else u D σ H1
theorem ps_if {c : Expr} {a b : List Stmt} {tc : TT} (hc : PT X c tc) (ha : PSs X a t) (hb : PSs X b u) : PS X (.If c a b pos) (tIfS tc t u) := by
  intro pins s σ H D I h
  refine wpAny_If (thn (hc pins s σ H _ I h) fun d s1 ⟨H1, I1, q1⟩ => ?_)
  cases d with
  | true => exact ha pins s1 σ H1 D I1 q1
  | false => exact hb pins s1 σ H1 D I1 q1

end


abbrev TG := V → St → Hp → (St → Hp → Prop) → Prop
abbrev TGs := List V → St → Hp → (St → Hp → Prop) → Prop
def PG (X : Cx) (target : Expr) (t : TG) : Prop :=
  ∀ (pins : List (Addr × Obj)) (s : Shared) (σ : St) (H : Hp) (v : V) (u : Value) (Q : St → Hp → Prop), Inv X pins σ H s → RelV v u → t v σ H Q →
    wpAny (model X.prog X.w) X.A (assign target X.env u) (fun _ s' => ∃ σ' H', Inv X pins σ' H' s' ∧ Q σ' H') X.xe s

def PGs (X : Cx) (ts : List Expr) (t : TGs) : Prop :=
  ∀ (pins : List (Addr × Obj)) (s : Shared) (σ : St) (H : Hp) (vs : List V) (us : List Value) (Q : St → Hp → Prop), Inv X pins σ H s → Vals vs us → t vs σ H Q →
    wpAny (model X.prog X.w) X.A (assignInOrder ((assignEach ts X.env).map (·.2)) us) (fun _ s' => ∃ σ' H', Inv X pins σ' H' s' ∧ Q σ' H') X.xe s

section
variable {X : Cx} {pos : Pos}
def gName (i : Nat) : TG := fun v σ H Q => Q (σ.set i (some v)) H
theorem pg_name {i : Nat} {x : Str} (hN : X.N.Nodup) (hi : X.N[i]? = some x) (hx : Loc X.env.scope x) (hf : X.fn x = true ∨ X.env.scope.names.lookup x = some .local := by first | exact .inl rfl | exact .inr rfl | assumption) : PG X (.Name x pos) (gName i) := by
  intro pins s σ H v u Q I r h
  exact wpAny_assign_Name (store_ok I hN hi hx r (fun s' I' => ⟨_, H, I', h⟩) hf)
def gNil : TGs := fun vs σ H Q => vs = [] ∧ Q σ H
def gCons (t : TG) (u : TGs) : TGs := fun vs σ H Q => ∃ v r, vs = v :: r ∧ t v σ H fun σ' H' => u r σ' H' Q
theorem pgs_nil : PGs X [] gNil := by
  intro pins s σ H vs us Q I r h
  obtain ⟨e, h⟩ := h
  subst e
  cases r
  exact assignInOrder_nil ⟨σ, H, I, h⟩
theorem pgs_cons {e : Expr} {es : List Expr} {t : TG} {u : TGs} (h1 : PG X e t) (h2 : PGs X es u)
    (hs : (assignEach (e :: es) X.env).map (·.2) = assign e X.env :: (assignEach es X.env).map (·.2) := by rfl) : PGs X (e :: es) (gCons t u) := by
  intro pins s σ H vs us Q I r h
  obtain ⟨v, vr, e1, h⟩ := h
  subst e1
  cases r with
  | cons r rr =>
    rw [hs]
    refine assignInOrder_cons (thn (h1 pins s σ H _ _ _ I r h) fun _ s1 ⟨σ1, H1, I1, q1⟩ => ?_)
    exact h2 pins s1 σ1 H1 _ _ Q I1 rr q1

def gTup (K : PySem.W.Frag) (n : Nat) (t : TGs) : TG := fun v σ H Q => ∃ a xs, v = .ref a ∧ SqT K H a xs ∧ xs.length = n ∧ t xs σ H Q
theorem pg_tup {es : List Expr} {k : Nat} {t : TGs} {n : Nat} (hc : X.calm = true) (h : PGs X es t)
    (hn : (assignEach es X.env).length = n := by rfl) (hst : (assignEach es X.env).findIdx? (·.1) = none := by rfl) : PG X (.Tuple es k pos) (gTup X.K n t) := by
  intro pins s σ H v u Q I r hw
  obtain ⟨a, xs, e1, hq, hl, hw⟩ := hw
  subst e1
  cases r
  obtain ⟨its, rv, ht, hz⟩ := I.tuple hq
  refine assign_Tuple_tuple (I.ok.hd hc) ht (by simp [hn, ← hl, rv.length]) hst fun h' hx => ?_
  have I1 : Inv X pins σ H { s with heap := h' } := I.kept (t' := s.toks) fun b o e => hx b o (Nat.ne_of_lt (Heap.lt_size e)) e
  exact h pins _ σ H xs _ Q I1 (by simpa using rv) hw

def tAsg (te : TE) (g : TG) : TS := fun D σ H => te σ H fun x H1 => g x σ H1 D.nx
theorem ps_set {i : Nat} {x : Str} {e : Expr} {te : TE} {pos' : Pos} (hN : X.N.Nodup) (hi : X.N[i]? = some x) (hx : Loc X.env.scope x) (he : PE X e te) (hs : swapsWith e (some (.Name x pos')) pos.line X.env = pure false := by rfl) (hf : X.fn x = true ∨ X.env.scope.names.lookup x = some .local := by first | exact .inl rfl | exact .inr rfl | assumption) :
    PS X (.Assign [.Name x pos'] e pos) (tAsg te (gName i)) := by
  intro pins s σ H D I h
  refine wpAny_Assign_Name (thn (he pins s σ H _ I h) fun v s1 ⟨y, H1, I1, r1, q1⟩ => ?_) hs
  exact store_ok I1 hN hi hx r1 (fun s2 I2 => ⟨_, H1, I2, q1⟩) hf

end


section
variable {X : Cx} {pos : Pos}

def tWhile (c : TT) (tb : TS) : TS := fun D σ H => ∃ W : Nat → St → Hp → Prop, (∃ m, W m σ H) ∧ ∀ m σ H, W m σ H →
  c σ H fun b H1 => if b = true then ∃ N : St → Hp → Prop, (∀ σ' H', N σ' H' → ∃ m', m' < m ∧ W m' σ' H') ∧ tb { D with nx := N, ct := N, bk := D.nx } σ H1 else D.nx σ H1
theorem ps_while {c : Expr} {body : List Stmt} {tc : TT} {tb : TS} (hp : PassesOwn (model X.prog X.w) X.A X.env X.xe) (hc : PT X c tc) (hb : PSs X body tb) : PS X (.While c body [] pos) (tWhile tc tb) := by
  intro pins s σ H D I h
  obtain ⟨W, ⟨m0, w0⟩, turn⟩ := h
  refine wpAny_While (codeAny_whileLoop (fun n s' => ∃ σ' H', Inv X pins σ' H' s' ∧ W n σ' H') ?_ m0 ⟨σ, H, I, w0⟩)
  rintro n s1 ⟨σ1, H1, I1, w1⟩
  refine wpAny_passesOwn hp (thn (hc pins s1 σ1 H1 _ I1 (turn n σ1 H1 w1)) fun b s2 ⟨H2, I2, q2⟩ => ?_)
  cases b with
  | true =>
    obtain ⟨N, hN, q2⟩ := q2
    rw [if_pos rfl]
    refine wpAny_passesOwn hp (thn (hb pins s2 σ1 H2 _ I2 q2) fun f s3 q3 => ?_)
    cases f with
    | next =>
      obtain ⟨σ3, H3, I3, n3⟩ := q3
      obtain ⟨m', hm, w3⟩ := hN σ3 H3 n3
      exact ⟨m', hm, σ3, H3, I3, w3⟩
    | cont =>
      obtain ⟨σ3, H3, I3, n3⟩ := q3
      obtain ⟨m', hm, w3⟩ := hN σ3 H3 n3
      exact ⟨m', hm, σ3, H3, I3, w3⟩
    | brk => exact q3
    | ret v => exact q3
  | false =>
    rw [if_neg Bool.false_ne_true]
    exact wpAny_execs_nil ⟨σ1, H2, I2, q2⟩
end



structure It where
  go : Nat → Hp → Prop
  yld : Nat → Hp → V → Hp → Prop
  stop : Nat → Hp → Prop

def FpOk (X : Cx) (pins : List (Addr × Obj)) (H : Hp) (b : Addr) : Prop :=
  H b = none ∧ b ≠ X.env.locals ∧ b ∉ X.fs ∧ (b ∈ X.ex ∨ X.s₀.heap.objs.size ≤ b) ∧ (∀ x c, X.env.cells.lookup x = some c → c ≠ b) ∧ ∀ p ∈ X.pn ++ pins, p.1 ≠ b
theorem Inv.fpOk {X : Cx} {pins : List (Addr × Obj)} {σ : St} {H H' : Hp} {s : Shared} {b : Addr} (I : Inv X pins σ H s) (hb : s.heap.objs.size ≤ b) (hn : H' b = none) : FpOk X pins H' b := by
  refine ⟨hn, Nat.ne_of_gt (Nat.lt_of_lt_of_le I.lt hb), I.nofs hb, .inr (Nat.le_trans I.sz hb), fun x c e z => ?_, fun p hp z => ?_⟩
  · obtain ⟨v, q⟩ := I.cell x c e
    exact absurd (Nat.lt_of_lt_of_le q.lt (by rw [z]; exact hb)) (Nat.lt_irrefl _)
  · exact absurd (Nat.lt_of_lt_of_le (Heap.lt_size (I.pin p hp).1) (by rw [z]; exact hb)) (Nat.lt_irrefl _)
structure Turn (P : Program) (w : World) (K : PySem.W.Frag) (tg : Expr) (J : It) (fp : List Addr) (it : Addr) (tn : Nat → Heap → Prop) : Prop where
  mem : it ∈ fp
  obj : ∀ i h, tn i h → ∀ b ∈ fp, ∃ o, h.get? b = some o ∧ ∀ v, o.data ≠ .cell v
  keep : ∀ i h h', tn i h → (∀ b ∈ fp, ∀ o, h.get? b = some o → h'.get? b = some o) → tn i h'
  item : ∀ (X : Cx), X.prog = P → X.w = w → X.K = K → X.calm = true → ∀ (i : Nat) (pins : List (Addr × Obj)) (s : Shared) (σ : St) (H : Hp) (E : Value → Shared → Prop), Inv X pins σ H s → (∀ b ∈ fp, FpOk X pins H b) → tn i s.heap → J.go i H →
    wpAny (model P w) X.A (pyNext (.ref it)) (fun r s1 => ∃ u, r = some u ∧
      wpAny (model P w) X.A (letOwnedTupleGo tg (.ref it) u) (fun _ s2 => ∃ x H', Inv X pins σ H' s2 ∧ RelV x u ∧ J.yld i H x H' ∧ tn (i + 1) s2.heap ∧ ∀ b ∈ fp, H' b = none) E s1) E s
  done : ∀ (X : Cx), X.prog = P → X.w = w → X.K = K → X.calm = true → ∀ (i : Nat) (pins : List (Addr × Obj)) (s : Shared) (σ : St) (H : Hp) (E : Value → Shared → Prop), Inv X pins σ H s → (∀ b ∈ fp, FpOk X pins H b) → tn i s.heap → J.stop i H →
    wpAny (model P w) X.A (pyNext (.ref it)) (fun r s1 => r = none ∧ Inv X pins σ H s1) E s
  self : ∀ (A : Around) (i : Nat) (s : Shared) (Q : Value → Shared → Prop) (E : Value → Shared → Prop), tn i s.heap → Q (.ref it) s → wpAny (model P w) A (pyIter (.ref it)) Q E s
abbrev TI := St → Hp → (It → Hp → Prop) → Prop

def PIE (X : Cx) (pins : List (Addr × Obj)) (σ : St) (tg : Expr) (R : It → Hp → Prop) (itv : Value) (s2 : Shared) : Prop :=
  ∃ (it : Addr) (fp : List Addr) (tn : Nat → Heap → Prop) (J : It) (H' : Hp), itv = .ref it ∧ Inv X pins σ H' s2 ∧ Turn X.prog X.w X.K tg J fp it tn ∧ tn 0 s2.heap ∧ (∀ b ∈ fp, FpOk X pins H' b) ∧ R J H'
def PI (X : Cx) (tg iter : Expr) (wi : TI) : Prop :=
  ∀ (pins : List (Addr × Obj)) (s : Shared) (σ : St) (H : Hp) (R : It → Hp → Prop), Inv X pins σ H s → wi σ H R →
    wpAny (model X.prog X.w) X.A (eval iter X.env) (fun v s1 => wpAny (model X.prog X.w) X.A (pyIter v) (PIE X pins σ tg R) X.xe s1) X.xe s


theorem go_of {M : Model} {A : Around} {E : Value → Shared → Prop} {s : Shared} {tg : Expr} {it : Addr} {u : Value} {o : Obj} {n : String} {vs : Array Value} {Q : Unit → Shared → Prop} (ho : s.heap.get? it = some o) (hc : o.cls = .type n) (hd : o.data = .fields vs)
    (hn : ["enumerate", "zip", "dict_itemiterator", "dict_reverseitemiterator", "odict_iterator", "itertools.zip_longest", "itertools.pairwise"].contains n = false) (hQ : Q () s) : wpAny M A (letOwnedTupleGo tg (.ref it) u) Q E s := by
  unfold letOwnedTupleGo
  cases tg <;> first
    | exact wpAny_pure hQ
    | (cases u <;> first
        | exact wpAny_pure hQ
        | (refine wpAny_bind (wpAny_load ho ?_)
           rw [hc, hd]
           show wpAny M A (if (["enumerate", "zip", "dict_itemiterator", "dict_reverseitemiterator", "odict_iterator", "itertools.zip_longest", "itertools.pairwise"].contains n && vs[0]? == some (rawInt _)) = true then _ else _) Q E s
           rw [if_neg (by intro h; rw [hn, Bool.false_and] at h; cases h)]
           exact wpAny_pure hQ))


def Itl (K : PySem.W.Frag) (a : Addr) : It :=
  ⟨fun i H => ∃ xs x, SqL K H a xs ∧ xs[i]? = some x, fun i H x H' => H' = H ∧ ∀ xs, SqL K H a xs → xs[i]? = some x, fun i H => ∃ xs, SqL K H a xs ∧ xs.length ≤ i⟩
def Itt (K : PySem.W.Frag) (a : Addr) : It :=
  ⟨fun i H => ∃ xs x, SqT K H a xs ∧ xs[i]? = some x, fun i H x H' => H' = H ∧ ∀ xs, SqT K H a xs → xs[i]? = some x, fun i H => ∃ xs, SqT K H a xs ∧ xs.length ≤ i⟩

def Itr (lo : Int) (n : Nat) : It := ⟨fun i _ => i < n, fun i H x H' => H' = H ∧ x = .int (lo + i), fun i _ => n ≤ i⟩
theorem turn_list {P : Program} {w : World} {K : PySem.W.Frag} {tg : Expr} (a it : Addr) : Turn P w K tg (Itl K a) [it] it (fun i h => h.IsListIter it a i) where
  mem := by simp
  obj := fun i h st b hb => by
    have e : b = it := by simpa using hb
    subst e
    obtain ⟨o, e, c, d⟩ := st
    exact ⟨o, e, fun v z => by rw [d] at z; cases z⟩
  keep := fun i h h' st k => st.at fun o e => k it (by simp) o e
  item := by
    intro X hP hw hK hc i pins s σ H E I hf st hg
    subst hP hw hK
    obtain ⟨xs, x, hq, hx⟩ := hg
    obtain ⟨its, rv, p, hz⟩ := I.list hq
    obtain ⟨u, hu, ru⟩ := rv.get hx
    obtain ⟨f0, f1, f2, f3, f4, f5⟩ := hf it (by simp)
    refine wpAny_pyNext_list_item st p.isList (x := u) (by simpa using hu) fun h' st' sb => ?_
    have I1 : Inv X pins σ H { s with heap := h' } := I.turned (t' := s.toks) (fun b o hb e => (sb.2 b hb).trans e) f0 f1 f3 f4 f5
    obtain ⟨o, e, c, d⟩ := id st'
    exact ⟨u, rfl, go_of (s := { s with heap := h' }) e c d (by decide) ⟨x, H, I1, ru, ⟨rfl, fun ys hy => by rw [I.list_inj hy hq]; exact hx⟩, st', fun b hb => (hf b hb).1⟩⟩
  done := by
    intro X hP hw hK hc i pins s σ H E I hf st hg
    subst hP hw hK
    obtain ⟨xs, hq, hx⟩ := hg
    obtain ⟨its, rv, p, hz⟩ := I.list hq
    obtain ⟨f0, f1, f2, f3, f4, f5⟩ := hf it (by simp)
    have hl := rv.length
    exact wpAny_pyNext_list_end (I.ok.hd hc) st p.isList (by simp; omega) fun h' eb => ⟨rfl, I.turned (t' := s.toks) (fun b o hb e => eb b o hb e) f0 f1 f3 f4 f5⟩
  self := fun _ _ _ _ _ st h => wpAny_pyIter_listiter st h
theorem turn_tuple {P : Program} {w : World} {K : PySem.W.Frag} {tg : Expr} (a it : Addr) : Turn P w K tg (Itt K a) [it] it (fun i h => h.IsTupleIter it a i) where
  mem := by simp
  obj := fun i h st b hb => by
    have e : b = it := by simpa using hb
    subst e
    obtain ⟨o, e, c, d⟩ := st
    exact ⟨o, e, fun v z => by rw [d] at z; cases z⟩
  keep := fun i h h' st k => st.at fun o e => k it (by simp) o e
  item := by
    intro X hP hw hK hc i pins s σ H E I hf st hg
    subst hP hw hK
    obtain ⟨xs, x, hq, hx⟩ := hg
    obtain ⟨its, rv, p, hz⟩ := I.tuple hq
    obtain ⟨u, hu, ru⟩ := rv.get hx
    obtain ⟨f0, f1, f2, f3, f4, f5⟩ := hf it (by simp)
    refine wpAny_pyNext_tuple_item st (show s.heap.IsTuple a its.toArray from p) (x := u) (by simpa using hu) fun h' st' sb => ?_
    have I1 : Inv X pins σ H { s with heap := h' } := I.turned (t' := s.toks) (fun b o hb e => (sb.2 b hb).trans e) f0 f1 f3 f4 f5
    obtain ⟨o, e, c, d⟩ := id st'
    exact ⟨u, rfl, go_of (s := { s with heap := h' }) e c d (by decide) ⟨x, H, I1, ru, ⟨rfl, fun ys hy => by rw [I.tuple_inj hy hq]; exact hx⟩, st', fun b hb => (hf b hb).1⟩⟩
  done := by
    intro X hP hw hK hc i pins s σ H E I hf st hg
    subst hP hw hK
    obtain ⟨xs, hq, hx⟩ := hg
    obtain ⟨its, rv, p, hz⟩ := I.tuple hq
    obtain ⟨f0, f1, f2, f3, f4, f5⟩ := hf it (by simp)
    have hl := rv.length
    exact wpAny_pyNext_tuple_end (I.ok.hd hc) st (show s.heap.IsTuple a its.toArray from p) (by simp; omega) fun h' eb => ⟨rfl, I.turned (t' := s.toks) (fun b o hb e => eb b o hb e) f0 f1 f3 f4 f5⟩
  self := fun _ _ _ _ _ st h => wpAny_pyIter_tupleiter st h
theorem turn_range {P : Program} {w : World} {K : PySem.W.Frag} {tg : Expr} (it : Addr) (lo : Int) (n : Nat) : Turn P w K tg (Itr lo n) [it] it (fun i h => IsRangeIter h it (lo + (i : Nat) * 1) ((n : Int) - (i : Nat)) 1) where
  mem := by simp
  obj := fun i h st b hb => by
    have e : b = it := by simpa using hb
    subst e
    exact ⟨_, st, fun v z => by
      have z' : Data.fields _ = Data.cell v := z
      cases z'⟩
  keep := fun i h h' st k => k it (by simp) _ st
  item := by
    intro X hP hw hK hc i pins s σ H E I hf st hg
    subst hP hw hK
    obtain ⟨f0, f1, f2, f3, f4, f5⟩ := hf it (by simp)
    have W := Walks.range (prog := X.prog) (w := X.w) (I.ok.hd hc) it lo 1 n
    refine W.item i s _ _ hg st fun v h' tk hv st' kk => ?_
    obtain ⟨t, rfl⟩ := hv
    have I1 : Inv X pins σ H { s with heap := h', toks := tk } := I.turned (fun b o hb e => kk b o (by simpa using hb) e) f0 f1 f3 f4 f5
    refine ⟨_, rfl, go_of (s := { s with heap := h', toks := tk }) (n := "range_iterator") st' rfl rfl (by decide) ⟨.int (lo + i), H, I1, ⟨t, ?_⟩, ⟨rfl, rfl⟩, st', fun b hb => (hf b hb).1⟩⟩
    rw [Int.mul_one]
  done := by
    intro X hP hw hK hc i pins s σ H E I hf st hg
    subst hP hw hK
    obtain ⟨f0, f1, f2, f3, f4, f5⟩ := hf it (by simp)
    exact wpAny_pyNext_range_end (I.ok.hd hc) st (by have : n ≤ i := hg; omega) fun h' eb => ⟨rfl, I.turned (t' := s.toks) (fun b o hb e => eb b o hb e) f0 f1 f3 f4 f5⟩
  self := fun _ _ _ _ _ st h => wpAny_pyIter_rangeiter st h
end L2

namespace L2
open PySem PySem.Spec PyProof.Rows
section
variable {X : Cx} {tg : Expr}
def iList (K : PySem.W.Frag) (tl : TE) : TI := fun σ H R => tl σ H fun x H1 => ∃ a, x = .ref a ∧ (∃ xs, SqL K H1 a xs) ∧ R (Itl K a) H1
def iTup (K : PySem.W.Frag) (tl : TE) : TI := fun σ H R => tl σ H fun x H1 => ∃ a, x = .ref a ∧ (∃ xs, SqT K H1 a xs) ∧ R (Itt K a) H1
theorem pi_list {l : Expr} {tl : TE} (hl : PE X l tl) : PI X tg l (iList X.K tl) := by
  intro pins s σ H R I h
  refine thn (hl pins s σ H _ I h) fun v s1 ⟨x, H1, I1, r1, q1⟩ => ?_
  obtain ⟨a, e, ⟨xs, hq⟩, q⟩ := q1
  subst e
  cases r1
  obtain ⟨its, rv, p, hz⟩ := I1.list hq
  refine wpAny_pyIter_list p.isList ?_
  refine ⟨s1.heap.objs.size, [s1.heap.objs.size], _, _, H1, rfl, I1.kept (t' := s1.toks) fun b o e => Heap.get?_push_of_some _ e, turn_list a _, ⟨_, Heap.get?_push_size _ rfl, rfl, rfl⟩, fun b hb => ?_, q⟩
  have e : b = s1.heap.objs.size := by simpa using hb
  subst e
  exact I1.fpOk (Nat.le_refl _) (I1.hok.fresh (Nat.le_refl _))
theorem pi_tup {l : Expr} {tl : TE} (hl : PE X l tl) : PI X tg l (iTup X.K tl) := by
  intro pins s σ H R I h
  refine thn (hl pins s σ H _ I h) fun v s1 ⟨x, H1, I1, r1, q1⟩ => ?_
  obtain ⟨a, e, ⟨xs, hq⟩, q⟩ := q1
  subst e
  cases r1
  obtain ⟨its, rv, p, hz⟩ := I1.tuple hq
  refine wpAny_pyIter_tuple (show s1.heap.IsTuple a its.toArray from p) ?_
  refine ⟨s1.heap.objs.size, [s1.heap.objs.size], _, _, H1, rfl, I1.kept (t' := s1.toks) fun b o e => Heap.get?_push_of_some _ e, turn_tuple a _, ⟨_, Heap.get?_push_size _ rfl, rfl, rfl⟩, fun b hb => ?_, q⟩
  have e : b = s1.heap.objs.size := by simpa using hb
  subst e
  exact I1.fpOk (Nat.le_refl _) (I1.hok.fresh (Nat.le_refl _))

theorem range_it {pins : List (Addr × Obj)} {σ : St} {H : Hp} {s : Shared} {R : It → Hp → Prop} {E : Value → Shared → Prop} {lo hi : Int} {t u v : Tok} {tk : Nat} (I : Inv X pins σ H s) (h1 : -(2 ^ 62) ≤ lo) (h2 : lo < 2 ^ 62) (h3 : -(2 ^ 62) ≤ hi) (h4 : hi < 2 ^ 62)
    (q : R (Itr lo (hi - lo).toNat) H) : wpAny (model X.prog X.w) X.A (pyIter (.ref s.heap.objs.size)) (PIE X pins σ tg R) E { s with heap := s.heap.push { cls := .type "range", data := .fields #[.int lo t, .int hi u, .int 1 v] }, toks := tk } := by
  refine wpAny_pyIter_range (IsRange.new ..) (small_one h1 h2 h3 h4) ?_
  have I1 : Inv X pins σ H { s with heap := s.heap.push { cls := .type "range", data := .fields #[.int lo t, .int hi u, .int 1 v] }, toks := tk } := I.kept fun b o e => Heap.get?_push_of_some _ e
  refine ⟨(s.heap.push { cls := .type "range", data := .fields #[.int lo t, .int hi u, .int 1 v] }).objs.size, [(s.heap.push { cls := .type "range", data := .fields #[.int lo t, .int hi u, .int 1 v] }).objs.size], _, _, H, rfl,
    I1.kept (t' := tk) fun b o e => Heap.get?_push_of_some _ e, turn_range _ lo (hi - lo).toNat, ?_, fun b hb => ?_, q⟩
  · have e1 : lo + ((0 : Nat) : Int) * 1 = lo := by simp
    have e2 : (((hi - lo).toNat : Nat) : Int) - ((0 : Nat) : Int) = Builtin.Range.rangeSize lo hi 1 := by rw [rangeSize_one]; split <;> omega
    show IsRangeIter _ _ (lo + ((0 : Nat) : Int) * 1) ((((hi - lo).toNat : Nat) : Int) - ((0 : Nat) : Int)) 1
    rw [e1, e2]
    exact Heap.get?_push_size _ rfl
  · have e : b = (s.heap.push { cls := .type "range", data := .fields #[.int lo t, .int hi u, .int 1 v] }).objs.size := by simpa using hb
    subst e
    exact I1.fpOk (Nat.le_refl _) (I1.hok.fresh (Nat.le_refl _))
def iRng1 (ta : TA) : TI := fun σ H R => ta σ H fun vs H1 => ∃ j : Int, vs = [.int j] ∧ -(2 ^ 62) ≤ j ∧ j < 2 ^ 62 ∧ R (Itr 0 j.toNat) H1
def iRng2 (ta : TA) : TI := fun σ H R => ta σ H fun vs H1 => ∃ i j : Int, vs = [.int i, .int j] ∧ (-(2 ^ 62) ≤ i ∧ i < 2 ^ 62 ∧ -(2 ^ 62) ≤ j ∧ j < 2 ^ 62) ∧ R (Itr i (j - i).toNat) H1
theorem pi_range1 {a : Expr} {ta : TA} {p pos : Pos} (hg : Gl X "range") (hm : X.mg "range" = none) (ha : PA X [a] ta) (hs : starEach [a] X.env = [(false, eval a X.env)] := by rfl) : PI X tg (.Call (.Name "range" p) [a] [] pos) (iRng1 ta) := by
  intro pins s σ H R I h
  refine Call_ (ld_blt I hg hm boot_range (PyProof.Rows.callWith_type1 (thn (ha pos pins s σ H _ I h) fun us s1 ⟨vs, H1, I1, r1, q1⟩ => ?_) hs rfl))
  obtain ⟨j, e, q1, q2, q⟩ := q1
  subst e
  cases r1 with
  | cons r rr =>
    cases rr
    obtain ⟨t, rfl⟩ := r
    exact call_range_1 (range_it I1 (by omega) (by omega) q1 q2 (by simpa using q))
theorem pi_range2 {a b : Expr} {ta : TA} {p pos : Pos} (hg : Gl X "range") (hm : X.mg "range" = none) (ha : PA X [a, b] ta) (hs : starEach [a, b] X.env = [(false, eval a X.env), (false, eval b X.env)] := by rfl) (hs2 : starEach [b] X.env = [(false, eval b X.env)] := by rfl) :
    PI X tg (.Call (.Name "range" p) [a, b] [] pos) (iRng2 ta) := by
  intro pins s σ H R I h
  refine Call_ (ld_blt I hg hm boot_range (PyProof.Rows.callWith_type1 (thn (ha pos pins s σ H _ I h) fun us s1 ⟨vs, H1, I1, r1, q1⟩ => ?_) (by rw [hs, hs2]) (by rw [hs2]; rfl)))
  obtain ⟨i, j, e, ⟨q1, q2, q3, q4⟩, q⟩ := q1
  subst e
  cases r1 with
  | cons r rr =>
    cases rr with
    | cons r' rr =>
      cases rr
      obtain ⟨t, rfl⟩ := r
      obtain ⟨t', rfl⟩ := r'
      exact call_range_2 (range_it I1 q1 q2 q3 q4 q)



def tFor (wi : TI) (g : TG) (tb : TS) : TS := fun D σ H => wi σ H fun J H1 => ∃ W : Nat → Nat → St → Hp → Prop, (∃ m, W 0 m σ H1) ∧ ∀ i m σ H, W i m σ H →
  (J.stop i H ∧ D.nx σ H) ∨ (J.go i H ∧ ∃ N : St → Hp → Prop, (∀ σ' H', N σ' H' → ∃ m', m' < m ∧ W (i + 1) m' σ' H') ∧ ∀ x H', J.yld i H x H' → g x σ H' fun σ2 H2 => tb { D with nx := N, ct := N, bk := D.nx } σ2 H2)

def pinsAt (fp : List Addr) (h : Heap) : List (Addr × Obj) := fp.filterMap fun b => (h.get? b).map fun o => (b, o)
theorem mem_pinsAt {fp : List Addr} {h : Heap} {b : Addr} {o : Obj} (hb : b ∈ fp) (e : h.get? b = some o) : (b, o) ∈ pinsAt fp h := List.mem_filterMap.mpr ⟨b, hb, by rw [e]; rfl⟩
theorem of_pinsAt {fp : List Addr} {h : Heap} {p : Addr × Obj} (hp : p ∈ pinsAt fp h) : p.1 ∈ fp ∧ h.get? p.1 = some p.2 := by
  obtain ⟨b, hb, e⟩ := List.mem_filterMap.mp hp
  cases q : h.get? b with
  | none => rw [q] at e; cases e
  | some o =>
    rw [q] at e
    have e' : (b, o) = p := Option.some.inj e
    subst e'
    exact ⟨hb, q⟩
theorem Inv.pinned {pins : List (Addr × Obj)} {σ : St} {H : Hp} {s : Shared} {fp : List Addr} (I : Inv X pins σ H s) (hf : ∀ b ∈ fp, FpOk X pins H b) (ho : ∀ b ∈ fp, ∃ o, s.heap.get? b = some o ∧ ∀ v, o.data ≠ .cell v) : Inv X (pins ++ pinsAt fp s.heap) σ H s :=
  I.pins_of fun p hp => (List.mem_append.mp hp).elim (fun z => I.pin p (List.mem_append_right _ z)) fun z => by
    obtain ⟨hb, e⟩ := of_pinsAt z
    obtain ⟨f0, f1, f2, _⟩ := hf p.1 hb
    obtain ⟨o, e', d⟩ := ho p.1 hb
    rw [e] at e'; cases e'
    exact ⟨e, f0, f1, f2, d⟩
theorem Inv.unpinned {pins pl : List (Addr × Obj)} {σ : St} {H : Hp} {s : Shared} (I : Inv X (pins ++ pl) σ H s) : Inv X pins σ H s := I.pins_of fun p hp => I.pin p (List.mem_append_right _ (List.mem_append_left _ hp))
theorem ps_for {iter : Expr} {body : List Stmt} {wi : TI} {g : TG} {tb : TS} {pos : Pos} (hp : PassesOwn (model X.prog X.w) X.A X.env X.xe) (hc : X.calm = true) (hi : PI X tg iter wi) (hg : PG X tg g) (hb : PSs X body tb)
    (hs : ∀ x, foldedSetIterable iter X.env x = pure x := by intro _; rfl) : PS X (.For tg iter body [] pos) (tFor wi g tb) := by
  intro pins s σ H D I h
  refine wpAny_For (thn (hi pins s σ H _ I h) fun v s1 h1 => thn h1 fun itv s2 h2 => ?_) hs
  obtain ⟨it, fp, tn, J, H2, e, I2, T, st2, f2, W, ⟨m0, w0⟩, turn⟩ := h2
  subst e
  -- what stays true of the iterator's objects through the loop
  have stat : ∀ {H' : Hp}, (∀ b ∈ fp, H' b = none) → ∀ b ∈ fp, FpOk X pins H' b := fun hn b hb => ⟨hn b hb, (f2 b hb).2⟩
  refine codeAny_forLoop_any (fun n s' => ∃ i σ' H', Inv X pins σ' H' s' ∧ tn i s'.heap ∧ (∀ b ∈ fp, H' b = none) ∧ W i n σ' H') ?_ m0 ⟨0, σ, H2, I2, st2, fun b hb => (f2 b hb).1, w0⟩
  rintro n s3 ⟨i, σ3, H3, I3, st3, fr3, w3⟩
  rcases turn i n σ3 H3 w3 with ⟨stop, qn⟩ | ⟨go, N, hN, step⟩
  · refine wpAny_passesOwn hp (thn (T.done X rfl rfl rfl hc i pins s3 σ3 H3 X.xe I3 (stat fr3) st3 stop) fun r s4 ⟨hr, I4⟩ => ?_)
    subst hr
    exact wpAny_execs_nil ⟨σ3, H3, I4, qn⟩
  · refine wpAny_passesOwn hp (thn (T.item X rfl rfl rfl hc i pins s3 σ3 H3 X.xe I3 (stat fr3) st3 go) fun r s4 ⟨u, hr, h4⟩ => ?_)
    subst hr
    refine wpAny_passesOwn hp (thn h4 fun _ s5 ⟨x, H5, I5, r5, y5, st5, fr5⟩ => ?_)
    have I5' := I5.pinned (stat fr5) (T.obj _ _ st5)
    refine wpAny_passesOwn hp (thn (hg _ s5 σ3 H5 x u _ I5' r5 (step x H5 y5)) fun _ s6 ⟨σ6, H6, I6, q6⟩ => ?_)
    refine wpAny_passesOwn hp (thn (hb _ s6 σ6 H6 _ I6 q6) fun f s7 q7 => ?_)
    have again : ∀ {σ7 : St} {H7 : Hp}, Inv X (pins ++ pinsAt fp s5.heap) σ7 H7 s7 → N σ7 H7 → ∃ m, m < n ∧ ∃ i σ' H', Inv X pins σ' H' s7 ∧ tn i s7.heap ∧ (∀ b ∈ fp, H' b = none) ∧ W i m σ' H' := fun {σ7 H7} I7 n7 => by
      obtain ⟨m', hm, w7⟩ := hN σ7 H7 n7
      refine ⟨m', hm, i + 1, σ7, H7, I7.unpinned, T.keep _ _ _ st5 fun b hb o e => (I7.pin (b, o) (List.mem_append_right _ (List.mem_append_right _ (mem_pinsAt hb e)))).1, fun b hb => ?_, w7⟩
      obtain ⟨o, e, d⟩ := T.obj _ _ st5 b hb
      exact (I7.pin (b, o) (List.mem_append_right _ (List.mem_append_right _ (mem_pinsAt hb e)))).2.1
    cases f with
    | next => obtain ⟨σ7, H7, I7, n7⟩ := q7; exact again I7 n7
    | cont => obtain ⟨σ7, H7, I7, n7⟩ := q7; exact again I7 n7
    | brk => obtain ⟨σ7, H7, I7, q7⟩ := q7; exact ⟨σ7, H7, I7.unpinned, q7⟩
    | ret v => obtain ⟨x7, σ7, H7, I7, r7, q7⟩ := q7; exact ⟨x7, σ7, H7, I7.unpinned, r7, q7⟩
end



theorem for_list {K : PySem.W.Frag} {a : Addr} {xs : List V} {g : TG} {tb : TS} {D : Ends} {σ : St} {H : Hp} (Pv : Nat → St → Hp → Prop) (h0 : Pv 0 σ H) (hl : ∀ i σ H, i ≤ xs.length → Pv i σ H → SqL K H a xs)
    (hs : ∀ i x σ H, xs[i]? = some x → Pv i σ H → g x σ H fun σ2 H2 => tb { D with nx := Pv (i + 1), ct := Pv (i + 1), bk := D.nx } σ2 H2) (hd : ∀ σ H, Pv xs.length σ H → D.nx σ H) :
    ∃ W : Nat → Nat → St → Hp → Prop, (∃ m, W 0 m σ H) ∧ ∀ i m σ H, W i m σ H →
      ((Itl K a).stop i H ∧ D.nx σ H) ∨ ((Itl K a).go i H ∧ ∃ N : St → Hp → Prop, (∀ σ' H', N σ' H' → ∃ m', m' < m ∧ W (i + 1) m' σ' H') ∧ ∀ x H', (Itl K a).yld i H x H' → g x σ H' fun σ2 H2 => tb { D with nx := N, ct := N, bk := D.nx } σ2 H2) := by
  refine ⟨fun i m σ H => m = xs.length - i ∧ i ≤ xs.length ∧ Pv i σ H, ⟨xs.length, by simp, Nat.zero_le _, h0⟩, ?_⟩
  rintro i m σ H ⟨rfl, hi, p⟩
  have q := hl i σ H hi p
  by_cases hlt : i < xs.length
  · refine .inr ⟨⟨xs, xs[i], q, by simp [hlt]⟩, Pv (i + 1), fun σ' H' p' => ⟨xs.length - (i + 1), by omega, rfl, hlt, p'⟩, fun x H' y => ?_⟩
    obtain ⟨e, y⟩ := y
    subst e
    exact hs i x σ _ (y xs q) p
  · have e : i = xs.length := by omega
    subst e
    exact .inl ⟨⟨xs, q, Nat.le_refl _⟩, hd σ H p⟩
theorem for_tup {K : PySem.W.Frag} {a : Addr} {xs : List V} {g : TG} {tb : TS} {D : Ends} {σ : St} {H : Hp} (Pv : Nat → St → Hp → Prop) (h0 : Pv 0 σ H) (hl : ∀ i σ H, i ≤ xs.length → Pv i σ H → SqT K H a xs)
    (hs : ∀ i x σ H, xs[i]? = some x → Pv i σ H → g x σ H fun σ2 H2 => tb { D with nx := Pv (i + 1), ct := Pv (i + 1), bk := D.nx } σ2 H2) (hd : ∀ σ H, Pv xs.length σ H → D.nx σ H) :
    ∃ W : Nat → Nat → St → Hp → Prop, (∃ m, W 0 m σ H) ∧ ∀ i m σ H, W i m σ H →
      ((Itt K a).stop i H ∧ D.nx σ H) ∨ ((Itt K a).go i H ∧ ∃ N : St → Hp → Prop, (∀ σ' H', N σ' H' → ∃ m', m' < m ∧ W (i + 1) m' σ' H') ∧ ∀ x H', (Itt K a).yld i H x H' → g x σ H' fun σ2 H2 => tb { D with nx := N, ct := N, bk := D.nx } σ2 H2) := by
  refine ⟨fun i m σ H => m = xs.length - i ∧ i ≤ xs.length ∧ Pv i σ H, ⟨xs.length, by simp, Nat.zero_le _, h0⟩, ?_⟩
  rintro i m σ H ⟨rfl, hi, p⟩
  have q := hl i σ H hi p
  by_cases hlt : i < xs.length
  · refine .inr ⟨⟨xs, xs[i], q, by simp [hlt]⟩, Pv (i + 1), fun σ' H' p' => ⟨xs.length - (i + 1), by omega, rfl, hlt, p'⟩, fun x H' y => ?_⟩
    obtain ⟨e, y⟩ := y
    subst e
    exact hs i x σ _ (y xs q) p
  · have e : i = xs.length := by omega
    subst e
    exact .inl ⟨⟨xs, q, Nat.le_refl _⟩, hd σ H p⟩
theorem for_range {lo : Int} {n : Nat} {g : TG} {tb : TS} {D : Ends} {σ : St} {H : Hp} (Pv : Nat → St → Hp → Prop) (h0 : Pv 0 σ H)
    (hs : ∀ i σ H, i < n → Pv i σ H → g (.int (lo + i)) σ H fun σ2 H2 => tb { D with nx := Pv (i + 1), ct := Pv (i + 1), bk := D.nx } σ2 H2) (hd : ∀ σ H, Pv n σ H → D.nx σ H) :
    ∃ W : Nat → Nat → St → Hp → Prop, (∃ m, W 0 m σ H) ∧ ∀ i m σ H, W i m σ H →
      ((Itr lo n).stop i H ∧ D.nx σ H) ∨ ((Itr lo n).go i H ∧ ∃ N : St → Hp → Prop, (∀ σ' H', N σ' H' → ∃ m', m' < m ∧ W (i + 1) m' σ' H') ∧ ∀ x H', (Itr lo n).yld i H x H' → g x σ H' fun σ2 H2 => tb { D with nx := N, ct := N, bk := D.nx } σ2 H2) := by
  refine ⟨fun i m σ H => m = n - i ∧ i ≤ n ∧ Pv i σ H, ⟨n, by simp, Nat.zero_le _, h0⟩, ?_⟩
  rintro i m σ H ⟨rfl, hi, p⟩
  by_cases hlt : i < n
  · refine .inr ⟨hlt, Pv (i + 1), fun σ' H' p' => ⟨n - (i + 1), by omega, rfl, hlt, p'⟩, fun x H' y => ?_⟩
    obtain ⟨e, y⟩ := y
    subst e y
    exact hs i σ _ hlt p
  · have e : i = n := by omega
    subst e
    exact .inl ⟨Nat.le_refl _, hd σ H p⟩

end L2

namespace L2
open PySem PySem.Spec PyProof.Rows

abbrev R2 := V → V → Hp → VK → Prop

def OpR (X : Cx) (f : Value → Value → Sem Value) (r : R2) : Prop :=
  ∀ (pins : List (Addr × Obj)) (s : Shared) (σ : St) (H : Hp) (x y : V) (v u : Value) (Q : VK), Inv X pins σ H s → RelV x v → RelV y u → r x y H Q →
    wpAny (model X.prog X.w) X.A (f v u) (EP X pins σ Q) X.xe s

def CallR (X : Cx) (f : Value) (r : List V → Hp → VK → Prop) : Prop :=
  ∀ (pins : List (Addr × Obj)) (s : Shared) (σ : St) (H : Hp) (xs : List V) (us : List Value) (Q : VK), Inv X pins σ H s → Vals xs us → r xs H Q →
    wpAny (model X.prog X.w) X.A (call f us) (EP X pins σ Q) X.xe s

def tOp (r : R2) (ta tb : TE) : TE := fun σ H Q => ta σ H fun x H1 => tb σ H1 fun y H2 => r x y H2 Q
def rI (C : Int → Int → Prop) (g : Int → Int → V) : R2 := fun x y H Q => ∃ i j, x = .int i ∧ y = .int j ∧ C i j ∧ Q (g i j) H
def rI0 (g : Int → Int → V) : R2 := fun x y H Q => ∃ i j, x = .int i ∧ y = .int j ∧ Q (g i j) H
section
variable {X : Cx} {a b c : Expr} {ta tb tc : TE} {pos : Pos}

theorem binT (ha : PE X a ta) (hb : PE X b tb) {pins : List (Addr × Obj)} {s : Shared} {σ : St} {H : Hp} {R : V → V → Hp → Prop} (I : Inv X pins σ H s)
    (h : ta σ H fun x H1 => tb σ H1 fun y H2 => R x y H2) {Q : Value → Shared → Prop} {f : Value → Value → Sem Value}
    (hf : ∀ v u s2 x y H2, Inv X pins σ H2 s2 → RelV x v → RelV y u → R x y H2 → wpAny (model X.prog X.w) X.A (f v u) Q X.xe s2) :
    wpAny (model X.prog X.w) X.A (eval a X.env) (fun v s₁ => wpAny (model X.prog X.w) X.A (eval b X.env) (fun u s₂ => wpAny (model X.prog X.w) X.A (f v u) Q X.xe s₂) X.xe s₁) X.xe s := by
  refine thn (ha pins s σ H _ I h) fun v s1 ⟨x, H1, I1, r1, q1⟩ => ?_
  refine thn (hb pins s1 σ H1 _ I1 q1) fun u s2 ⟨y, H2, I2, r2, q2⟩ => ?_
  exact hf v u s2 x y H2 I2 r1 r2 q2

theorem pe_op {op : Operator} {r : R2} (ho : OpR X (binaryOp op) r) (ha : PE X a ta) (hb : PE X b tb) : PE X (.BinOp a op b pos) (tOp r ta tb) := by
  intro pins s σ H Q I h
  exact wpAny_BinOp (binT ha hb I h fun v u s2 x y H2 I2 rx ry q => ho pins s2 σ H2 x y v u Q I2 rx ry q)
theorem opI {f : Value → Value → Sem Value} {C : Int → Int → Prop} {g : Int → Int → Int}
    (rule : ∀ (i j : Int) (t u : Tok) (s : Shared) (Q : Value → Shared → Prop) (E : Value → Shared → Prop), C i j → Q (.int (g i j) s.toks) { s with toks := s.toks + 1 } → wpAny (model X.prog X.w) X.A (f (.int i t) (.int j u)) Q E s) :
    OpR X f (rI C fun i j => .int (g i j)) := by
  intro pins s σ H x y v u Q I rx ry h
  obtain ⟨i, j, rfl, rfl, hc, q⟩ := h
  obtain ⟨t, rfl⟩ := rx
  obtain ⟨t', rfl⟩ := ry
  exact rule i j t t' s _ _ hc ⟨.int (g i j), H, I.tok _, ⟨_, rfl⟩, q⟩
theorem opI0 {f : Value → Value → Sem Value} {g : Int → Int → Int}
    (rule : ∀ (i j : Int) (t u : Tok) (s : Shared) (Q : Value → Shared → Prop) (E : Value → Shared → Prop), Q (.int (g i j) s.toks) { s with toks := s.toks + 1 } → wpAny (model X.prog X.w) X.A (f (.int i t) (.int j u)) Q E s) :
    OpR X f (rI0 fun i j => .int (g i j)) := by
  intro pins s σ H x y v u Q I rx ry h
  obtain ⟨i, j, rfl, rfl, q⟩ := h
  obtain ⟨t, rfl⟩ := rx
  obtain ⟨t', rfl⟩ := ry
  exact rule i j t t' s _ _ ⟨.int (g i j), H, I.tok _, ⟨_, rfl⟩, q⟩
theorem opB0 {f : Value → Value → Sem Value} {g : Int → Int → Bool}
    (rule : ∀ (i j : Int) (t u : Tok) (s : Shared) (Q : Value → Shared → Prop) (E : Value → Shared → Prop), Q (.bool (g i j)) s → wpAny (model X.prog X.w) X.A (f (.int i t) (.int j u)) Q E s) :
    OpR X f (rI0 fun i j => .bl (g i j)) := by
  intro pins s σ H x y v u Q I rx ry h
  obtain ⟨i, j, rfl, rfl, q⟩ := h
  obtain ⟨t, rfl⟩ := rx
  obtain ⟨t', rfl⟩ := ry
  exact rule i j t t' s _ _ ⟨.bl (g i j), H, I, rfl, q⟩

def CDiv (i j : Int) : Prop := 0 < j ∧ j < 1073741824
def CMul (i j : Int) : Prop := (-(2 ^ 64) < i ∧ i < 2 ^ 64) ∨ (-(2 ^ 64) < j ∧ j < 2 ^ 64)
theorem CMul.ok {i j : Int} (h : CMul i j) : IntMulOk i j := by
  rcases h with ⟨h1, h2⟩ | ⟨h1, h2⟩
  · exact .of_left (intBits_le_64 h1 h2)
  · exact .of_right (intBits_le_64 h1 h2)
theorem op_add : OpR X (binaryOp .Add) (rI0 fun i j => .int (i + j)) := opI0 fun _ _ _ _ _ _ _ q => add_int q
theorem op_sub : OpR X (binaryOp .Sub) (rI0 fun i j => .int (i - j)) := opI0 fun _ _ _ _ _ _ _ q => sub_int q
theorem op_mul : OpR X (binaryOp .Mult) (rI CMul fun i j => .int (i * j)) := opI fun _ _ _ _ _ _ _ hc q => mul_int q hc.ok

theorem op_fdiv : OpR X (binaryOp .FloorDiv) (rI CDiv fun i j => .int (i / j)) := opI fun i j _ _ _ _ _ hc q => by
  have h1 : (0 : Int) < j := hc.1
  have h2 : j < 1073741824 := hc.2
  exact floordiv_int (by omega) (by rw [Int.fdiv_eq_ediv_of_nonneg i (by omega)]; exact q) (.inl (PyProof.noPylong_small (by omega)))
theorem op_mod : OpR X (binaryOp .Mod) (rI (fun _ j => 0 < j) fun i j => .int (i % j)) := opI fun i j _ _ _ _ _ hc q => by
  have h1 : (0 : Int) < j := hc
  exact mod_int' (by omega) (by rw [Int.fmod_eq_emod_of_nonneg i (by omega)]; exact q)
end



def scal : V → V → Bool
  | .non, .non => true | .non, .int _ => true | .int _, .non => true | .non, .bl _ => true | .bl _, .non => true | .non, .str _ => true | .str _, .non => true
  | .int _, .int _ => true | .bl _, .bl _ => true | .str _, .str _ => true | .byt _, .byt _ => true
  | .int _, .str _ => true | .str _, .int _ => true | .bl _, .str _ => true | .str _, .bl _ => true
  | _, _ => false
def rEq : R2 := fun x y H Q => scal x y = true ∧ Q (.bl (decide (x = y))) H
theorem dec_int {i j : Int} : decide (V.int i = V.int j) = (i == j) := by
  rw [Bool.eq_iff_iff]
  simp
theorem dec_bl {i j : Bool} : decide (V.bl i = V.bl j) = (i == j) := by
  rw [Bool.eq_iff_iff]
  simp
theorem dec_str {i j : Str} : decide (V.str i = V.str j) = (i == j) := by
  rw [Bool.eq_iff_iff]
  simp
theorem dec_byt {i j : Array UInt8} : decide (V.byt i = V.byt j) = (i.toList == j.toList) := by
  rw [Bool.eq_iff_iff]
  cases i
  cases j
  simp

section
variable {X : Cx} {a b c : Expr} {ta tb tc : TE} {pos : Pos}
theorem fin_bl {pins : List (Addr × Obj)} {σ : St} {H : Hp} {s : Shared} {Q : VK} {k k' : Bool} (I : Inv X pins σ H s) (q : Q (.bl k) H) (e : k = k') : EP X pins σ Q (.bool k') s := by
  subst e
  exact ⟨.bl k, H, I, rfl, q⟩
theorem op_eq : OpR X (compareOp .Eq) rEq := by
  intro pins s σ H x y v u Q I rx ry h
  obtain ⟨hs, q⟩ := h
  cases x with
  | non =>
    cases rx
    cases y with
    | non => cases ry; exact PySem.EqNone.eq_none_none (fin_bl I q (by simp))
    | bl j => cases ry; exact PySem.EqNone.eq_none_bool (fin_bl I q (by simp))
    | int j => obtain ⟨t', rfl⟩ := ry; exact PySem.EqNone.eq_none_int (fin_bl I q (by simp))
    | str j => obtain ⟨t', rfl⟩ := ry; exact PySem.EqNone.eq_none_str (fin_bl I q (by simp))
    | _ => exact absurd (show false = true from hs) Bool.false_ne_true
  | bl i =>
    cases rx
    cases y with
    | non => cases ry; exact PySem.EqNone.eq_bool_none (fin_bl I q (by simp))
    | bl j => cases ry; exact eq_bool (fin_bl I q dec_bl)
    | str j => obtain ⟨t', rfl⟩ := ry; exact PySem.EqMixed.eq_bool_str (fin_bl I q (by simp))
    | _ => exact absurd (show false = true from hs) Bool.false_ne_true
  | int i =>
    obtain ⟨t, rfl⟩ := rx
    cases y with
    | non => cases ry; exact PySem.EqNone.eq_int_none (fin_bl I q (by simp))
    | int j => obtain ⟨t', rfl⟩ := ry; exact eq_int (fin_bl I q dec_int)
    | str j => obtain ⟨t', rfl⟩ := ry; exact PySem.EqMixed.eq_int_str (fin_bl I q (by simp))
    | _ => exact absurd (show false = true from hs) Bool.false_ne_true
  | str i =>
    obtain ⟨t, rfl⟩ := rx
    cases y with
    | non => cases ry; exact PySem.EqNone.eq_str_none (fin_bl I q (by simp))
    | bl j => cases ry; exact PySem.EqMixed.eq_str_bool (fin_bl I q (by simp))
    | int j => obtain ⟨t', rfl⟩ := ry; exact PySem.EqMixed.eq_str_int (fin_bl I q (by simp))
    | str j => obtain ⟨t', rfl⟩ := ry; exact eq_str (fin_bl I q dec_str)
    | _ => exact absurd (show false = true from hs) Bool.false_ne_true
  | byt i =>
    obtain ⟨t, rfl⟩ := rx
    cases y with
    | byt j => obtain ⟨t', rfl⟩ := ry; exact PySem.W.eq_bytes (fin_bl I q dec_byt)
    | _ => exact absurd (show false = true from hs) Bool.false_ne_true
  | _ => cases y <;> exact absurd (show false = true from hs) Bool.false_ne_true
theorem op_lt : OpR X (compareOp .Lt) (rI0 fun i j => .bl (decide (i < j))) := opB0 fun _ _ _ _ _ _ _ q => lt_int q
theorem op_le : OpR X (compareOp .LtE) (rI0 fun i j => .bl (decide (i ≤ j))) := opB0 fun _ _ _ _ _ _ _ q => le_int q
theorem nomark (b : Expr) {op : CmpOp} (h : op ≠ .In := by decide) (h2 : op ≠ .NotIn := by decide) : behindInMarks op b = false := by
  have e1 : (op == CmpOp.In) = false := by cases op <;> first | rfl | exact absurd rfl h
  have e2 : (op == CmpOp.NotIn) = false := by cases op <;> first | rfl | exact absurd rfl h2
  cases b <;> simp [behindInMarks, e1, e2]

theorem pe_cmpR {op : CmpOp} {r : R2} (ho : OpR X (compareOp op) r) (ha : PE X a ta) (hb : PE X b tb) (hm : behindInMarks op b = false) : PE X (.Compare a [op] [b] pos) (tOp r ta tb) := by
  intro pins s σ H Q I h
  exact wpAny_Compare1 (binT ha hb I h fun v u s2 x y H2 I2 rx ry q => ho pins s2 σ H2 x y v u Q I2 rx ry q) hm

def tTest (t : TE) : TT := fun σ H Q => t σ H fun x H' => ∃ k, x = .bl k ∧ Q k H'
theorem pt_cmpR {op : CmpOp} {r : R2} (ho : OpR X (compareOp op) r) (ha : PE X a ta) (hb : PE X b tb) (hm : behindInMarks op b = false) : PT X (.Compare a [op] [b] pos) (tTest (tOp r ta tb)) := by
  intro pins s σ H Q I h
  refine wpAny_isTrue_Compare1 (thn (ha pins s σ H _ I h) fun v s1 ⟨x, H1, I1, r1, q1⟩ => thn (hb pins s1 σ H1 _ I1 q1) fun u s2 ⟨y, H2, I2, r2, q2⟩ =>
    thn (ho pins s2 σ H2 x y v u _ I2 r1 r2 q2) fun c s3 ⟨z, H3, I3, r3, k, e, q3⟩ => ?_) hm
  subst e
  cases r3
  exact wpAny_truthy_bool ⟨H3, I3, q3⟩

theorem line63 : (sizeLine : Nat) < 2 ^ 63 := by rw [sizeLine_eq]; decide
theorem vals1 {x : V} {us : List Value} (r : Vals [x] us) : ∃ u, us = [u] ∧ RelV x u := by
  cases r with
  | cons r1 r2 => cases r2; exact ⟨_, rfl, r1⟩
theorem vals2 {x y : V} {us : List Value} (r : Vals [x, y] us) : ∃ u w', us = [u, w'] ∧ RelV x u ∧ RelV y w' := by
  cases r with
  | cons r1 r2 =>
    cases r2 with
    | cons r3 r4 => cases r4; exact ⟨_, _, rfl, r1, r3⟩
theorem call_max2 (hc : X.calm = true) : CallR X (.builtin "max") (fun xs H Q => ∃ i j, xs = [.int i, .int j] ∧ Q (.int (if j > i then j else i)) H) := by
  intro pins s σ H xs us Q I r h
  obtain ⟨i, j, rfl, q⟩ := h
  obtain ⟨u, w', rfl, ⟨t, rfl⟩, ⟨t', rfl⟩⟩ := vals2 r
  refine max_two_ints (I.ok.hd hc) fun h' tk k => ⟨_, H, I.kept k, ?_, q⟩
  by_cases hj : j > i
  · rw [if_pos hj, if_pos hj]; exact ⟨_, rfl⟩
  · rw [if_neg hj, if_neg hj]; exact ⟨_, rfl⟩
theorem call_min2 (hc : X.calm = true) : CallR X (.builtin "min") (fun xs H Q => ∃ i j, xs = [.int i, .int j] ∧ Q (.int (if j < i then j else i)) H) := by
  intro pins s σ H xs us Q I r h
  obtain ⟨i, j, rfl, q⟩ := h
  obtain ⟨u, w', rfl, ⟨t, rfl⟩, ⟨t', rfl⟩⟩ := vals2 r
  refine min_two_ints (I.ok.hd hc) fun h' tk k => ⟨_, H, I.kept k, ?_, q⟩
  by_cases hj : j < i
  · rw [if_pos hj, if_pos hj]; exact ⟨_, rfl⟩
  · rw [if_neg hj, if_neg hj]; exact ⟨_, rfl⟩
theorem call_int1 : CallR X (.type "int") (fun xs H Q => (∃ i, xs = [.int i] ∧ Q (.int i) H) ∨ ∃ k, xs = [.bl k] ∧ Q (.int (if k then 1 else 0)) H) := by
  intro pins s σ H xs us Q I r h
  rcases h with ⟨i, rfl, q⟩ | ⟨k, rfl, q⟩
  · obtain ⟨u, rfl, t, rfl⟩ := vals1 r
    exact call_int_int ⟨.int i, H, I, ⟨_, rfl⟩, q⟩
  · obtain ⟨u, rfl, r1⟩ := vals1 r
    cases r1
    exact call_int_bool ⟨.int (if k then 1 else 0), H, I.tok _, ⟨_, rfl⟩, q⟩
end
end L2

namespace L2
open PySem PySem.Spec PyProof.Rows


structure ObjM (h : Heap) (x dx C : Addr) (mA : Str → Option Value) : Prop where
  obj : h.get? x = some (PySem.W.instObj C dx)
  ns : h.Ns1 dx mA
  ne : dx ≠ x

theorem lookIn_ns {h : Heap} {dx : Addr} {mA : Str → Option Value} (n : h.Ns1 dx mA) : ∃ od, h.get? dx = some od ∧ ∀ name, PySem.W.lookIn name od = some (mA name) := by
  obtain ⟨o, es, ep, ho, hd, hk, _, hm⟩ := n
  refine ⟨o, ho, fun name => ?_⟩
  have e := hm name
  unfold nsFind findBy at e
  rw [← Array.find?_toList] at e
  unfold PySem.W.lookIn
  rw [hd]
  dsimp only
  split
  · rename_i y q
    rw [q] at e
    exact congrArg some e
  · rename_i q
    rw [q] at e
    have a : es.toList.any (·.refKey) = false := by
      rw [List.any_eq_false]
      intro y hy
      obtain ⟨z, t, hkey⟩ := hk y (Array.mem_toList_iff.mp hy)
      simp [DictEntry.refKey, hkey]
    have a' : ¬ es.toList.any (·.refKey) = true := by rw [a]; exact Bool.false_ne_true
    rw [if_neg a']
    exact congrArg some e

theorem ObjM.look {h : Heap} {x dx C : Addr} {mA : Str → Option Value} (I : ObjM h x dx C mA) : ∃ od, PySem.W.InstAt h x (PySem.W.instObj C dx) C (some od) ∧ ∀ name, PySem.W.lookIn name od = some (mA name) :=
  let ⟨od, ho, hl⟩ := lookIn_ns I.ns
  ⟨od, ⟨I.obj, rfl, rfl, ho⟩, hl⟩

section
variable {prog : Program} {w : World} {A : Around} {E : Value → Shared → Prop} {s : Shared} {K : PySem.W.Frag} {x dx C f : Addr} {mA : Str → Option Value} {name : Str} {v : Value}

end


theorem RelO.some_of {v : V} {o : Option Value} (r : RelO (some v) o) : ∃ u, o = some u ∧ RelV v u := by
  cases o with
  | none => exact (show False from r).elim
  | some u => exact ⟨u, rfl, r⟩
section
variable {P : Program} {w : World} {H H' : Hp} {h h' : Heap} {a C dx : Addr} {fs fs' : List (Str × V)}
theorem ins_get (hok : HOk P w H h) (e : H a = some (.ins C dx fs)) : ∃ mA, ObjM h a dx C mA ∧ (∀ f, RelO (fs.lookup f) (mA f)) ∧ PySem.Within mA (fs.map (·.1)) ∧ fs.length ≤ 1000 ∧ H dx = some (.own a) := by
  obtain ⟨d, z, ne, ob, mA, n, r, q⟩ := (show ObjOk P w H h a (.ins C dx fs) from hok a _ e)
  exact ⟨mA, ⟨ob, n, ne⟩, r, q, z, d⟩
end


structure Cls (K : PySem.W.Frag) (C : Addr) : Prop where
  pg : PySem.W.plainGet K C Str.empty = true
  hd : PySem.W.hasDictIn K C = true
  po : PySem.W.plainOver K C = true
  sa : PySem.W.findIn K (.ref C) "__setattr__" = some (some (.builtin "object.__setattr__"))
theorem Cls.get {K : PySem.W.Frag} {C : Addr} (c : Cls K C) (f : Str) : PySem.W.plainGet K C f = true := c.pg

structure Con (K : PySem.W.Frag) (C : Addr) (f : Str) (v : V) (u : Value) : Prop where
  at_ : PySem.W.findIn K (.ref C) f = some (some u)
  rel : RelV v u
  get : PySem.W.specialIn K u "__get__" = some none
  cp : PySem.W.copiedNames.contains f = false

structure Meth (K : PySem.W.Frag) (C : Addr) (m : Str) (f : Addr) : Prop where
  at_ : PySem.W.findIn K (.ref C) m = some (some (.ref f))
  fn : PySem.W.isFn K (.ref f) = true
  kp : PySem.W.keepIn K (.ref f) = true

section
variable {X : Cx} {pins : List (Addr × Obj)} {σ : St} {H : Hp} {s : Shared} {a C dx : Addr} {fs : List (Str × V)} {f : Str} {v : V} {A : Around} {E : Value → Shared → Prop}

end



section
variable {X : Cx} {o e value : Expr} {f : Str} {pos pos' tpos : Pos} {ta tv : TE}
end


section
variable {X : Cx} {pins : List (Addr × Obj)} {σ : St} {H : Hp} {s : Shared} {A : Around} {E : Value → Shared → Prop} {Q : Value → Shared → Prop} {c : Value} {b : Bool}

inductive TyOf (K : PySem.W.Frag) (H : Hp) : V → Value → Prop where
  | non : TyOf K H .non (.type "NoneType")
  | bl (x : Bool) : TyOf K H (.bl x) (.type "bool")
  | int (i : Int) : TyOf K H (.int i) (.type "int")
  | str (x : Str) : TyOf K H (.str x) (.type "str")
  | flt (x : UInt64) : TyOf K H (.flt x) (.type "float")
  | lst {a : Addr} {xs : List V} (e : H a = some (.lst xs)) : TyOf K H (.ref a) (.type "list")
  | frz {a : Addr} {o : Obj} {xs : List V} (e : H a = some (.frz o (.lst xs))) : TyOf K H (.ref a) (.type "list")
  | tup {a : Addr} {xs : List V} (e : H a = some (.tup xs)) : TyOf K H (.ref a) (.type "tuple")
  | dK {a : Addr} {kvs : List (Key × V)} (e : H a = some (.dK kvs)) : TyOf K H (.ref a) (.type "dict")
  | dT {a : Addr} {kvs : List (List Key × V)} (e : H a = some (.dT kvs)) : TyOf K H (.ref a) (.type "dict")
  | ins {a C dx : Addr} {fs : List (Str × V)} (e : H a = some (.ins C dx fs)) (cl : Cls K C) (ha : PySem.W.findIn K (.ref C) "__class__" = some (some (.builtin "object.__class__")))
      (hn : PySem.W.specialIn K (.builtin "object.__class__") "__get__" = some (some (.builtin "getset_descriptor.__get__"))) (htk : PySem.W.takesIn K (.builtin "object.__class__") = some true)
      (hm : PySem.W.mroIn K C (.type "object") = some true) : TyOf K H (.ref a) (.ref C)

theorem isinst_ok {x : V} {u t : Value} (I : Inv X pins σ H s) (rx : RelV x u) (ty : TyOf X.K H x t) (e : PySem.W.kitOne X.K t c = some b) (h : ∀ tk, Q (.bool b) { s with toks := tk }) :
    wpAny (model X.prog X.w) A (call (.builtin "isinstance") [u, c]) Q E s := by
  cases ty with
  | non => cases (show u = Value.none from rx); exact PySem.W.kia_one PySem.W.kitx_none I.kIn True.intro e (fun z => nomatch z) h
  | bl y => cases (show u = Value.bool y from rx); exact PySem.W.kia_one PySem.W.kitx_bool I.kIn True.intro e (fun z => nomatch z) h
  | int i => obtain ⟨t, q⟩ := (show ∃ t, u = Value.int i t from rx); cases q; exact PySem.W.kia_one PySem.W.kitx_int I.kIn True.intro e (fun z => nomatch z) h
  | str y => obtain ⟨t, q⟩ := (show ∃ t, u = Value.str y t from rx); cases q; exact PySem.W.kia_one PySem.W.kitx_str I.kIn True.intro e (fun z => nomatch z) h
  | flt y => obtain ⟨t, q⟩ := (show ∃ t, u = Value.float y t from rx); cases q; exact PySem.W.kia_one PySem.W.kitx_float I.kIn True.intro e (fun z => nomatch z) h
  | @lst a xs ea =>
    cases (show u = Value.ref a from rx)
    obtain ⟨_, _, n, _, h1⟩ := (show ObjOk X.prog X.w H s.heap a (.lst xs) from I.hok a _ ea)
    exact PySem.W.kia_one PySem.W.kitx_list I.kIn ⟨_, h1, rfl⟩ e (fun z => nomatch z) h
  | @frz a ob xs ea =>
    cases (show u = Value.ref a from rx)
    obtain ⟨_, _, _, n, _, h1⟩ := (show ObjOk X.prog X.w H s.heap a (.frz ob (.lst xs)) from I.hok a _ ea)
    exact PySem.W.kia_one PySem.W.kitx_list I.kIn ⟨_, h1, rfl⟩ e (fun z => nomatch z) h
  | @tup a xs ea =>
    cases (show u = Value.ref a from rx)
    obtain ⟨_, _, _, p⟩ := (show ObjOk X.prog X.w H s.heap a (.tup xs) from I.hok a _ ea)
    obtain ⟨o, h1, h2, _⟩ := p
    exact PySem.W.kia_one PySem.W.kitx_tuple I.kIn ⟨o, h1, h2⟩ e (fun z => nomatch z) h
  | @dK a kvs ea =>
    cases (show u = Value.ref a from rx)
    obtain ⟨_, _, vs, _, p⟩ := (show ObjOk X.prog X.w H s.heap a (.dK kvs) from I.hok a _ ea)
    obtain ⟨o, es, ep, h1, h2, _⟩ := p
    exact PySem.W.kia_one PySem.W.kitx_dict I.kIn ⟨o, h1, h2.1⟩ e (fun z => nomatch z) h
  | @dT a kvs ea =>
    cases (show u = Value.ref a from rx)
    obtain ⟨_, _, xs, _, o, es, ep, h1, h2, _⟩ := (show ObjOk X.prog X.w H s.heap a (.dT kvs) from I.hok a _ ea)
    exact PySem.W.kia_one PySem.W.kitx_dict I.kIn ⟨o, h1, h2.1⟩ e (fun z => nomatch z) h
  | @ins a C dx fs ea cl ha hn htk hm =>
    cases (show u = Value.ref a from rx)
    obtain ⟨mA, O, _⟩ := ins_get I.hok ea
    obtain ⟨od, J, _⟩ := O.look
    exact PySem.W.kia_one (PySem.W.kitx_own (cl.get _) cl.hd ha hn htk hm) I.kIn J e (fun z => nomatch z) h
end
end L2

namespace L2
open PySem PySem.Spec PyProof.Rows


structure Room (k : Nat) (A : Around) : Prop where
  hd : A.handled = none
  dp : A.depth + 3 * k + 5 < recursionLimit
  un : A.units + 16 * k + 200 < cLine
theorem Room.mono {j k : Nat} {A : Around} (r : Room k A) (h : j ≤ k) : Room j A := ⟨r.hd, by have := r.dp; omega, by have := r.un; omega⟩
theorem Room.deeper {k : Nat} {A : Around} (r : Room (k + 1) A) (env : Env) : Room k (A.deeper env) :=
  ⟨r.hd, by have := r.dp; show A.depth + 1 + 3 * k + 5 < _; omega, by have := r.un; show A.units + 3 + 16 * k + 200 < _; omega⟩
theorem Room.in1 {k : Nat} {A : Around} (r : Room (k + 1) A) : Room k A.in1 :=
  ⟨r.hd, by have := r.dp; show A.depth + 3 * k + 5 < _; omega, by have := r.un; show A.units + 1 + 16 * k + 200 < _; omega⟩
theorem Room.depth {k : Nat} {A : Around} (r : Room k A) : A.depth < recursionLimit := by have := r.dp; omega
theorem Room.units {k : Nat} {A : Around} (r : Room k A) : A.units + 64 < cLine := by have := r.un; omega
def tNil : TA := fun _ H Q => Q [] H
def tCons (ta : TE) (tr : TA) : TA := fun σ H Q => ta σ H fun x H1 => tr σ H1 fun xs H2 => Q (x :: xs) H2
section
variable {X : Cx} {e : Expr} {es : List Expr} {te : TE} {t : TA} {pos : Pos}
theorem pa_nil : PA X [] tNil := fun _ _ _ _ H Q I h => Calls.spliced_nil ⟨[], H, I, .nil, h⟩
theorem pa_cons (ha : PE X e te) (hr : PA X es t) (hs : starEach (e :: es) X.env = (false, eval e X.env) :: starEach es X.env := by rfl) : PA X (e :: es) (tCons te t) := by
  intro pos pins s σ H Q I h
  rw [hs]
  show wpAny _ _ (spliced ((false, eval e X.env) :: backTo pos (starEach es X.env))) _ _ s
  refine Calls.spliced_cons (thn (ha pins s σ H _ I h) fun u s1 ⟨x, H1, I1, r1, q1⟩ => ?_)
  exact thn (hr pos pins s1 σ H1 _ I1 q1) fun us s2 ⟨xs, H2, I2, r2, q2⟩ => ⟨x :: xs, H2, I2, .cons r1 r2, q2⟩


def tTup (t : TA) : TE := fun σ H Q => t σ H fun xs H1 => xs.length ≤ sizeLine ∧ ∀ p, H1 p = none → Q (.ref p) (upd H1 p (.tup xs))
def tLst (t : TA) : TE := fun σ H Q => t σ H fun xs H1 => xs.length ≤ sizeLine ∧ ∀ p, H1 p = none → Q (.ref p) (upd H1 p (.lst xs))
theorem pe_tup {x1} (h : PA X es t) : PE X (.Tuple es x1 pos) (tTup t) := by
  intro pins s σ H Q I hq
  refine wpAny_Tuple_spliced (thn (h pos pins s σ H _ I hq) fun us s1 ⟨xs, H1, I1, r, z, q⟩ => ⟨by rw [← r.length]; exact z, ?_⟩)
  have hf : H1 s1.heap.objs.size = none := I1.hok.fresh (Nat.le_refl _)
  refine ⟨.ref s1.heap.objs.size, upd H1 s1.heap.objs.size (.tup xs), I1.laid (t' := s1.toks) (fun b u e => Heap.get?_push_of_some _ e) (Nat.le_refl _) ?_, rfl, q _ hf⟩
  exact ⟨z, us, r, ⟨_, Heap.get?_push_size _ rfl, rfl, _, rfl⟩⟩
theorem pe_lst (h : PA X es t) : PE X (.List es pos) (tLst t) := by
  intro pins s σ H Q I hq
  refine wpAny_List_spliced (thn (h pos pins s σ H _ I hq) fun us s1 ⟨xs, H1, I1, r, z, q⟩ => ⟨by rw [← r.length]; exact z, ?_⟩)
  have hf : H1 s1.heap.objs.size = none := I1.hok.fresh (Nat.le_refl _)
  refine ⟨.ref s1.heap.objs.size, upd H1 s1.heap.objs.size (.lst xs), I1.laid (t' := s1.toks) (fun b u e => Heap.get?_push_of_some _ e) (Nat.le_refl _) ?_, rfl, q _ hf⟩
  exact ⟨z, us, 0, r, Heap.get?_push_size _ rfl⟩
end



abbrev Sp := List V → Hp → VK → XK → Prop

abbrev CXT := List Env → Hp → Shared → XK → Value → Shared → Prop


structure Env0 (P : Program) (w : World) (K : PySem.W.Frag) (mg : Str → Option Value) (base : Heap) (A : Around) (outer : List Env) (s : Shared) (H : Hp) : Prop where
  frames : A.frames = some outer
  mod : Mod K mg base
  bs : ∀ b o, base.get? b = some o → s.heap.get? b = some o ∧ H b = none
  bsz : base.objs.size ≤ s.heap.objs.size
  funs : s.heap.FunFrames base outer
  frf : ∀ b ∈ frs outer, H b = none
  hok : HOk P w H s.heap
  bare : AllBare s.gens

def CE (outer : List Env) (P : Program) (w : World) (H : Hp) (s : Shared) (Q : VK) (u : Value) (s' : Shared) : Prop :=
  ∃ v H', s'.os = s.os ∧ AllBare s'.gens ∧ Un (frs outer) [] H H' s.heap s'.heap ∧ HOk P w H' s'.heap ∧ RelV v u ∧ Q v H'
def CR (CX : CXT) (outer : List Env) (P : Program) (w : World) (H : Hp) (s : Shared) (Q : VK) (E : XK) (r : Result) (s' : Shared) : Prop :=
  match r with
  | .ok (.ret u) => CE outer P w H s Q u s'
  | .ok _ => False
  | .error e => CX outer H s E e s'
structure FnOk (P : Program) (w : World) (K : PySem.W.Frag) (mg : Str → Option Value) (base : Heap) (CX : CXT) (k : Nat) (f : Addr) (fd : FuncData) (ps : List Str) (sp : Sp) : Prop where
  len : ∀ vs H Q E, sp vs H Q E → vs.length = ps.length
  run : ∀ (A : Around) (outer : List Env) (s : Shared) (H : Hp) (args : Args) (us : List Value) (vs : List V) (Q : VK) (E : XK), Room k A → Env0 P w K mg base A outer s H → BindsTo s fd args (ps.zip us) → Vals vs us → sp vs H Q E →
    codeAny (model P w) A (.call (.ref f) args) (CR CX outer P w H s Q E) s
theorem Env0.in1 {P : Program} {w : World} {K : PySem.W.Frag} {mg : Str → Option Value} {base : Heap} {A : Around} {outer : List Env} {s : Shared} {H : Hp} (e : Env0 P w K mg base A outer s H) :
    Env0 P w K mg base A.in1 outer s H := ⟨e.frames, e.mod, e.bs, e.bsz, e.funs, e.frf, e.hok, e.bare⟩

section
variable {X : Cx} {pins : List (Addr × Obj)} {σ : St} {H : Hp} {s s' : Shared}

theorem Inv.env0 (I : Inv X pins σ H s) : Env0 X.prog X.w X.K X.mg X.base X.A X.stack s H :=
  ⟨I.ok.frames, I.ok.mod, I.bs, Nat.le_trans I.ok.bsz I.sz, I.stack, I.stkFree, I.hok, I.bare⟩

theorem Inv.after {Q : VK} {u : Value} (I : Inv X pins σ H s) (h : CE X.stack X.prog X.w H s Q u s') : EP X pins σ Q u s' := by
  obtain ⟨v, H', os, bare, un, hok, r, q⟩ := h
  obtain ⟨hh, g, d, t, os'⟩ := s'
  obtain rfl : os' = s.os := os
  exact ⟨v, H', I.call (h' := hh) (g' := g) (d' := d) (t' := t) (ch := []) un hok bare (fun b z => absurd z (by simp)), r, q⟩
end



def tCall (sp : Sp) (dvs : List V) (E : XK) (t : TA) : TE := fun σ H Q => t σ H fun vs H1 => sp (vs ++ dvs) H1 Q E

def Binds (K : PySem.W.Frag) (fd : FuncData) (ps : List Str) (ds : List Value) : Prop :=
  ∀ (s : Shared) (us : List Value), K.In s.heap → (us ++ ds).length = ps.length → BindsTo s fd ⟨us, []⟩ (ps.zip (us ++ ds))

theorem Binds.all {K : PySem.W.Frag} {fd : FuncData} {ps : List Str} (h : ∀ us : List Value, us.length = ps.length → bindArgs fd ⟨us, []⟩ = pure (ps.zip us)) : Binds K fd ps [] := fun s us _ hl => by
  rw [List.append_nil] at hl ⊢
  exact .of_eq (h us hl)


def Passes (CX : CXT) (X : Cx) (E : XK) : Prop := ∀ (pins : List (Addr × Obj)) (σ : St) (H : Hp) (s : Shared) (e : Value) (s' : Shared), Inv X pins σ H s → CX X.stack H s E e s' → X.xe e s'

section
variable {X : Cx} {CX : CXT} {k : Nat} {f C : Addr} {fd : FuncData} {ps : List Str} {sp : Sp} {dvs : List V} {ds : List Value} {E : XK} {x m : Str} {p pos apos : Pos} {e o : Expr} {es : List Expr} {ta : TE} {t : TA}


theorem run_fn {pins : List (Addr × Obj)} {σ : St} {H : Hp} {s : Shared} {Q : VK} {us : List Value} {vs : List V} (F : FnOk X.prog X.w X.K X.mg X.base CX k f fd ps sp) (hr : Room k X.A) (hb : Binds X.K fd ps ds) (hd : Vals dvs ds) (hx : Passes CX X E)
    (I : Inv X pins σ H s) (r : Vals vs us) (h : sp (vs ++ dvs) H Q E) : wpAny (model X.prog X.w) X.A (call (.ref f) us) (EP X pins σ Q) X.xe s := by
  have r2 : Vals (vs ++ dvs) (us ++ ds) := r.append hd
  have hl : (us ++ ds).length = ps.length := by rw [← r2.length]; exact F.len _ _ _ _ h
  refine wpAny_call (codeAny_mono (F.run X.A X.stack s H ⟨us, []⟩ (us ++ ds) (vs ++ dvs) Q E hr I.env0 (hb s us I.kIn hl) r2 h) fun r s' hq => ?_)
  cases r with
  | error e => exact hx pins σ H s e s' I hq
  | ok fl =>
    cases fl with
    | ret u => exact I.after hq
    | next => exact False.elim hq
    | brk => exact False.elim hq
    | cont => exact False.elim hq

theorem pe_call (F : FnOk X.prog X.w X.K X.mg X.base CX k f fd ps sp) (hr : Room k X.A) (hg : Gl X x) (hm : X.mg x = some (.ref f)) (hk : PySem.W.keepIn X.K (.ref f) = true) (hb : Binds X.K fd ps ds) (hd : Vals dvs ds) (hx : Passes CX X E)
    (ha : PA X (e :: es) t) (hdb : (x == ("__debug__" : Str)) = false := by decide) (he : starEach (e :: es) X.env = (false, eval e X.env) :: starEach es X.env := by rfl) (hpl : (backTo pos (starEach es X.env)).any (·.1) = false := by rfl) :
    PE X (.Call (.Name x p) (e :: es) [] pos) (tCall sp dvs E t) := by
  intro pins s σ H Q I h
  refine wpAny_Call_Name_kw (ld_glob I hg hm ?_ hdb)
  refine PySem.W.callWith_K (h₀ := X.base) I.ok.mod.kin hk (thn (ha pos pins s σ H _ I h) fun us s1 ⟨vs, H1, I1, r, q⟩ => ⟨I1.kIn, ?_⟩) he hpl
  exact run_fn F hr hb hd hx I1 r q
structure Mk (K : PySem.W.Frag) (C f : Addr) : Prop where
  makes : PySem.W.makesIn K C = true
  init : PySem.W.findIn K (.ref C) "__init__" = some (some (.ref f))
  fn : PySem.W.isFn K (.ref f) = true
  kp : PySem.W.keepIn K (.ref C) = true

end



def PK (X : Cx) (kws : List Keyword) (t : TA) : Prop :=
  ∀ (pos : Pos) (pins : List (Addr × Obj)) (s : Shared) (σ : St) (H : Hp) (Q : List V → Hp → Prop), Inv X pins σ H s → t σ H Q → wpAny (model X.prog X.w) X.A (evalAll ((backToKw pos (keywordEach kws X.env)).map (·.2))) (AP X pins σ Q) X.xe s
section
variable {X : Cx} {CX : CXT} {k : Nat} {f C : Addr} {fd : FuncData} {ps ks : List Str} {sp : Sp} {E : XK} {x m : Str} {p pos apos kpos : Pos} {e o : Expr} {es : List Expr} {kws : List Keyword} {te ta : TE} {t tk : TA} {nm : Option Str}
theorem pk_nil : PK X [] tNil := fun _ _ _ _ H Q I h => wpAny_evalAll_nil ⟨[], H, I, .nil, h⟩
theorem pk_cons (ha : PE X e te) (hr : PK X kws t) : PK X (⟨nm, e, kpos⟩ :: kws) (tCons te t) := by
  intro pos pins s σ H Q I h
  show wpAny _ _ (evalAll ((do let v ← eval e X.env; standAt pos; pure v) :: (backToKw pos (keywordEach kws X.env)).map (·.2))) _ _ s
  refine wpAny_evalAll_cons (wpAny_bind (thn (ha pins s σ H _ I h) fun u s1 ⟨x, H1, I1, r1, q1⟩ => wpAny_bind (wpAny_standAt (wpAny_pure ?_))))
  exact thn (hr pos pins s1 σ H1 _ I1 q1) fun us s2 ⟨xs, H2, I2, r2, q2⟩ => ⟨x :: xs, H2, I2, .cons r1 r2, q2⟩


structure KBinds (K : PySem.W.Frag) (fd : FuncData) (ps ks : List Str) (g : List Value → List Value → List Value) (gV : List V → List V → List V) : Prop where
  to : ∀ (s : Shared) (us ws : List Value), K.In s.heap → (g us ws).length = ps.length → BindsTo s fd ⟨us, ks.zip ws⟩ (ps.zip (g us ws))
  rel : ∀ {vs : List V} {us : List Value} {zs : List V} {ws : List Value}, Vals vs us → Vals zs ws → Vals (gV vs zs) (g us ws)
variable {g : List Value → List Value → List Value} {gV : List V → List V → List V}
end



structure FnScope (N P : List Str) (sc : Scope) : Prop where
  kind : sc.kind = .function
  co : sc.isCoroutine = false
  gen : sc.isGenerator = false
  nd : N.Nodup
  pre : N.take P.length = P
  par : ∀ x ∈ P, sc.names.lookup x = some .local ∨ sc.names.lookup x = some .cell
  nofree : ∀ y ∈ sc.names, y.2 ≠ .free

theorem bindL_out {kindOf : Str → Option NameKind} {x : Str} : ∀ {binds : List (Str × Value)} {m : Str → Option Value}, (∀ v, (x, v) ∉ binds) → bindL kindOf binds m x = m x
  | [], _, _ => rfl
  | (n, v) :: r, m, h => by
    unfold bindL
    rw [bindL_out fun w hw => h w (List.mem_cons_of_mem _ hw)]
    split
    · have : x ≠ n := by rintro rfl; exact h v List.mem_cons_self
      simp [this]
    · rfl
theorem bindC_out {kindOf : Str → Option NameKind} {x : Str} : ∀ {binds : List (Str × Value)} {m : Str → Option Value}, (∀ v, (x, v) ∉ binds) → bindC kindOf binds m x = m x
  | [], _, _ => rfl
  | (n, v) :: r, m, h => by
    unfold bindC
    rw [bindC_out fun w hw => h w (List.mem_cons_of_mem _ hw)]
    split
    · rfl
    · have : x ≠ n := by rintro rfl; exact h v List.mem_cons_self
      simp [this]
theorem bindL_get {kindOf : Str → Option NameKind} {x : Str} {v : Value} : ∀ {P : List Str} {vs : List Value} {i : Nat} {m : Str → Option Value}, P.Nodup → P[i]? = some x → vs[i]? = some v → kindOf x = some .local →
    bindL kindOf (P.zip vs) m x = some v
  | [], _, _, _, _, h, _, _ => by simp at h
  | _ :: _, [], _, _, _, _, h, _ => by simp at h
  | p :: P, w :: vs, 0, m, nd, h1, h2, hk => by
    simp at h1 h2; subst h1; subst h2
    show bindL kindOf ((p, w) :: P.zip vs) m p = _
    unfold bindL
    rw [bindL_out fun v hv => (List.nodup_cons.mp nd).1 (List.of_mem_zip hv).1, if_pos hk]
    simp
  | p :: P, w :: vs, i + 1, m, nd, h1, h2, hk => by
    show bindL kindOf ((p, w) :: P.zip vs) m x = _
    unfold bindL
    exact bindL_get (i := i) (List.nodup_cons.mp nd).2 (by simpa using h1) (by simpa using h2) hk
theorem bindC_get {kindOf : Str → Option NameKind} {x : Str} {v : Value} : ∀ {P : List Str} {vs : List Value} {i : Nat} {m : Str → Option Value}, P.Nodup → P[i]? = some x → vs[i]? = some v → kindOf x ≠ some .local →
    bindC kindOf (P.zip vs) m x = some v
  | [], _, _, _, _, h, _, _ => by simp at h
  | _ :: _, [], _, _, _, _, h, _ => by simp at h
  | p :: P, w :: vs, 0, m, nd, h1, h2, hk => by
    simp at h1 h2; subst h1; subst h2
    show bindC kindOf ((p, w) :: P.zip vs) m p = _
    unfold bindC
    rw [bindC_out fun v hv => (List.nodup_cons.mp nd).1 (List.of_mem_zip hv).1, if_neg hk]
    simp
  | p :: P, w :: vs, i + 1, m, nd, h1, h2, hk => by
    show bindC kindOf ((p, w) :: P.zip vs) m x = _
    unfold bindC
    exact bindC_get (i := i) (List.nodup_cons.mp nd).2 (by simpa using h1) (by simpa using h2) hk


def start (N : List Str) (vs : List V) : St := vs.map some ++ List.replicate (N.length - vs.length) none


def cxOf (CX : CXT) (P : Program) (w : World) (K : PySem.W.Frag) (mg : Str → Option Value) (base : Heap) (N : List Str) (qual : Str) (scope : Scope) (f : Addr) (cd : Value) (A : Around) (outer : List Env) (s : Shared) (H : Hp) (E : XK) : Cx where
  prog := P
  w := w
  K := K
  mg := mg
  base := base
  A := A.deeper (envOfC qual scope s.heap.objs.size f cd)
  N := N
  s₀ := s
  H₀ := H
  env := envOfC qual scope s.heap.objs.size f cd
  outer := outer
  stack := envOfC qual scope s.heap.objs.size f cd :: outer
  ex := []
  calm := true
  fn := fun _ => true
  pn := []
  xe := fun e s' => wpAny (model P w) (A.deeper (envOfC qual scope s.heap.objs.size f cd)) (leaving (envOfC qual scope s.heap.objs.size f cd) e) (fun _ s'' => CX outer H s E e s'') (fun e' s'' => CX outer H s E e' s'') s'

theorem cell_has {sc : Scope} {n : Nat} {x : Str} (h : sc.names.lookup x = some .cell) : ∃ c, (cellsFrom n sc.names []).lookup x = some c := by
  have q := PySem.W.cellsFrom_some sc.names n [] (.inl h)
  exact Option.isSome_iff_exists.mp q

theorem inv_start {CX : CXT} {P : Program} {w : World} {K : PySem.W.Frag} {mg : Str → Option Value} {base : Heap} {N ps : List Str} {qual : Str} {scope : Scope} {f : Addr} {cd : Value} {A : Around} {outer : List Env} {s s1 : Shared} {H : Hp} {E : XK} {us : List Value} {vs : List V}
    (S : FnScope N ps scope) (hd : A.handled = none) (e0 : Env0 P w K mg base A outer s H) (hl : vs.length = ps.length) (r : Vals vs us)
    (x : InCallC s s.heap.objs.size (bindL (envOfC qual scope s.heap.objs.size f cd).kindOf (ps.zip us) fun _ => none) (cellsFrom (s.heap.objs.size + 1) scope.names []) (bindC (envOfC qual scope s.heap.objs.size f cd).kindOf (ps.zip us) fun _ => none) s1) :
    Inv (cxOf CX P w K mg base N qual scope f cd A outer s H E) [] (start N vs) H s1 := by
  have hpl : ps.length ≤ N.length := by have := congrArg List.length S.pre; rw [List.length_take] at this; omega
  obtain ⟨h1, tk, rfl, hk⟩ := x.done
  have noA : ∀ b : Addr, b ∉ (cxOf CX P w K mg base N qual scope f cd A outer s H E).ex := fun b z => absurd (show b ∈ ([] : List Addr) from z) (by simp)
  refine ⟨⟨e0.mod, S.kind, rfl, rfl, Nat.le_refl _, fun y z c h1 h2 => ?_, fun y hy => ?_, fun y c _ h => ?_, fun _ => hd, Around.frames_deeper e0.frames, .inr ⟨rfl, rfl⟩, fun b z => absurd z (noA b), e0.bs, e0.bsz, fun b _ _ => noA b, fun b z => absurd z (noA b), e0.funs, e0.frf⟩,
    rfl, e0.bare, Un.kept hk, ⟨_, x.toInCall.ns, fun i y v h1 h2 h3 => ?_⟩, fun y c h => ⟨_, x.cell y c h⟩, e0.hok.fresh (Nat.le_refl _), fun y c h => ?_, fun p hp => absurd (show p ∈ ([] : List (Addr × Obj)) from hp) (by simp), e0.hok.kept hk, ?_⟩
  · exact name_of_addr x.apart (PySem.mem_of_lookup h1) (PySem.mem_of_lookup h2)
  · have hy : scope.names.lookup y = some .cell ∨ scope.names.lookup y = some .free := hy
    rcases hy with hy | hy
    · exact cell_has hy
    · exact absurd rfl (S.nofree _ (PySem.mem_of_lookup hy))
  · exact Nat.le_of_lt (x.above y c (PySem.mem_of_lookup h))
  · have hi : i < vs.length := by
      unfold start at h2
      by_cases hi : i < vs.length
      · exact hi
      · rw [List.getElem?_append_right (by simpa using hi)] at h2
        rw [List.getElem?_replicate] at h2
        split at h2 <;> cases h2
    have ha : vs[i]? = some v := by
      unfold start at h2
      rw [List.getElem?_append_left (by simpa using hi), List.getElem?_map] at h2
      cases e : vs[i]? with
      | none => rw [e] at h2; cases h2
      | some a => rw [e] at h2; cases h2; rfl
    obtain ⟨u, hu, rv⟩ := r.get ha
    have hp : ps[i]? = some y := by
      rw [← S.pre, List.getElem?_take_of_lt (by omega)]; exact h1
    have ndP : ps.Nodup := by rw [← S.pre]; exact S.nd.sublist (List.take_sublist _ _)
    refine ⟨u, rv, ?_⟩
    rcases S.par y (List.mem_of_getElem? hp) with k | k
    · exact .inl ⟨k, bindL_get ndP hp hu k⟩
    · obtain ⟨c, e⟩ := cell_has (n := s.heap.objs.size + 1) k
      refine .inr ⟨.inl k, c, e, ?_⟩
      have q := x.cell y c e
      rw [bindC_get ndP hp hu (by show scope.names.lookup y ≠ _; rw [k]; decide)] at q
      exact q
  · exact e0.hok.fresh (Nat.le_of_lt (x.above y c (PySem.mem_of_lookup h)))
  · unfold start
    show _ = N.length
    rw [List.length_append, List.length_map, List.length_replicate]
    omega


theorem fn_of {CX : CXT} {P : Program} {w : World} {K : PySem.W.Frag} {mg : Str → Option Value} {base : Heap} {k : Nat} {f : Addr} {name qual : Str} {params : Arguments} {body : List Stmt} {scope : Scope} {dV kV doc pm cdv ct oc : Value} {an od : Option Addr}
    {osl : Array (Option Value)} {N ps : List Str} {sp : Sp} (lk : K.lookup f = some ⟨oc, od, .func (PySem.W.fnOf name qual params body scope dV kV doc pm an cdv ct), osl⟩) (hcd : PySem.W.codeIn K cdv qual = true) (S : FnScope N ps scope)
    (len : ∀ vs H Q E, sp vs H Q E → vs.length = ps.length)
    (hbody : ∀ (A : Around) (outer : List Env) (s : Shared) (H : Hp) (vs : List V) (Q : VK) (E : XK), Room k (A.deeper (envOfC qual scope s.heap.objs.size f cdv)) → sp vs H Q E →
      ∃ t, PSs (cxOf CX P w K mg base N qual scope f cdv A outer s H E) body t ∧ t { nx := fun _ H' => Q .non H', rt := Q } (start N vs) H) :
    FnOk P w K mg base CX (k + 1) f (PySem.W.fnOf name qual params body scope dV kV doc pm an cdv ct) ps sp := by
  refine ⟨len, fun A outer s H args us vs Q E hr e0 hb r hsp => ?_⟩
  have hl := len _ _ _ _ hsp
  have KX : K.In s.heap := e0.mod.kin.keeps fun b o e => (e0.bs b o e).1
  have lim : s.heap.NoLimit := e0.mod.nolimit.keeps fun b o e => (e0.bs b o e).1
  have hkind : ∀ y ∈ ps.zip us, scope.names.lookup y.1 = some .local ∨ (scope.names.lookup y.1 = some .cell ∧ ((cellsFrom (s.heap.objs.size + 1) scope.names []).lookup y.1).isSome = true) := fun ⟨n, v⟩ hy => by
    rcases S.par n (List.of_mem_zip hy).1 with q | q
    · exact .inl q
    · exact .inr ⟨q, PySem.W.cellsFrom_some _ _ _ (.inl q)⟩
  refine codeAny_call_function hr.depth (KX _ _ lk) rfl S.co S.gen rfl (PySem.W.codeRec_of KX hcd) (hb _ _ _ _ ?_)
  refine wpAny_newFunctionEnv_cells S.kind hkind fun env he s1 x => ?_
  subst he
  refine ⟨lim.keeps x.toInCall.keep, codeAny_func ?_⟩
  obtain ⟨t, ht, hq⟩ := hbody A outer s H vs Q E (hr.deeper _) hsp
  have I : Inv (cxOf CX P w K mg base N qual scope f cdv A outer s H E) [] (start N vs) H s1 := inv_start S hr.hd e0 hl r x
  refine wpAny_mono (ht [] s1 (start N vs) H _ I hq) (fun fl s' hs => ?_) fun e s' hs => hs
  have fin : ∀ {σ' : St} {H' : Hp} {v : V} {u : Value}, Inv (cxOf CX P w K mg base N qual scope f cdv A outer s H E) [] σ' H' s' → RelV v u → Q v H' → CE outer P w H s Q u s' :=
    fun {σ' H' v u} J rv q => ⟨v, H', J.os, J.bare, J.base, J.hok, rv, q⟩
  cases fl with
  | ret u =>
    obtain ⟨v, σ', H', J, rv, q⟩ := hs
    exact fin J rv q
  | next =>
    obtain ⟨σ', H', J, q⟩ := hs
    exact fin (v := V.non) (u := Value.none) J rfl q
  | brk =>
    obtain ⟨_, _, _, q⟩ := hs
    exact False.elim q
  | cont =>
    obtain ⟨_, _, _, q⟩ := hs
    exact False.elim q
end L2

namespace L2
open PySem PySem.Spec PyProof.Rows
section
variable {X : Cx} {x : Str} {p pos : Pos} {e : Expr} {es : List Expr} {t : TA} {id T : String} {r : List V → Hp → VK → Prop}

def tCB (r : List V → Hp → VK → Prop) (t : TA) : TE := fun σ H Q => t σ H fun vs H1 => r vs H1 Q

theorem pe_callB (hc : CallR X (.builtin id) r) (hg : Gl X x) (hm : X.mg x = none) (hv : bootBuiltins x = some (.builtin id)) (ha : PA X (e :: es) t) (hn : x ≠ "__name__" := by decide) (hdb : (x == ("__debug__" : Str)) = false := by decide)
    (he : starEach (e :: es) X.env = (false, eval e X.env) :: starEach es X.env := by rfl) (hpl : (backTo pos (starEach es X.env)).any (·.1) = false := by rfl) : PE X (.Call (.Name x p) (e :: es) [] pos) (tCB r t) := by
  intro pins s σ H Q I h
  refine wpAny_Call_Name_kw (ld_blt I hg hm hv ?_ hn hdb)
  exact PyProof.Rows.callWith_builtin1 (thn (ha pos pins s σ H _ I h) fun us s1 ⟨vs, H1, I1, r1, q1⟩ => hc pins s1 σ H1 vs us Q I1 r1 q1) he hpl

theorem pe_callTy (hc : CallR X (.type T) r) (hg : Gl X x) (hm : X.mg x = none) (hv : bootBuiltins x = some (.type T)) (ha : PA X (e :: es) t) (hn : x ≠ "__name__" := by decide) (hdb : (x == ("__debug__" : Str)) = false := by decide)
    (he : starEach (e :: es) X.env = (false, eval e X.env) :: starEach es X.env := by rfl) (hpl : (backTo pos (starEach es X.env)).any (·.1) = false := by rfl) : PE X (.Call (.Name x p) (e :: es) [] pos) (tCB r t) := by
  intro pins s σ H Q I h
  refine wpAny_Call_Name_kw (ld_blt I hg hm hv ?_ hn hdb)
  exact PyProof.Rows.callWith_type1 (thn (ha pos pins s σ H _ I h) fun us s1 ⟨vs, H1, I1, r1, q1⟩ => hc pins s1 σ H1 vs us Q I1 r1 q1) he hpl

end
end L2

namespace HT
open PySem PyProof.Rows


def lexLt : List Int → List Int → Bool
  | [], [] => false
  | [], _ :: _ => true
  | _ :: _, [] => false
  | x :: xs, y :: ys => if x = y then lexLt xs ys else decide (x < y)
theorem lexLt_cons (x y : Int) (xs ys : List Int) : lexLt (x :: xs) (y :: ys) = if x = y then lexLt xs ys else decide (x < y) := rfl
theorem lexLt_cons_nil (x : Int) (xs : List Int) : lexLt (x :: xs) [] = false := rfl

theorem rcLt_int (A : Around) (s : Shared) (a : Int) (t : Tok) (c : Int) (u : Tok) (prog : Program) (w : World) (E : Value → Shared → Prop) (Q : Value → Shared → Prop) (h : Q (.bool (decide (a < c))) s) :
    wpAny (model prog w) A (richCompare .Lt (.int a t) (.int c u)) Q E s :=
  (PyProof.Rows.lt_int h : wpAny (model prog w) A (compareOp .Lt (.int a t) (.int c u)) Q E s)

section
open PySem.SeqAt
open PySem.AutoSeq1 (wpAny_loadPart')
open PySem.MeetsSeq PySem.MeetsSeq2 PySem.MeetsSeq3

end

section
variable {prog : Program} {w : World} {A : Around} {E : Value → Shared → Prop} {s : Shared}

theorem cat_tup {t b : Addr} {vs ws : List Value} {Q : Value → Shared → Prop} (ht : IsTup s.heap t vs.toArray) (hb : IsTup s.heap b ws.toArray) (hv : vs ≠ [])
    (h1 : ws = [] → Q (.ref t) s) (h2 : ws ≠ [] → Q (.ref s.heap.objs.size) { s with heap := s.heap.push { cls := .type "tuple", data := .seq (vs ++ ws).toArray } })
    (hsz : vs.length + ws.length ≤ sizeLine) : wpAny (model prog w) A (binaryOp .Add (.ref t) (.ref b)) Q E s := by
  obtain ⟨⟨cls, dd, data, sl⟩, ho, hc, n, hd⟩ := id ht
  obtain ⟨⟨cls2, dd2, data2, sl2⟩, ho2, hc2, n2, hd2⟩ := id hb
  simp only at hc hd hc2 hd2
  subst hc hd hc2 hd2
  have e : vs.toArray ++ ws.toArray = (vs ++ ws).toArray := by simp
  by_cases hw : ws = []
  · exact concat_meets ⟨_, ho, rfl⟩ ⟨_, ho2, rfl⟩ noFill_tuple_add seq_tuple_add PySem.F.slot_tuple_add PySem.F.entry_tuple_add (PySem.F.args_tuple_add_2 _ _)
      (tuple_addW1 t b vs.toArray ws.toArray n n2 dd dd2 sl sl2 (by simpa using hv) (by simp [hw])) ⟨ho, ho2, h1 hw⟩
  · refine concat_meets ⟨_, ho, rfl⟩ ⟨_, ho2, rfl⟩ noFill_tuple_add seq_tuple_add PySem.F.slot_tuple_add PySem.F.entry_tuple_add (PySem.F.args_tuple_add_2 _ _)
      (tuple_addW2 t b vs.toArray ws.toArray n n2 dd dd2 sl sl2 (by simpa using hv) (by simpa using hw) (by rw [List.size_toArray, List.size_toArray]; exact hsz)) ⟨ho, ho2, ?_⟩
    rw [e]
    exact h2 hw



def sIx (n d : Nat) : Option Int → Nat
  | none => d
  | some v => if v < 0 then (v + (n : Int)).toNat else min v.toNat n
theorem sIx_nat (n d k : Nat) : sIx n d (some (k : Int)) = min k n := by
  show (if (k : Int) < 0 then ((k : Int) + (n : Int)).toNat else min (k : Int).toNat n) = min k n
  rw [if_neg (by omega), Int.toNat_natCast]
theorem sIx_le (n d : Nat) (hd : d ≤ n) (o : Option Int) : sIx n d o ≤ n := by
  cases o with
  | none => exact hd
  | some v =>
    show (if v < 0 then (v + (n : Int)).toNat else min v.toNat n) ≤ n
    by_cases hv : v < 0
    · rw [if_pos hv]; omega
    · rw [if_neg hv]; exact Nat.min_le_right _ _
theorem clip_eq (v : Int) (n d : Nat) : (if v < 0 then max (v + (n : Int)) 0 else min v (n : Int)) = ((sIx n d (some v) : Nat) : Int) := by
  show (if v < 0 then max (v + (n : Int)) 0 else min v (n : Int)) = (((if v < 0 then (v + (n : Int)).toNat else min v.toNat n) : Nat) : Int)
  by_cases hv : v < 0
  · simp only [if_pos hv]; omega
  · simp only [if_neg hv]; omega
theorem adjust_gen (lo hi : Option Int) (n : Nat) : Builtin.Slice.sliceAdjust lo hi 1 (n : Int) = (((sIx n 0 lo : Nat) : Int), ((sIx n n hi : Nat) : Int)) := by
  have h1 : ¬ ((1 : Int) < 0) := by omega
  unfold Builtin.Slice.sliceAdjust
  simp only [h1, if_false]
  refine Prod.ext ?_ ?_
  · cases lo with
    | none => rfl
    | some v => exact clip_eq v n 0
  · cases hi with
    | none => rfl
    | some v => exact clip_eq v n n
theorem places_gen (i j : Nat) : Builtin.Slice.slicePlaces (i : Int) (j : Int) 1 = j - i := by
  unfold Builtin.Slice.slicePlaces
  have h1 : (1 : Int) > 0 := by omega
  simp only [h1, if_true, Int.ediv_one]
  split <;> omega
theorem slicePart_ {v : Value} {o : Option Int} {Q : Option Int → Shared → Prop} (p : IsPart v o) (h : Q o s) : wpAny (model prog w) A (Builtin.Slice.slicePartIndex v) Q E s := by
  cases p with
  | none => exact slicePart_none h
  | int i t => exact slicePart_int h
theorem sliceApplied_gen {sl : Addr} {vl vu : Value} {lo hi : Option Int} {n : Nat} {Q : Int × Int × Nat → Shared → Prop} (hs : s.heap.IsSliceOf sl vl vu .none) (pl : IsPart vl lo) (pu : IsPart vu hi)
    (h : Q (((sIx n 0 lo : Nat) : Int), 1, sIx n n hi - sIx n 0 lo) s) : wpAny (model prog w) A (Builtin.Slice.sliceApplied (.ref sl) (pure (n : Int))) Q E s := by
  obtain ⟨os, hos, hcs, hds⟩ := id hs
  unfold Builtin.Slice.sliceApplied Builtin.Slice.sliceFields
  refine wpAny_bind (wpAny_bind (wpAny_field hos hds (x := vl) rfl (wpAny_bind (wpAny_field hos hds (x := vu) rfl (wpAny_bind (wpAny_field hos hds (x := .none) rfl (wpAny_pure ?_)))))))
  refine wpAny_bind (slicePart_none ?_)
  show wpAny _ _ (if ((1 : Int) == 0) = true then _ else _) _ _ s
  rw [if_neg (by decide)]
  refine wpAny_bind (slicePart_ pl (wpAny_bind (slicePart_ pu (wpAny_bind (wpAny_pure ?_)))))
  show wpAny _ _ (match Builtin.Slice.sliceAdjust lo hi 1 (n : Int) with | (lo, hi) => pure (lo, (1 : Int), Builtin.Slice.slicePlaces lo hi 1)) _ _ s
  rw [adjust_gen lo hi n]
  show wpAny _ _ (pure (((sIx n 0 lo : Nat) : Int), (1 : Int), Builtin.Slice.slicePlaces ((sIx n 0 lo : Nat) : Int) ((sIx n n hi : Nat) : Int) 1)) _ _ s
  rw [places_gen]
  exact wpAny_pure h
theorem pick_gen (xs : Array Value) (i k : Nat) : ((List.range k).filterMap fun (m : Nat) => xs[((i : Int) + (m : Int) * 1).toNat]?).toArray = ((xs.toList.drop i).take k).toArray := by
  have e : (fun (m : Nat) => xs[((i : Int) + (m : Int) * 1).toNat]?) = fun m => xs[i + m]? := by
    funext m
    have : ((i : Int) + (m : Int) * 1).toNat = i + m := by omega
    rw [this]
  rw [e]
  have := pick_run xs i k
  rw [List.filterMap_map] at this
  have e2 : ((fun x => xs[x]?) ∘ fun x => i + x) = fun m => xs[i + m]? := rfl
  rw [e2] at this
  rw [this]

theorem getItem_tuple_cut {t sl : Addr} {items : Array Value} {vl vu : Value} {lo hi : Option Int} {Q : Value → Shared → Prop} (ht : IsTup s.heap t items) (hs : s.heap.IsSliceOf sl vl vu .none) (pl : IsPart vl lo) (pu : IsPart vu hi)
    (hw : ¬ (sIx items.size 0 lo = 0 ∧ sIx items.size items.size hi = items.size))
    (h : Q (.ref s.heap.objs.size) { s with heap := s.heap.push { cls := .type "tuple", data := .seq ((items.toList.drop (sIx items.size 0 lo)).take (sIx items.size items.size hi - sIx items.size 0 lo)).toArray } })
    (hsz : items.size ≤ sizeLine) : wpAny (model prog w) A (getItem (.ref t) (.ref sl)) Q E s := by
  have htake : sizeOk (.seq ((items.toList.drop (sIx items.size 0 lo)).take (sIx items.size items.size hi - sIx items.size 0 lo)).toArray) := by
    show ((items.toList.drop (sIx items.size 0 lo)).take (sIx items.size items.size hi - sIx items.size 0 lo)).toArray.size ≤ sizeLine
    rw [List.size_toArray, List.length_take, List.length_drop, Array.length_toList]
    omega
  have hj : sIx items.size items.size hi ≤ items.size := sIx_le _ _ (Nat.le_refl _) hi
  obtain ⟨os, hos, hcs, hds⟩ := id hs
  have hTs : s.TypeIs (.ref sl) "slice" := ⟨os, hos, hcs⟩
  unfold getItem
  try with_reducible refine wpAny_holding ?_
  first | refine wpAny_bind (wpAny_pure ?_) | skip
  refine wpAny_bind (wpAny_sequenceKey ht.typeIs (by decide) ?_)
  refine wpAny_bind (wpAny_callSpecial?_slot (name := Str.ofString "__getitem__") ht.typeIs PyProof.Rows.slot_tuple_getitem
    (wpAny_call_entry PyProof.Rows.slot_tuple_getitem ht.typeIs entry_tuple_getitem ?_ (args_tuple_getitem _ _)))
  show wpAny _ _ (Builtin.Tuple.tupleItemsOf (.ref t) >>= _) _ _ s
  refine wpAny_bind (tupleItemsOf_ ht ?_)
  refine wpAny_bind (wpAny_typeOf hTs ?_)
  rw [if_pos (by decide)]
  refine wpAny_bind (sliceApplied_gen hs pl pu ?_)
  have hno : ¬ ((((sIx items.size 0 lo : Nat) : Int) == 0 && (1 : Int) == 1 && (sIx items.size items.size hi - sIx items.size 0 lo) == items.size) = true) := by
    intro q
    rw [Bool.and_eq_true, Bool.and_eq_true] at q
    have q1 : ((sIx items.size 0 lo : Nat) : Int) = 0 := eq_of_beq q.1.1
    have q2 : sIx items.size items.size hi - sIx items.size 0 lo = items.size := eq_of_beq q.2
    exact hw ⟨by omega, by omega⟩
  show wpAny _ _ (if (((sIx items.size 0 lo : Nat) : Int) == 0 && (1 : Int) == 1 && (sIx items.size items.size hi - sIx items.size 0 lo) == items.size) = true then _ else _) _ _ s
  rw [if_neg hno, pick_gen]
  first
    | exact wpAny_bind (m := Builtin.Tuple.tupleExact _) (wpAny_newObj_type (wpAny_pure ⟨_, rfl, wpAny_pure h⟩) htake)
    | exact wpAny_bind (m := Builtin.Tuple.tupleExact _) (wpAny_newObj_type (wpAny_bind (wpAny_pure (wpAny_pure ⟨_, rfl, wpAny_pure h⟩))) htake)
    | exact wpAny_bind (wpAny_bind (m := Builtin.Tuple.tupleExact _) (wpAny_newObj_type (wpAny_pure (wpAny_pure ⟨_, rfl, wpAny_pure h⟩)) htake))
    | exact wpAny_bind (wpAny_bind (m := Builtin.Tuple.tupleExact _) (wpAny_newObj_type (wpAny_pure ⟨_, rfl, wpAny_pure h⟩) htake))
end
end HT

namespace L2
open PySem PySem.Spec PyProof.Rows


abbrev TO := St → Hp → (Option Int → Hp → Prop) → Prop

def PO (X : Cx) (e : Option Expr) (t : TO) : Prop :=
  ∀ (pins : List (Addr × Obj)) (s : Shared) (σ : St) (H : Hp) (Q : Option Int → Hp → Prop), Inv X pins σ H s → t σ H Q →
    wpAny (model X.prog X.w) X.A (evalPart e X.env) (fun u s' => ∃ o H', Inv X pins σ H' s' ∧ IsPart u o ∧ Q o H') X.xe s
def tNoPart : TO := fun _ H Q => Q none H
def tPart (t : TE) : TO := fun σ H Q => t σ H fun x H1 => ∃ i, x = .int i ∧ Q (some i) H1

theorem intsAre_of {ns : List Int} : ∀ {us : List Value}, Vals (ns.map V.int) us → IntsAre us ns := by
  induction ns with
  | nil => intro us r; rw [List.map_nil] at r; cases r; exact .nil
  | cons n ns ih =>
    intro us r
    rw [List.map_cons] at r
    cases r with
    | cons r1 r2 =>
      obtain ⟨t, e⟩ := r1
      subst e
      exact .cons n t (ih r2)

section
variable {X : Cx} {e : Expr} {te : TE} {lo hi : Option Expr} {tl th : TO} {pos p2 : Pos}

theorem po_none : PO X none tNoPart := by
  intro pins s σ H Q I h
  rw [evalPart_none]
  exact wpAny_pure ⟨none, H, I, .none, h⟩
theorem po_some (h : PE X e te) : PO X (some e) (tPart te) := by
  intro pins s σ H Q I hw
  rw [evalPart_some]
  refine thn (h pins s σ H _ I hw) fun u s1 ⟨x, H1, I1, r1, q1⟩ => ?_
  obtain ⟨i, rfl, q⟩ := q1
  obtain ⟨t, rfl⟩ := r1
  exact ⟨some i, H1, I1, .int i t, q⟩


def SlR (X : Cx) (r : V → Option Int → Option Int → Hp → VK → Prop) : Prop :=
  ∀ (pins : List (Addr × Obj)) (s : Shared) (σ : St) (H : Hp) (x : V) (v vl vu : Value) (lo hi : Option Int) (sl : Addr) (Q : VK), Inv X pins σ H s → RelV x v → s.heap.IsSliceOf sl vl vu .none → IsPart vl lo → IsPart vu hi → r x lo hi H Q →
    ∃ T id, typeLookup (.type T) "__getitem__" = pure (some (.builtin id)) ∧ s.TypeIs v T ∧ wpAny (model X.prog X.w) X.A (getItem v (.ref sl)) (EP X pins σ Q) X.xe s
def tSl (r : V → Option Int → Option Int → Hp → VK → Prop) (te : TE) (tl th : TO) : TE := fun σ H Q => te σ H fun x H1 => tl σ H1 fun l H2 => th σ H2 fun u H3 => r x l u H3 Q

theorem pe_slice {r : V → Option Int → Option Int → Hp → VK → Prop} (hr : SlR X r) (he : PE X e te) (hl : PO X lo tl) (hu : PO X hi th) : PE X (.Subscript e (.Slice lo hi none p2) pos) (tSl r te tl th) := by
  intro pins s σ H Q I h
  refine Subscript_ (thn (he pins s σ H _ I h) fun v s1 ⟨x, H1, I1, r1, q1⟩ => ?_)
  refine wpAny_Slice (thn (hl pins s1 σ H1 _ I1 q1) fun vl s2 ⟨l, H2, I2, pl, q2⟩ => thn (hu pins s2 σ H2 _ I2 q2) fun vu s3 ⟨u, H3, I3, pu, q3⟩ => ?_)
  rw [evalPart_none]
  refine wpAny_pure ?_
  have I4 : Inv X pins σ H3 { s3 with heap := s3.heap.push { cls := .type "slice", data := .fields #[vl, vu, .none] } } := I3.kept (t' := s3.toks) fun b ob q => Heap.get?_push_of_some _ q
  obtain ⟨T, id, hT, ht, hg⟩ := hr pins { s3 with heap := s3.heap.push { cls := .type "slice", data := .fields #[vl, vu, .none] } } σ H3 x v vl vu l u s3.heap.objs.size Q I4 r1 (Heap.IsSliceOf.new ..) pl pu q3
  show wpAny (model X.prog X.w) X.A (subscriptTail e (.Slice lo hi none p2) v (.ref s3.heap.objs.size)) (EP X pins σ Q) X.xe { s3 with heap := s3.heap.push { cls := .type "slice", data := .fields #[vl, vu, .none] } }
  exact tail_any (ops := [.ref s3.heap.objs.size, v]) ht hT hg (by with_unfolding_all rfl)


def cutV (xs : List V) (lo hi : Option Int) : List V := (xs.drop (HT.sIx xs.length 0 lo)).take (HT.sIx xs.length xs.length hi - HT.sIx xs.length 0 lo)
theorem cutV_length (xs : List V) (lo hi : Option Int) : (cutV xs lo hi).length ≤ xs.length := by
  unfold cutV
  rw [List.length_take, List.length_drop]
  omega

def rSlT (K : PySem.W.Frag) : V → Option Int → Option Int → Hp → VK → Prop := fun x lo hi H Q => ∃ a xs, x = .ref a ∧ SqT K H a xs ∧
  ¬ (HT.sIx xs.length 0 lo = 0 ∧ HT.sIx xs.length xs.length hi = xs.length) ∧ ∀ p, H p = none → Q (.ref p) (upd H p (.tup (cutV xs lo hi)))
theorem sl_tup : SlR X (rSlT X.K) := by
  intro pins s σ H x v vl vu lo hi sl Q I rx hs pl pu h
  obtain ⟨a, xs, rfl, hx, hw, q⟩ := h
  cases rx
  obtain ⟨its, r, ht, hz⟩ := I.tuple hx
  have hlen : its.toArray.size = xs.length := by rw [List.size_toArray]; exact r.length.symm
  refine ⟨"tuple", _, PyProof.Rows.slot_tuple_getitem.lookup, ht.typeIs, ?_⟩
  refine HT.getItem_tuple_cut ht hs pl pu (by rw [hlen]; exact hw) ?_ (by rw [hlen]; exact hz)
  rw [hlen]
  refine ⟨.ref s.heap.objs.size, _, I.laid (t' := s.toks) (o := .tup (cutV xs lo hi)) (fun b ob q => Heap.get?_push_of_some _ q) (Nat.le_refl _) ?_, rfl, q _ (I.hok.fresh (Nat.le_refl _))⟩
  exact ⟨Nat.le_trans (cutV_length xs lo hi) hz, _, (r.drop (HT.sIx xs.length 0 lo)).take (HT.sIx xs.length xs.length hi - HT.sIx xs.length 0 lo), IsTup.new _ _⟩


def rCatT (K : PySem.W.Frag) : R2 := fun x y H Q => ∃ a b xs ys, x = .ref a ∧ y = .ref b ∧ SqT K H a xs ∧ SqT K H b ys ∧ xs ≠ [] ∧ xs.length + ys.length ≤ sizeLine ∧
  (ys = [] → Q (.ref a) H) ∧ (ys ≠ [] → ∀ p, H p = none → Q (.ref p) (upd H p (.tup (xs ++ ys))))
theorem Vals.nil_iff {xs : List V} {us : List Value} (r : Vals xs us) : us = [] ↔ xs = [] := by
  cases r with
  | nil => simp
  | cons _ _ => simp
theorem op_catT : OpR X (binaryOp .Add) (rCatT X.K) := by
  intro pins s σ H x y v u Q I rx ry h
  obtain ⟨a, b, xs, ys, rfl, rfl, ha, hb, hx, hz, q1, q2⟩ := h
  cases rx
  cases ry
  obtain ⟨its, r1, p1, _⟩ := I.tuple ha
  obtain ⟨its2, r2, p2, _⟩ := I.tuple hb
  refine HT.cat_tup p1 p2 (fun z => hx (r1.nil_iff.mp z)) (fun z => ⟨.ref a, H, I, rfl, q1 (r2.nil_iff.mp z)⟩) (fun z => ?_) (by rw [← r1.length, ← r2.length]; exact hz)
  refine ⟨.ref s.heap.objs.size, _, I.laid (t' := s.toks) (o := .tup (xs ++ ys)) (fun b ob q => Heap.get?_push_of_some _ q) (Nat.le_refl _) ?_, rfl, q2 (fun w => z (r2.nil_iff.mpr w)) _ (I.hok.fresh (Nat.le_refl _))⟩
  exact ⟨by rw [List.length_append]; exact hz, _, r1.append r2, IsTup.new _ _⟩

end
end L2

namespace L2
open PySem PySem.Spec PyProof.Rows



def ixN (n : Nat) (i : Int) : Option Nat := if 0 ≤ i then (if i < n then some i.toNat else none) else if -(n : Int) ≤ i then some (i + n).toNat else none
def atI {α : Type} (xs : List α) (i : Int) : Option α := (ixN xs.length i).bind fun j => xs[j]?
theorem ixN_seq {n : Nat} {i : Int} {j : Nat} (h : ixN n i = some j) : seqIndex? i n = some j ∧ j < n ∧ -(n : Int) ≤ i ∧ i < n := by
  unfold ixN at h
  by_cases h0 : 0 ≤ i
  · rw [if_pos h0] at h
    by_cases h1 : i < n
    · rw [if_pos h1] at h
      have e : i.toNat = j := Option.some.inj h
      exact ⟨by rw [seqIndex_of h0 h1, e], by omega, by omega, h1⟩
    · rw [if_neg h1] at h; cases h
  · rw [if_neg h0] at h
    by_cases h1 : -(n : Int) ≤ i
    · rw [if_pos h1] at h
      have e : (i + n).toNat = j := Option.some.inj h
      exact ⟨by rw [seqIndex_neg (by omega) h1, e], by omega, h1, by omega⟩
    · rw [if_neg h1] at h; cases h
theorem atI_get {α : Type} {xs : List α} {i : Int} {v : α} (h : atI xs i = some v) : ∃ j, seqIndex? i xs.length = some j ∧ xs[j]? = some v ∧ j < xs.length ∧ -(xs.length : Int) ≤ i ∧ i < xs.length := by
  unfold atI at h
  cases e : ixN xs.length i with
  | none => rw [e] at h; cases h
  | some j =>
    rw [e] at h
    obtain ⟨h1, h2, h3, h4⟩ := ixN_seq e
    exact ⟨j, h1, h, h2, h3, h4⟩
theorem atI_nat {α : Type} {xs : List α} {j : Nat} {v : α} (h : xs[j]? = some v) : atI xs (j : Int) = some v := by
  have hj : j < xs.length := (List.getElem?_eq_some_iff.mp h).1
  have e : ixN xs.length (j : Int) = some j := by
    unfold ixN
    rw [if_pos (by omega), if_pos (by omega)]; simp
  unfold atI; rw [e]; exact h
def PlainIx (b : Expr) : Prop := ∀ o i, subscripted b false o i = operate [o, i] (getItem o i)

def IxR (X : Cx) (r : R2) : Prop :=
  ∀ (value slice : Expr) (pins : List (Addr × Obj)) (s : Shared) (σ : St) (H : Hp) (x y : V) (v u : Value) (Q : VK), Inv X pins σ H s → RelV x v → RelV y u → r x y H Q →
    subscripted slice false v u = operate [v, u] (getItem v u) → wpAny (model X.prog X.w) X.A (subscriptTail value slice v u) (EP X pins σ Q) X.xe s

def MtR (X : Cx) (id : String) (r : V → List V → Hp → VK → Prop) : Prop :=
  ∀ (pins : List (Addr × Obj)) (s : Shared) (σ : St) (H : Hp) (x : V) (xs : List V) (v : Value) (us : List Value) (Q : VK), Inv X pins σ H s → RelV x v → Vals xs us → r x xs H Q →
    wpAny (model X.prog X.w) X.A (call (.builtin id) (v :: us)) (EP X pins σ Q) X.xe s
section
variable {X : Cx} {a b : Expr} {ta tb : TE} {pos : Pos}
theorem pe_ix {r : R2} (hr : IxR X r) (ha : PE X a ta) (hb : PE X b tb) (hs : PlainIx b) : PE X (.Subscript a b pos) (tOp r ta tb) := by
  intro pins s σ H Q I h
  exact Subscript_ (binT ha hb I h fun v u s2 x y H2 I2 rx ry q => hr a b pins s2 σ H2 x y v u Q I2 rx ry q (hs _ _))

def rIxL (K : PySem.W.Frag) : R2 := fun x y H Q => ∃ p xs i v, x = .ref p ∧ y = .int i ∧ SqL K H p xs ∧ atI xs i = some v ∧ Q v H
def rIxT (K : PySem.W.Frag) : R2 := fun x y H Q => ∃ p xs i v, x = .ref p ∧ y = .int i ∧ SqT K H p xs ∧ atI xs i = some v ∧ Q v H
theorem ix_list : IxR X (rIxL X.K) := by
  intro value slice pins s σ H x y v u Q I rx ry h hs
  obtain ⟨p, xs, i, z, rfl, rfl, hq, he, q⟩ := h
  cases rx
  obtain ⟨t, rfl⟩ := ry
  obtain ⟨its, r, pl, hz⟩ := I.list hq
  obtain ⟨j, h1, h2, h3, h4, h5⟩ := atI_get he
  obtain ⟨w, ew, rw'⟩ := r.get h2
  have hl := r.length
  have hn := line63
  have fin : EP X pins σ Q w s := ⟨z, H, I, rw', q⟩
  by_cases h0 : 0 ≤ i
  · have hj : i.toNat = j := by
      rw [seqIndex_of h0 h5] at h1
      exact Option.some.inj h1
    exact item_listR pl.isList h0 (by omega) (by rw [hj]; simpa using ew) fin hs
  · have hj : (i + (its.toArray.size : Int)).toNat = j := by
      rw [seqIndex_neg (by omega) h4] at h1
      rw [List.size_toArray, ← hl]
      exact Option.some.inj h1
    exact subscriptTail_builtinR (x := w) pl.isList.typeIs slot_list_getitem.lookup
      (wpAny_getItem_list_neg (Q := fun r s' => r = w ∧ EP X pins σ Q r s') pl.isList (by omega) (by rw [List.size_toArray] <;> omega) (by omega) (by rw [hj]; simpa using ew) ⟨rfl, fin⟩) hs
theorem ix_tup : IxR X (rIxT X.K) := by
  intro value slice pins s σ H x y v u Q I rx ry h hs
  obtain ⟨p, xs, i, z, rfl, rfl, hq, he, q⟩ := h
  cases rx
  obtain ⟨t, rfl⟩ := ry
  obtain ⟨its, r, pl, hz⟩ := I.tuple hq
  obtain ⟨j, h1, h2, h3, h4, h5⟩ := atI_get he
  obtain ⟨w, ew, rw'⟩ := r.get h2
  have hl := r.length
  have hn := line63
  have fin : EP X pins σ Q w s := ⟨z, H, I, rw', q⟩
  exact subscriptTail_builtinR (x := w) pl.typeIs slot_tuple_getitem.lookup
    (getItem_tuple (j := j) (Q := fun r s' => r = w ∧ EP X pins σ Q r s') pl (by omega) (by omega) (by rw [List.size_toArray, ← hl]; exact h1) (by simpa using ew) ⟨rfl, fin⟩) hs
def flatV : V → Bool
  | .non => true
  | .bl _ => true
  | .int _ => true
  | .str _ => true
  | _ => false

def eqV : V → V → Bool
  | .non, .non => true
  | .bl a, .bl b => a == b
  | .bl a, .int b => (if a then 1 else 0) == b
  | .int a, .bl b => a == (if b then 1 else 0)
  | .int a, .int b => a == b
  | .str a, .str b => a == b
  | _, _ => false
theorem eqAt_V {A : Around} {s : Shared} {y x : V} {u v : Value} (ry : RelV y u) (rx : RelV x v) (fy : flatV y = true) (fx : flatV x = true) : SeqAt.EqAt A s u v (eqV y x) := by
  cases y with
  | non =>
    cases ry
    cases x with
    | non => cases rx; exact SeqAt.EqAt.same _
    | bl b => cases rx; exact SeqAt.EqAt.none_bool b
    | int b => obtain ⟨t, rfl⟩ := rx; exact SeqAt.EqAt.none_int b t
    | str b => obtain ⟨t, rfl⟩ := rx; exact SeqAt.EqAt.none_str b t
    | _ => exact absurd (show false = true from fx) Bool.false_ne_true
  | bl a =>
    cases ry
    cases x with
    | non => cases rx; exact SeqAt.EqAt.bool_none a
    | bl b => cases rx; exact SeqAt.EqAt.bool_bool a b
    | int b => obtain ⟨t, rfl⟩ := rx; exact SeqAt.EqAt.bool_int a b t
    | str b => obtain ⟨t, rfl⟩ := rx; exact SeqAt.EqAt.bool_str a b t
    | _ => exact absurd (show false = true from fx) Bool.false_ne_true
  | int a =>
    obtain ⟨t', rfl⟩ := ry
    cases x with
    | non => cases rx; exact SeqAt.EqAt.int_none a t'
    | bl b => cases rx; exact SeqAt.EqAt.int_bool a t' b
    | int b => obtain ⟨t, rfl⟩ := rx; exact SeqAt.EqAt.int_int a t' b t
    | str b => obtain ⟨t, rfl⟩ := rx; exact SeqAt.EqAt.int_str a t' b t
    | _ => exact absurd (show false = true from fx) Bool.false_ne_true
  | str a =>
    obtain ⟨t', rfl⟩ := ry
    cases x with
    | non => cases rx; exact SeqAt.EqAt.str_none a t'
    | bl b => cases rx; exact SeqAt.EqAt.str_bool a t' b
    | int b => obtain ⟨t, rfl⟩ := rx; exact SeqAt.EqAt.str_int a t' b t
    | str b => obtain ⟨t, rfl⟩ := rx; exact SeqAt.EqAt.str_str a t' b t
    | _ => exact absurd (show false = true from fx) Bool.false_ne_true
  | _ => exact absurd (show false = true from fy) Bool.false_ne_true

def eqU (x : V) (u : Value) : Bool := match u with
  | .none => eqV .non x
  | .bool b => eqV (.bl b) x
  | .int i _ => eqV (.int i) x
  | .str z _ => eqV (.str z) x
  | _ => false
theorem eqU_of {x y : V} {u : Value} (r : RelV y u) (f : flatV y = true) : eqU x u = eqV y x := by
  cases y with
  | non => cases r; rfl
  | bl b => cases r; rfl
  | int i => obtain ⟨t, rfl⟩ := r; rfl
  | str z => obtain ⟨t, rfl⟩ := r; rfl
  | _ => exact absurd (show false = true from f) Bool.false_ne_true
theorem any_eqU {x : V} : ∀ {xs : List V} {us : List Value}, Vals xs us → xs.all flatV = true → us.any (eqU x) = xs.any fun y => eqV y x
  | _, _, .nil, _ => rfl
  | y :: xs, u :: us, .cons r t, f => by
    rw [List.all_cons, Bool.and_eq_true] at f
    rw [List.any_cons, List.any_cons, eqU_of r f.1, any_eqU t f.2]
theorem mem_eqAt {A : Around} {s : Shared} {x : V} {v : Value} (rx : RelV x v) (fx : flatV x = true) : ∀ {xs : List V} {us : List Value}, Vals xs us → xs.all flatV = true → ∀ u ∈ us, SeqAt.EqAt A s u v (eqU x u)
  | _, _, .nil, _ => fun u hu => by cases hu
  | y :: xs, u :: us, .cons r t, f => fun u' hu => by
    rw [List.all_cons, Bool.and_eq_true] at f
    rcases List.mem_cons.mp hu with rfl | hu
    · rw [eqU_of r f.1]; exact eqAt_V r rx f.1 fx
    · exact mem_eqAt rx fx t f.2 u' hu
def inV (x : V) (xs : List V) : Bool := xs.any fun y => eqV y x

def rIn (K : PySem.W.Frag) (neg : Bool) : R2 := fun x y H Q => ∃ p xs, y = .ref p ∧ (SqL K H p xs ∨ SqT K H p xs) ∧ flatV x = true ∧ xs.all flatV = true ∧ Q (.bl (if neg then !inV x xs else inV x xs)) H
theorem op_notIn_seq : OpR X (compareOp .NotIn) (rIn X.K true) := by
  intro pins s σ H x y v u Q I rx ry h
  obtain ⟨p, xs, rfl, hq, fx, fs, q⟩ := h
  cases ry
  rcases hq with hq | hq
  · obtain ⟨its, r, pl, hz⟩ := I.list hq
    refine SeqAt.notIn_listAt (eqU x) pl.isList (fun w hw => mem_eqAt rx fx r fs w (by simpa using hw)) ⟨.bl _, H, I, rfl, ?_⟩
    rw [show its.toArray.any (eqU x) = its.any (eqU x) by simp, any_eqU r fs]
    exact q
  · obtain ⟨its, r, pl, hz⟩ := I.tuple hq
    refine SeqAt.notIn_tupleAt (eqU x) pl (fun w hw => mem_eqAt rx fx r fs w (by simpa using hw)) ⟨.bl _, H, I, rfl, ?_⟩
    rw [show its.toArray.any (eqU x) = its.any (eqU x) by simp, any_eqU r fs]
    exact q
theorem call_len_seq : CallR X (.builtin "len") (fun xs H Q => ∃ p ys, xs = [.ref p] ∧ (SqL X.K H p ys ∨ SqT X.K H p ys) ∧ Q (.int ys.length) H) := by
  intro pins s σ H xs us Q I r h
  obtain ⟨p, ys, rfl, hq, q⟩ := h
  obtain ⟨u, rfl, rx⟩ := vals1 r
  cases rx
  have hn := line63
  rcases hq with hq | hq
  · obtain ⟨its, r', pl, hz⟩ := I.list hq
    have hlen := r'.length
    exact Calls.call_len_list pl.isList (by simp only [List.size_toArray] <;> omega) ⟨.int ys.length, H, I.tok _, ⟨s.toks + 1, by rw [List.size_toArray, hlen]⟩, q⟩
  · obtain ⟨its, r', pl, hz⟩ := I.tuple hq
    have hlen := r'.length
    exact len_tuple pl (by simp only [List.size_toArray] <;> omega) ⟨.int ys.length, H, I.tok _, ⟨s.toks + 1, by rw [List.size_toArray, hlen]⟩, q⟩
theorem call_tuple_of : CallR X (.type "tuple") (fun xs H Q => ∃ p ys, xs = [.ref p] ∧ ((SqL X.K H p ys ∧ ∀ l, H l = none → Q (.ref l) (upd H l (.tup ys))) ∨ (SqT X.K H p ys ∧ Q (.ref p) H))) := by
  intro pins s σ H xs us Q I r h
  obtain ⟨p, ys, rfl, h⟩ := h
  obtain ⟨u, rfl, rx⟩ := vals1 r
  cases rx
  rcases h with ⟨hq, q⟩ | ⟨hq, q⟩
  · obtain ⟨its, r', pl, hz⟩ := I.list hq
    have hlen := r'.length
    refine call_tuple_list pl.isList (fun h' kp => ?_) (by simp only [List.size_toArray] <;> omega)
    have I1 : Inv X pins σ H { s with heap := h' } := I.kept (t' := s.toks) kp
    have I2 : Inv X pins σ (upd H h'.objs.size (.tup ys)) { s with heap := h'.push { cls := .type "tuple", data := .seq its.toArray } } :=
      I1.laid (t' := s.toks) (fun b o e => Heap.get?_push_of_some _ e) (Nat.le_refl _) (show ObjOk X.prog X.w _ _ _ (.tup ys) from ⟨hz, its, r', IsTup.new _ _⟩)
    exact ⟨.ref h'.objs.size, _, I2, rfl, q _ (I1.hok.fresh (Nat.le_refl _))⟩
  · obtain ⟨its, r', pl, hz⟩ := I.tuple hq
    exact call_tuple_same pl ⟨.ref p, H, I, rfl, q⟩



def tyV (K : PySem.W.Frag) (T : String) (x : V) (H : Hp) : Prop := match x with
  | .str _ => T = "str"
  | .int _ => T = "int"
  | .ref p => (T = "list" ∧ ∃ xs, SqL K H p xs) ∨ (T = "tuple" ∧ ∃ o, K.lookup p = some o ∧ o.cls = .type "tuple" ∧ o.dict = none) ∨
      (T = "dict" ∧ ((∃ kvs, H p = some (.dK kvs)) ∨ ∃ kvs, H p = some (.dT kvs))) ∨ (T = "set" ∧ ∃ S n, H p = some (.set S n))
  | _ => False
theorem tyV_is {pins : List (Addr × Obj)} {σ : St} {H : Hp} {s : Shared} {T : String} {x : V} {v : Value} (I : Inv X pins σ H s) (r : RelV x v) (ty : tyV X.K T x H) :
    s.TypeIs v T ∧ ∀ a, v = .ref a → ∃ ob, s.heap.get? a = some ob ∧ ob.dict = none := by
  cases x with
  | str z =>
    obtain ⟨t, rfl⟩ := r
    cases (show T = "str" from ty)
    exact ⟨typeIs_str s z t, fun _ e => nomatch e⟩
  | int i =>
    obtain ⟨t, rfl⟩ := r
    cases (show T = "int" from ty)
    exact ⟨typeIs_int s i t, fun _ e => nomatch e⟩
  | ref p =>
    cases r
    rcases ty with ⟨rfl, xs, hq⟩ | ⟨rfl, o, hk, hc, hd⟩ | ⟨rfl, hk⟩ | ⟨rfl, S, n, hk⟩
    · obtain ⟨its, _, pl, _⟩ := I.list hq
      refine ⟨pl.isList.typeIs, fun a e => ?_⟩
      cases e
      obtain ⟨o, n, e, c, hd, _⟩ := pl
      exact ⟨o, e, hd⟩
    · refine ⟨⟨o, I.kIn p o hk, hc⟩, fun a e => ?_⟩
      cases e
      exact ⟨o, I.kIn _ o hk, hd⟩
    · have z : ∃ o, s.heap.get? p = some o ∧ o.ExactDict := by
        rcases hk with ⟨kvs, hk⟩ | ⟨kvs, hk⟩
        · obtain ⟨_, _, _, _, o, _, _, e, ex, _⟩ := I.hok p _ hk
          exact ⟨o, e, ex⟩
        · obtain ⟨_, _, _, _, o, _, _, e, ex, _⟩ := I.hok p _ hk
          exact ⟨o, e, ex⟩
      obtain ⟨o, e, ex⟩ := z
      refine ⟨⟨o, e, ex.1⟩, fun a e2 => ?_⟩
      cases e2
      exact ⟨o, e, ex.2.1⟩
    · obtain ⟨o, _, _, _, e, ex, _⟩ := I.hok p _ hk
      refine ⟨⟨o, e, ex.1⟩, fun a e2 => ?_⟩
      cases e2
      exact ⟨o, e, ex.2.1⟩
  | _ => exact False.elim ty
def tBM (K : PySem.W.Frag) (T : String) (r : V → List V → Hp → VK → Prop) (to : TE) (t : TA) : TE := fun σ H Q => to σ H fun x H1 => tyV K T x H1 ∧ t σ H1 fun xs H2 => r x xs H2 Q
variable {o e : Expr} {es : List Expr} {to : TE} {t : TA} {name : Str} {apos cpos : Pos} {T id : String} {r : V → List V → Hp → VK → Prop}
theorem pe_bm (pa : PlainAttrs T) (slot : Slot T name id) (hty : typeOf (.builtin id) = pure (.type "method_descriptor")) (hm : MtR X id r) (ho : PE X o to) (ha : PA X (e :: es) t)
    (hbase : attributeBase o name X.env (eval o X.env) = eval o X.env := by rfl)
    (hfew : ((backTo cpos (starEach (e :: es) X.env)).all (fun x => !x.1) && (backToKw cpos (keywordEach [] X.env)).all (fun x => x.1.isSome)
      && decide ((e :: es).length + ([] : List Keyword).length + (if ([] : List Keyword).isEmpty then 0 else 1) < 30)) = true := by rfl)
    (hline : (apos.endLine == cpos.line) = true := by rfl) (hs : starEach (e :: es) X.env = (false, eval e X.env) :: starEach es X.env := by rfl) (hplain : (backTo cpos (starEach es X.env)).any (·.1) = false := by rfl) :
    PE X (.Call (.Attribute o name apos) (e :: es) [] cpos) (tBM X.K T r to t) := by
  intro pins s σ H Q I h
  refine wpAny_Call_method_late hbase hfew hline rfl (thn (ho pins s σ H _ I h) fun v s1 ⟨x, H1, I1, r1, ty, q1⟩ => ?_)
  obtain ⟨h1, h2⟩ := tyV_is I1 r1 ty
  refine ⟨T, id, pa, slot, hty, h1, h2, ?_⟩
  have hA := ha cpos pins s1 σ H1 _ I1 q1
  rw [hs] at hA ⊢
  refine Calls.callWith_builtin (by show (false || (backTo cpos (starEach es X.env)).any (·.1)) = false; rw [hplain] <;> rfl) (Calls.evalArgs_plain ?_)
  exact thn hA fun us s2 ⟨vs, H2, I2, r2, q2⟩ => hm pins s2 σ H2 x vs v us Q I2 r1 r2 q2

end
end L2

namespace L2
open PySem PySem.Spec PyProof.Rows

def MtM (X : Cx) (id : String) (r : V → List V → Hp → VK → Prop) : Prop :=
  ∀ (pins : List (Addr × Obj)) (s : Shared) (σ : St) (H : Hp) (x : V) (xs : List V) (v : Value) (us : List Value) (Q : VK), Inv X pins σ H s → RelV x v → Vals xs us → r x xs H Q →
    wpAny (model X.prog X.w) X.A (call (.builtin id) (v :: us)) (EP X pins σ Q) X.xe s


theorem Vals.one : ∀ {x : V} {us : List Value}, Vals [x] us → ∃ u, us = [u] ∧ RelV x u
  | _, _, .cons r .nil => ⟨_, rfl, r⟩
theorem Vals.two : ∀ {x y : V} {us : List Value}, Vals [x, y] us → ∃ u v, us = [u, v] ∧ RelV x u ∧ RelV y v
  | _, _, _, .cons r (.cons q .nil) => ⟨_, _, rfl, r, q⟩
section
variable {X : Cx} {pins : List (Addr × Obj)} {σ : St} {H : Hp} {s : Shared} {l b : Addr} {xs ys zs : List V}


theorem Inv.lset {its its' : List Value} {n : Nat} {f : Array Value → Array Value} {t' : Nat} (I : Inv X pins σ H s) (hH : H l = some (.lst xs))
    (e : s.heap.get? l = some { cls := .type "list", data := .seq its.toArray n }) (hf : f its.toArray = its'.toArray) (hv : Vals ys its') (hz : ys.length ≤ sizeLine) :
    Inv X pins σ (upd H l (.lst ys)) { s with heap := s.heap.update l (Obj.mapSeq f), toks := t' } := by
  have q := PySem.IsL.update e f
  rw [hf] at q
  refine I.write (x := l) (e := l) (by rw [hH]; exact trivial) (.inl rfl) (fun b' u hb hu => (Heap.get?_update_other s.heap (Obj.mapSeq f) (Ne.symm hb)).trans hu) ⟨_, q⟩ ?_
  exact ⟨hz, its', _, hv, q⟩
theorem Inv.lnew {its : List Value} {t' : Nat} (I : Inv X pins σ H s) (hv : Vals ys its) (hz : ys.length ≤ sizeLine) :
    Inv X pins σ (upd H s.heap.objs.size (.lst ys)) { s with heap := s.heap.push { cls := .type "list", data := .seq its.toArray }, toks := t' } :=
  I.laid (fun _ _ q => Heap.get?_push_of_some _ q) (Nat.le_refl _) ⟨hz, its, 0, hv, Heap.get?_push_size _ rfl⟩
theorem Inv.lstM (I : Inv X pins σ H s) (hH : H l = some (.lst xs)) : xs.length ≤ sizeLine ∧ ∃ (its : List Value) (n : Nat), Vals xs its ∧ xs.length = its.length ∧ s.heap.get? l = some { cls := .type "list", data := .seq its.toArray n } := by
  obtain ⟨z, its, n, r, e⟩ := I.hok l _ hH
  exact ⟨z, its, n, r, r.length, e⟩

end

section
variable {X : Cx}


def rAppend : V → List V → Hp → VK → Prop := fun x vs H Q => ∃ l xs y, x = .ref l ∧ vs = [y] ∧ H l = some (.lst xs) ∧ xs.length < sizeLine ∧ Q .non (upd H l (.lst (xs ++ [y])))
theorem mt_append : MtM X "list.append" rAppend := by
  intro pins s σ H x vs v us Q I rx rv h
  obtain ⟨l, xs, y, rfl, rfl, hH, hz, q⟩ := h
  cases rx
  obtain ⟨u, rfl, ru⟩ := rv.one
  obtain ⟨z, its, n, r, hl, e⟩ := I.lstM hH
  refine call_meets F.slot_list_append ⟨_, e, rfl⟩ F.entry_list_append (F.args_list_append_2 _ _) (PySem.list_append l its.toArray n u (by rw [List.size_toArray]; omega)) ⟨e, ?_⟩
  refine ⟨.non, _, I.lset (its' := its ++ [u]) hH e (by simp) (r.append (.cons ru .nil)) ?_, rfl, q⟩
  rw [List.length_append, List.length_singleton]
  omega

end


section
variable {prog : Program} {w : World} {A : Around} {E : Value → Shared → Prop} {s : Shared}
end

section
variable {X : Cx}

end
end L2

namespace Att
open PySem PySem.W PySem.Calls PyProof.Rows


theorem ints_of_wellAll {P : Params} {h : Heap} : ∀ (ns : List Int) (vs : List Value), WellAll P h vs (ns.map WData.int) → IntsAre vs ns := by
  intro ns
  induction ns with
  | nil =>
    intro vs w
    rw [List.map_nil] at w
    cases w
    exact .nil
  | cons n ns ih =>
    intro vs w
    rw [List.map_cons] at w
    cases w with
    | cons a b =>
      cases a
      exact .cons _ _ (ih _ b)

theorem script_of {l : OpenLaw} {n : Nat} (hn : l.most = some n) {P : Params} {h : Heap} {args : List WData} {vals : List Value}
    (hpre : l.row.toRowW.claim.pre args = true) (hwl : WellAll P h vals args) :
    ∃ a vs ns, vals = [Value.ref a] ∧ args = [WData.list (ns.map WData.int)] ∧ h.get? a = some { cls := .type "list", data := .seq vs.toArray } ∧ IntsAre vs ns ∧ ns.length ≤ n := by
  have hsh : WShape.hasAll [] args [.list .int] = true := (pre_splitW hpre).1
  have hc : l.pre.holds [] { args := args } = true := (pre_splitW hpre).2
  obtain ⟨d, r, rfl, h1, h2⟩ := hasAllW_cons hsh
  obtain rfl := hasAllW_nil h2
  obtain ⟨xs, rfl, h3⟩ := hasW_list h1
  obtain ⟨ns, rfl⟩ := items_int h3
  have hlen : ns.length ≤ n := by
    unfold OpenLaw.pre at hc
    have h4 : (WTm.not (.lt (.lit (.int (n : Int))) (.len (.arg 0)))).holds [] { args := [.list (ns.map .int)] } = true := by
      have h4 := (holds_andW hc).1
      rw [hn] at h4
      exact h4
    have h5 := condW_of h4 (w_not (w_lt w_lit (w_len_list (w_arg rfl))))
    rw [List.length_map] at h5
    refine Nat.le_of_not_lt fun q => ?_
    have q' : (n : Int) < ((ns.length : Nat) : Int) := by omega
    first
      | (rw [decide_eq_true q'] at h5; exact absurd h5 (by decide))
      | (simp at h5; omega)
  cases hwl with
  | cons w1 w2 =>
    cases w2
    cases w1 with
    | list ho hall => exact ⟨_, _, ns, rfl, rfl, ho, ints_of_wellAll ns _ hall, hlen⟩

theorem post_true (l : OpenLaw) (args : List WData) : l.row.toRowW.claim.post args (.bool true) args = true :=
  postW_of (r := l.row.toRowW) (X := (true == true))
    (show WShape.has [] (.bool true) .bool = true by first | rfl | decide | simp [WShape.has, WShape.arms, WShape.armsAll])
    (show (WTm.eq .res (.lit (.bool true))).value [] { args := args, res := some (.bool true), after := args } = some (.bool (true == true)) from w_eq_bool (w_res rfl) w_lit) rfl


theorem attach_call {l : OpenLaw} {n : Nat} {q : Program} {loose : List Str} {XP : (Str → Option Value) → Heap → Prop} {YP : World → Heap → Prop} {d : DefRec}
    (hn : l.most = some n) (hdf : d.params.defaults = [])
    (call : ∀ (w : World) (s₀ s₁ : Shared) (mg mb : Str → Option Value) (fa : Addr) (o : Obj) (pm cd doc : Value) (a : Addr) (vs : List Value) (ns : List Int),
      Ground q loose [] XP w s₀ mg mb s₁.heap → YP w s₁.heap →
      s₁.heap.get? fa = some o → o.data = .func (docDef d.name d.params d.body d.scope pm cd doc) → s₁.heap.CodeRec cd d.name → mg d.name = some (.ref fa) →
      s₁.heap.get? a = some { cls := .type "list", data := .seq vs.toArray } → IntsAre vs ns → ns.length ≤ n → s₁.gens = #[] →
      codeAny (model l.prog w) callerA (.call (.ref fa) ⟨[.ref a], []⟩) (fun r s' => r = .ok (.ret (.bool true)) ∧ OldK s₁.heap s'.heap ∧ s'.os = s₁.os ∧ AllBare s'.gens) s₁) :
    WalkO q loose XP YP l.row.toRowW d [] (fun f vs => PySem.call f vs) := by
  intro w s₀ s₁ mg mb G Y fa o pm cd doc dV kV ho hd hcd hD hmg hg args vals as hpre hlay hrd hwl hlo
  obtain rfl : dV = .none := Dflts.none hD hdf
  obtain rfl : kV = .none := Dflts.noKw hD
  obtain ⟨a, vs, ns, rfl, rfl, hobj, hints, hlen⟩ := script_of hn hpre hwl
  refine enter_call (codeAny_mono (call w s₀ s₁ mg mb fa o pm cd doc a vs ns G Y ho (fd_plain hd) hcd hmg hobj hints hlen hg) fun r s' hq => ?_)
  obtain ⟨rfl, h2, h3, h4⟩ := hq
  exact ⟨.inl ⟨.bool true, .bool true, [], rfl, fun _ => rfl, .bool true, post_true l _, fun _ => ⟨List.Pairwise.nil, fun _ hm => (nomatch hm)⟩⟩, h2, h3, h4⟩


section
variable {prog : Program} {w : World} {A : Around} {E : Value → Shared → Prop} {s : Shared} {K : Frag}


end
end Att

namespace L2
open PySem PySem.Spec PyProof.Rows

theorem vals_ints : ∀ {vs : List Value} {ns : List Int}, IntsAre vs ns → Vals (ns.map V.int) vs
  | _, _, .nil => .nil
  | _, _, .cons n t h => .cons ⟨t, rfl⟩ (vals_ints h)


def Only (H : Hp) : Prop := ∀ b, H b = none ∨ ∃ o xs, H b = some (.frz o (.lst xs))


theorem law_call {P : Program} {w : World} {K : PySem.W.Frag} {mg mb : Str → Option Value} {CX : CXT} {k : Nat} {fa a : Addr} {fd : FuncData} {x : Str} {sp : Sp} {s₁ : Shared} {vs : List Value} {ns : List Int}
    (KX : K.In s₁.heap) (hns : s₁.heap.Ns mainGlobals mg) (hb : s₁.heap.Ns builtinsNs mb) (hbb : ∀ x : Str, x ≠ "__name__" → mb x = bootBuiltins x) (hlim : s₁.heap.NoLimit) (hg : s₁.gens = #[])
    (ha : s₁.heap.get? a = some { cls := .type "list", data := .seq vs.toArray }) (hi : IntsAre vs ns) (hl : ns.length ≤ sizeLine) (hr : Room k callerA)
    (F : ∀ base : Heap, K.In base → base.Ns mainGlobals mg → FnOk P w K mg base CX k fa fd [x] sp) (hbind : ∀ (s : Shared) (u : Value), BindsTo s fd ⟨[u], []⟩ [(x, u)])
    (hsp : ∀ H : Hp, Only H → SqL K H a (ns.map V.int) → sp [.ref a] H (fun v _ => v = .bl true) fun _ _ _ => False)
    (hCX : ∀ H e s', CX [] H s₁ (fun _ _ _ => False) e s' → False) :
    codeAny (model P w) callerA (.call (.ref fa) ⟨[.ref a], []⟩) (fun r s' => r = .ok (.ret (.bool true)) ∧ OldK s₁.heap s'.heap ∧ s'.os = s₁.os ∧ AllBare s'.gens) s₁ := by
  have rv := vals_ints hi
  have lenV := hi.length
  -- from an abstract heap in which nothing but the script may be tracked
  have core : ∀ H : Hp, Only H → SqL K H a (ns.map V.int) → HOk P w H s₁.heap → (∀ b, H b ≠ none → b = a) → (H a ≠ none → K.lookup a = none) →
      codeAny (model P w) callerA (.call (.ref fa) ⟨[.ref a], []⟩) (fun r s' => r = .ok (.ret (.bool true)) ∧ OldK s₁.heap s'.heap ∧ s'.os = s₁.os ∧ AllBare s'.gens) s₁ := by
    intro H hO hS hok hA hK
    have base_of : ∀ {b : Addr} {o : Obj}, s₁.heap.get? b = some o → H b = none → (hidT s₁.heap H).get? b = some o := fun e n => hidT_get e n
    have noA : ∀ {b : Addr} {o : Obj} {es : Array DictEntry} {ep : Nat}, s₁.heap.get? b = some o → o.data = .dict es ep → H b = none := fun {b o es ep} e d => by
      cases q : H b with
      | none => rfl
      | some u =>
        have e' : b = a := hA b (by rw [q]; simp)
        subst e'
        rw [ha] at e; cases e
        have d' : Data.seq vs.toArray _ = Data.dict es ep := d
        cases d'
    have nsK : ∀ {b : Addr} {m : Str → Option Value}, s₁.heap.Ns b m → (hidT s₁.heap H).Ns b m := fun {b m} ⟨o, es, ep, e, d, r⟩ => ⟨o, es, ep, base_of e (noA e d), d, r⟩
    have hKb : K.In (hidT s₁.heap H) := fun b o e => base_of (KX b o e) (by
      cases q : H b with
      | none => rfl
      | some u =>
        have e' : b = a := hA b (by rw [q]; simp)
        subst e'
        rw [hK (by rw [q]; simp)] at e; cases e)
    have hM : Mod K mg (hidT s₁.heap H) := ⟨hKb, nsK hns, ⟨mb, nsK hb, hbb⟩, let ⟨mc, h1, h2⟩ := hlim; ⟨mc, nsK h1, h2⟩⟩
    have e0 : Env0 P w K mg (hidT s₁.heap H) callerA [] s₁ H := ⟨rfl, hM, fun b o e => of_hidT e, Nat.le_of_eq (hidT_size _ _), trivial, fun b hb => absurd (show b ∈ ([] : List Addr) from hb) (by simp), hok, .of_eq hg⟩
    refine codeAny_mono ((F _ hKb (nsK hns)).run callerA [] s₁ H ⟨[.ref a], []⟩ [.ref a] [.ref a] _ _ hr e0 (hbind s₁ (.ref a)) (.cons rfl .nil) (hsp H hO hS)) fun r s' h => ?_
    cases r with
    | error e => exact (hCX H e s' h).elim
    | ok fl =>
      cases fl with
      | next => exact False.elim h
      | brk => exact False.elim h
      | cont => exact False.elim h
      | ret u =>
        obtain ⟨v, H', os, bare, un, hok', r', q⟩ := h
        have q' : v = .bl true := q
        subst q'
        obtain rfl : u = Value.bool true := r'
        refine ⟨rfl, OldK.of_keep fun b o e => ?_, os, bare⟩
        cases q : H b with
        | none => exact un.keep b o e q (by intro z; exact absurd (show b ∈ ([] : List Addr) from z) (by simp)) (by simp)
        | some u =>
          rcases hO b with z | ⟨ob, xs, z⟩
          · rw [q] at z; cases z
          · have z2 := un.frzs b ob _ z
            obtain ⟨e1, _⟩ := hok b _ z
            obtain ⟨e2, _⟩ := hok' b _ z2
            rw [e] at e1; cases e1
            exact e2
  cases hk : K.lookup a with
  | some o =>
    -- the script is one of the module's own objects
    have e := KX a o hk
    rw [ha] at e
    cases e
    refine core (fun _ => none) (fun _ => .inl rfl) (.inr ⟨_, vs.toArray, _, hk, rfl, rfl, rfl, by rw [List.size_toArray, lenV]; exact hl, by simpa using rv⟩) (fun b u z => by have z' : (none : Option HO) = some u := z; cases z') (fun b z => absurd rfl z) fun z => absurd rfl z
  | none =>
    refine core (fun b => if b = a then some (.frz { cls := .type "list", data := .seq vs.toArray } (.lst (ns.map V.int))) else none) (fun b => ?_) (.inl (.inr ⟨{ cls := .type "list", data := .seq vs.toArray }, if_pos rfl⟩)) (fun b u z => ?_) (fun b z => ?_) fun _ => hk
    · by_cases hb : b = a
      · exact .inr ⟨_, _, if_pos hb⟩
      · exact .inl (if_neg hb)
    · by_cases hb : b = a
      · have z' := (if_pos hb).symm.trans z
        cases z'
        subst hb
        exact ⟨ha, by rw [List.length_map]; exact hl, vs, _, rv, ha⟩
      · have z' := (if_neg hb).symm.trans z
        cases z'
    · by_cases hb : b = a
      · exact hb
      · exact absurd (if_neg hb) z
end L2

namespace L2
open PySem PySem.Spec PyProof.Rows

theorem walk_of {l : PySem.W.OpenLaw} {n k : Nat} {q : Program} {loose : List Str} {XP : (Str → Option Value) → Heap → Prop} {YP : World → Heap → Prop} {d : DefRec} {K : Params → PySem.W.Frag} {CX : World → CXT} {sp : World → Sp} {x : Str}
    (hn : l.most = some n) (hn2 : n ≤ sizeLine) (hdf : d.params.defaults = []) (hr : Room k callerA)
    (hY : ∀ (w : World) (h : Heap), YP w h → (K w.params).In h)
    (F : ∀ (w : World) (mg : Str → Option Value) (fa : Addr) (h : Heap), (K w.params).In h → h.Ns mainGlobals mg → mg d.name = some (.ref fa) →
      ∃ fd : FuncData, (∀ (s : Shared) (u : Value), BindsTo s fd ⟨[u], []⟩ [(x, u)]) ∧
        ∀ base : Heap, (K w.params).In base → base.Ns mainGlobals mg → FnOk l.prog w (K w.params) mg base (CX w) k fa fd [x] (sp w))
    (hsp : ∀ (w : World) (H : Hp) (a : Addr) (ns : List Int), ns.length ≤ n → Only H → SqL (K w.params) H a (ns.map V.int) → sp w [.ref a] H (fun v _ => v = .bl true) fun _ _ _ => False)
    (hCX : ∀ (w : World) (H : Hp) (s : Shared) (e : Value) (s' : Shared), CX w [] H s (fun _ _ _ => False) e s' → False) :
    PySem.W.WalkO q loose XP YP l.row.toRowW d [] (fun f vs => PySem.call f vs) := by
  refine Att.attach_call hn hdf fun w s₀ s₁ mg mb fa o pm cd doc a vs ns G Y ho hd hcd hmg hobj hints hlen hg => ?_
  have KX := hY w _ Y
  obtain ⟨fd, hb, hF⟩ := F w mg fa _ KX G.T.g hmg
  exact law_call KX G.T.g G.T.b G.T.builtins G.T.nolimit hg hobj hints (Nat.le_trans hlen hn2) hr hF hb (fun H hO hS => hsp w H a ns hlen hO hS) fun H e s' => hCX w H s₁ e s'

end L2




namespace L2
open PySem PySem.Spec PyProof.Rows





abbrev CX0 : CXT := fun _ _ _ _ _ _ => False
abbrev E0 : XK := fun _ _ _ => False
theorem pass0 {X : Cx} : Passes CX0 X E0 := fun _ _ _ _ _ _ _ h => h.elim


structure Fun (K : PySem.W.Frag) (x qual : Str) (st : Stmt) (f : Addr) (fd : FuncData) : Prop where
  ex : ∃ (oc : Value) (od : Option Addr) (kV doc pm : Value) (an : Option Addr) (cdv ct : Value) (osl : Array (Option Value)),
    fd = PySem.W.fnOf x qual (defArgs st) (defBody st) (defScope st) .none kV doc pm an cdv ct ∧ K.lookup f = some ⟨oc, od, .func fd, osl⟩ ∧ PySem.W.codeIn K cdv qual = true
  kp : PySem.W.keepIn K (.ref f) = true
section
variable {P : Program} {w : World} {K : PySem.W.Frag} {mg : Str → Option Value} {base : Heap}

theorem Fun.ok {x qual : Str} {st : Stmt} {f : Addr} {fd : FuncData} {N ps : List Str} {k : Nat} {sp : Sp} (F : Fun K x qual st f fd) (S : FnScope N ps (defScope st)) (len : ∀ vs H Q E, sp vs H Q E → vs.length = ps.length)
    (hbody : ∀ (cdv : Value) (A : Around) (outer : List Env) (s : Shared) (H : Hp) (vs : List V) (Q : VK) (E : XK), Room k (A.deeper (envOfC qual (defScope st) s.heap.objs.size f cdv)) → sp vs H Q E →
      ∃ t, PSs (cxOf CX0 P w K mg base N qual (defScope st) f cdv A outer s H E).nox (defBody st) t ∧ t { nx := fun _ H' => Q .non H', rt := Q } (start N vs) H) : FnOk P w K mg base CX0 (k + 1) f fd ps sp := by
  obtain ⟨oc, od, kV, doc, pm, an, cdv, ct, osl, rfl, lk, hcd⟩ := F.ex
  refine fn_of lk hcd S len fun A outer s H vs Q E hr hsp => ?_
  obtain ⟨t, h, q⟩ := hbody cdv A outer s H vs Q E hr hsp
  exact ⟨t, h.nox, q⟩

theorem Fun.binds {x qual : Str} {st : Stmt} {f : Addr} {fd : FuncData} {ps : List Str} (F : Fun K x qual st f fd)
    (h : ∀ (kV doc pm : Value) (an : Option Addr) (cdv ct : Value) (us : List Value), us.length = ps.length → bindArgs (PySem.W.fnOf x qual (defArgs st) (defBody st) (defScope st) .none kV doc pm an cdv ct) ⟨us, []⟩ = pure (ps.zip us)) : Binds K fd ps [] := by
  obtain ⟨oc, od, kV, doc, pm, an, cdv, ct, osl, rfl, lk, hcd⟩ := F.ex
  exact .all (h kV doc pm an cdv ct)
theorem fun_mk {x qual : Str} {st : Stmt} {f : Addr} {oc : Value} {od an : Option Addr} {osl : Array (Option Value)} {kV doc pm cdv ct : Value} (l : K.lookup f = some ⟨oc, od, .func (PySem.W.fnOf x qual (defArgs st) (defBody st) (defScope st) .none kV doc pm an cdv ct), osl⟩)
    (c : PySem.W.codeIn K cdv qual = true) (k : PySem.W.keepIn K (.ref f) = true) : Fun K x qual st f (PySem.W.fnOf x qual (defArgs st) (defBody st) (defScope st) .none kV doc pm an cdv ct) := ⟨⟨oc, od, kV, doc, pm, an, cdv, ct, osl, rfl, l, c⟩, k⟩
end
theorem hu_of {A : Around} {k : Nat} (hr : Room k A) : A.units + 1 < cLine := Nat.lt_of_le_of_lt (Nat.add_le_add_left (by decide : 1 ≤ 64) _) hr.units
theorem small1000 {n : Nat} (h : n ≤ 1000) : n < sizeLine := Nat.lt_of_le_of_lt h (by decide)


section
variable {X : Cx}
theorem pv (i : Nat) {x : Str} {pos : Pos} (hN : X.N[i]? = some x := by rfl) (hv : Vis X.env.scope x := by first | exact Or.inl rfl | exact Or.inr (Or.inl rfl) | exact Or.inr (Or.inr rfl)) (hd : (x == ("__debug__" : Str)) = false := by decide)
    (hcd : (x == ("__classdict__" : Str)) = false := by decide) : PE X (.Name x pos) (tVar i) := pe_var hN hv hd hcd
end


theorem iteF {A B : Prop} (h : B) : if false = true then A else B := by
  rw [if_neg Bool.false_ne_true]
  exact h
theorem iteT {A B : Prop} (h : A) : if true = true then A else B := by
  rw [if_pos rfl]
  exact h
theorem ite2 {c A B : Prop} [Decidable c] (h1 : c → A) (h2 : ¬ c → B) : if c then A else B := by
  by_cases h : c
  · rw [if_pos h]
    exact h1 h
  · rw [if_neg h]
    exact h2 h
def Same (H H' : Hp) : Prop := ∀ b o, H b = some o → H' b = some o
theorem Same.refl (H : Hp) : Same H H := fun _ _ h => h
theorem Same.trans {H H1 H2 : Hp} (a : Same H H1) (b : Same H1 H2) : Same H H2 := fun c o h => b c o (a c o h)
theorem Same.free {H H' : Hp} (e : Same H H') {l : Addr} (h : H' l = Option.none) : H l = Option.none := by
  cases q : H l with
  | none => rfl
  | some o =>
    rw [e l o q] at h
    cases h
theorem Same.seq {K : PySem.W.Frag} {H H' : Hp} {a : Addr} {xs : List V} (e : Same H H') (h : SqL K H a xs) : SqL K H' a xs := by
  rcases h with (h | ⟨o, h⟩) | h
  · exact .inl (.inl (e _ _ h))
  · exact .inl (.inr ⟨o, e _ _ h⟩)
  · exact .inr h

end L2
set_option maxHeartbeats 4000000
namespace L2
open PySem PySem.Spec PyProof.Rows


section
variable {prog : Program} {w : World} {A : Around} {R : Result → Shared → Prop} {s : Shared}
theorem comp_loop {elt target iter : Expr} {ifs : List Expr} {scope : Scope} {pos : Pos} {it acc : Value} {env : Env} (I : Nat → Shared → Prop)
    (turn : ∀ n s, I n s → wpAny (model prog w) A (pyNext it) (fun r s1 => match r with
      | none => R (.ok .next) s1
      | some v => wpAny (model prog w) A (letOwnedTupleGo target it v) (fun _ s1' => wpAny (model prog w) A (assign target env v) (fun _ s2 =>
          wpAny (model prog w) A (forIn ifs true fun c r => if r = true then do let ok ← isTrue c env (eval c env); pure (ForInStep.yield ok) else pure (ForInStep.yield r)) (fun ok s3 =>
            if ok = true then wpAny (model prog w) A (eval elt env) (fun x s4 =>
              wpAny (model prog w) A (call (.builtin "list.append") [acc, x]) (fun _ s5 => ∃ m, m < n ∧ I m s5) (fun _ _ => False) s4) (fun _ _ => False) s3
            else ∃ m, m < n ∧ I m s3) (fun _ _ => False) s2) (fun _ _ => False) s1') (fun _ _ => False) s1) (fun _ _ => False) s)
    (n : Nat) (h : I n s) :
    codeAny (model prog w) A (.compLoop (.ListComp elt [⟨target, iter, ifs, 0⟩] scope pos) 0 it acc env) R s := by
  refine codeAny_loop rfl I (fun n s hI => ?_) n h
  show wpAny _ A ((compTurn (.ListComp elt [⟨target, iter, ifs, 0⟩] scope pos) 0 it acc env).onRaise (fun x => do noteFrame x env; theTreesLotGoes x)) _ _ s
  refine wpAny_noted ?_
  rw [compTurn_list]
  refine wpAny_bind (wpAny_standAt (wpAny_bind (wpAny_mono (turn n s hI) (fun r s1 h1 => ?_) fun _ _ f => f.elim)))
  cases r with
  | none => exact wpAny_pure h1
  | some v =>
    refine wpAny_bind (wpAny_mono h1 (fun _ s1' h1' => ?_) fun _ _ f => f.elim)
    refine wpAny_bind (wpAny_mono h1' (fun _ s2 h2 => wpAny_bind (wpAny_mono h2 (fun ok s3 h3 => ?_) fun _ _ f => f.elim)) fun _ _ f => f.elim)
    cases ok with
    | false => exact wpAny_pure ⟨rfl, h3⟩
    | true =>
      exact wpAny_bind (wpAny_bind (wpAny_mono h3 (fun x s4 h4 => wpAny_bind (wpAny_mono h4 (fun _ s5 h5 => wpAny_pure (wpAny_pure ⟨rfl, h5⟩)) fun _ _ f => f.elim)) fun _ _ f => f.elim))
end


def clOf (env : Env) : List (Str × NameKind) → List (Str × Addr) → List (Str × Addr)
  | [], cs => cs
  | (n, k) :: r, cs => clOf env r (if (k == NameKind.free) = true then (match env.cells.lookup n with | some a => (n, a) :: cs | none => cs) else cs)
theorem closure_loop {env : Env} {f : Str × NameKind → List (Str × Addr) → Sem (ForInStep (List (Str × Addr)))}
    (hf : ∀ n k cs, f (n, k) cs = if (k == NameKind.free) = true then (do let a ← cellOf env n; pure (.yield ((n, a) :: cs))) else pure (.yield cs)) :
    ∀ (l : List (Str × NameKind)) (cs : List (Str × Addr)), (∀ y ∈ l, y.2 = .free → ∃ c, env.cells.lookup y.1 = some c) → forIn l cs f = pure (clOf env l cs)
  | [], cs, _ => by rw [List.forIn_nil]; rfl
  | (n, k) :: r, cs, h => by
    have hr : ∀ y ∈ r, y.2 = .free → ∃ c, env.cells.lookup y.1 = some c := fun y hy => h y (List.mem_cons_of_mem _ hy)
    rw [List.forIn_cons, hf]
    unfold clOf
    by_cases hk : (k == NameKind.free) = true
    · obtain ⟨c, hc⟩ := h (n, k) List.mem_cons_self (by simpa using hk)
      have hc' : env.cells.lookup n = some c := hc
      rw [if_pos hk, if_pos hk]
      simp only [cellOf, hc', pure_bind]
      exact closure_loop hf r _ hr
    · rw [if_neg hk, if_neg hk, pure_bind]
      exact closure_loop hf r _ hr
theorem closure_eq {env : Env} {scope : Scope} (h : ∀ y ∈ scope.names, y.2 = .free → ∃ c, env.cells.lookup y.1 = some c) : closureFor scope env = pure (clOf env scope.names []) := by
  simp only [closureFor]
  rw [closure_loop (env := env) (fun n k cs => by cases hk : k == NameKind.free <;> simp [hk]) scope.names [] h]
  rfl
theorem clOf_mem {env : Env} {x : Str} {c : Addr} : ∀ {l : List (Str × NameKind)} {cs : List (Str × Addr)}, (∀ z d, cs.lookup z = some d → env.cells.lookup z = some d) → (clOf env l cs).lookup x = some c → env.cells.lookup x = some c
  | [], _, hc, h => hc _ _ h
  | (n, k) :: r, cs, hc, h => by
    unfold clOf at h
    refine clOf_mem (l := r) ?_ h
    intro z d hz
    split at hz
    · split at hz
      · rename_i a ha
        rw [List.lookup_cons] at hz
        split at hz
        · rename_i e
          have e' : z = n := by simpa using e
          subst e'
          rw [ha]
          exact hz
        · exact hc z d hz
      · exact hc z d hz
    · exact hc z d hz
theorem clOf_get {env : Env} {x : Str} {c : Addr} (e : env.cells.lookup x = some c) : ∀ {l : List (Str × NameKind)} {cs : List (Str × Addr)}, (∀ z d, cs.lookup z = some d → env.cells.lookup z = some d) →
    ((x, NameKind.free) ∈ l ∨ ∃ d, cs.lookup x = some d) → (clOf env l cs).lookup x = some c
  | [], cs, hc, h => by
    rcases h with h | ⟨d, h⟩
    · simp at h
    · have := hc x d h
      rw [e] at this
      cases this
      exact h
  | (n, k) :: r, cs, hc, h => by
    unfold clOf
    have hc2 : ∀ z d, (if (k == NameKind.free) = true then (match env.cells.lookup n with | some a => (n, a) :: cs | none => cs) else cs).lookup z = some d → env.cells.lookup z = some d := by
      intro z d hz
      split at hz
      · split at hz
        · rename_i a ha
          rw [List.lookup_cons] at hz
          split at hz
          · rename_i e
            have e' : z = n := by simpa using e
            subst e'
            rw [ha]
            exact hz
          · exact hc z d hz
        · exact hc z d hz
      · exact hc z d hz
    refine clOf_get e (l := r) hc2 ?_
    have keep : ∀ d, cs.lookup x = some d → ∃ d, (if (k == NameKind.free) = true then (match env.cells.lookup n with | some a => (n, a) :: cs | none => cs) else cs).lookup x = some d := by
      intro d hd
      split
      · split
        · rename_i a ha
          rw [List.lookup_cons]
          split
          · exact ⟨_, rfl⟩
          · exact ⟨d, hd⟩
        · exact ⟨d, hd⟩
      · exact ⟨d, hd⟩
    rcases h with h | ⟨d, h⟩
    · rcases List.mem_cons.mp h with h | h
      · have e1 : x = n := congrArg Prod.fst h
        have e2 : k = NameKind.free := (congrArg Prod.snd h).symm
        subst e1 e2
        refine .inr ⟨c, ?_⟩
        rw [if_pos (by decide), e]
        simp [List.lookup_cons]
      · exact .inl h
    · exact .inr (keep d h)

theorem relabel_free {env : Env} : ∀ {names : List (Str × NameKind)} {x : Str} {k : NameKind},
    (names.map fun (n, k) => if (k == NameKind.free && env.scope.kind == .function && env.kindOf n == some .cell) then (n, NameKind.cell) else (n, k)).lookup x = some k → (k = .cell ∨ k = .free) → (∀ y ∈ names, y.2 ≠ .cell) → names.lookup x = some .free
  | [], _, _, h, _, _ => by simp at h
  | (n, k0) :: r, x, k, h, hk, hn => by
    have ih := @relabel_free env r x k
    have h' : List.lookup x ((if (k0 == NameKind.free && env.scope.kind == .function && env.kindOf n == some .cell) = true then (n, NameKind.cell) else (n, k0)) :: (r.map fun (n, k) => if (k == NameKind.free && env.scope.kind == .function && env.kindOf n == some .cell) then (n, NameKind.cell) else (n, k))) = some k := h
    cases hx : x == n with
    | true =>
      have go : List.lookup x ((n, k0) :: r) = some k0 := by simp [List.lookup_cons, hx]
      rw [go]
      by_cases hc : (k0 == NameKind.free && env.scope.kind == .function && env.kindOf n == some .cell) = true
      · have : k0 = NameKind.free := by
          simp only [Bool.and_eq_true] at hc
          simpa using hc.1.1
        rw [this]
      · rw [if_neg hc] at h'
        simp only [List.lookup_cons, hx] at h'
        cases h'
        rcases hk with hk | hk
        · exact absurd hk (hn _ List.mem_cons_self)
        · rw [hk]
    | false =>
      have go : List.lookup x ((n, k0) :: r) = List.lookup x r := by simp [List.lookup_cons, hx]
      rw [go]
      refine ih ?_ hk (fun y hy => hn y (List.mem_cons_of_mem _ hy))
      by_cases hc : (k0 == NameKind.free && env.scope.kind == .function && env.kindOf n == some .cell) = true
      · rw [if_pos hc] at h'
        simp only [List.lookup_cons, hx] at h'
        exact h'
      · rw [if_neg hc] at h'
        simp only [List.lookup_cons, hx] at h'
        exact h'
theorem relabel_of_free {env : Env} : ∀ {names : List (Str × NameKind)} {x : Str}, names.lookup x = some .free →
    (names.map fun (n, k) => if (k == NameKind.free && env.scope.kind == .function && env.kindOf n == some .cell) then (n, NameKind.cell) else (n, k)).lookup x = some .cell ∨
    (names.map fun (n, k) => if (k == NameKind.free && env.scope.kind == .function && env.kindOf n == some .cell) then (n, NameKind.cell) else (n, k)).lookup x = some .free
  | [], _, h => by simp at h
  | (n, k0) :: r, x, h => by
    have ih := @relabel_of_free env r x
    show List.lookup x ((if (k0 == NameKind.free && env.scope.kind == .function && env.kindOf n == some .cell) = true then (n, NameKind.cell) else (n, k0)) :: _) = _ ∨ List.lookup x ((if (k0 == NameKind.free && env.scope.kind == .function && env.kindOf n == some .cell) = true then (n, NameKind.cell) else (n, k0)) :: _) = _
    cases hx : x == n with
    | true =>
      simp only [List.lookup_cons, hx] at h
      by_cases hc : (k0 == NameKind.free && env.scope.kind == .function && env.kindOf n == some .cell) = true
      · rw [if_pos hc]
        left
        simp only [List.lookup_cons, hx]
      · rw [if_neg hc]
        right
        simp only [List.lookup_cons, hx]
        exact h
    | false =>
      simp only [List.lookup_cons, hx] at h
      by_cases hc : (k0 == NameKind.free && env.scope.kind == .function && env.kindOf n == some .cell) = true
      · rw [if_pos hc]
        simp only [List.lookup_cons, hx]
        exact ih h
      · rw [if_neg hc]
        simp only [List.lookup_cons, hx]
        exact ih h



def blk (X : Cx) (N : List Str) (scope : Scope) (C : Addr) (s : Shared) (H : Hp) (ex : List Addr) : Cx where
  prog := X.prog
  w := X.w
  K := X.K
  mg := X.mg
  base := X.base
  A := X.A
  N := N
  s₀ := s
  H₀ := H
  env := compEnvC scope (clOf X.env scope.names []) C X.env
  outer := X.stack
  stack := X.stack
  ex := ex
  fn := fun _ => false
  calm := X.calm
  pn := []
  xe := fun _ _ => False

structure BlkScope (sc : Scope) (N own cn : List Str) (ci : List Nat) (scope : Scope) : Prop where
  kind : scope.kind = .function
  nocell : ∀ y ∈ scope.names, y.2 ≠ .cell
  names : ∀ y ∈ scope.names, y.2 = .local → scope.names.lookup y.1 = some .local
  free : ∀ y ∈ scope.names, y.2 = .free → sc.names.lookup y.1 = some .cell ∨ sc.names.lookup y.1 = some .free
  cap : (cn.map fun x => (some x : Option Str)) = ci.map fun i => N[i]?
  capk : ∀ x ∈ cn, scope.names.lookup x = some .free
  nd : (own ++ cn).Nodup
def blkS (own : List Str) (ci : List Nat) (σ : St) : St := own.map (fun _ => none) ++ ci.map fun i => (σ[i]?).join

section
variable {X : Cx} {pins : List (Addr × Obj)} {σ : St} {H H2 : Hp} {s s2 : Shared} {sc : Scope} {N own cn : List Str} {ci : List Nat} {scope : Scope} {fp : List Addr}
theorem blk_cells (S : BlkScope sc N own cn ci scope) (hsc : X.env.scope = sc) (I : Inv X pins σ H s) : ∀ y ∈ scope.names, y.2 = .free → ∃ c, X.env.cells.lookup y.1 = some c := fun y hy hf => by
  refine I.ok.has y.1 ?_
  have := S.free y hy hf
  rw [← hsc] at this
  exact this
theorem blk_inv (S : BlkScope sc N own cn ci scope) (hsc : X.env.scope = sc) (hN : X.N = N) (I : Inv X pins σ H s) (hfp : ∀ b ∈ fp, FpOk X pins H b) (hlt : ∀ b ∈ fp, b < s.heap.objs.size) {h1 : Heap} {tk : Nat} {m : Str → Option Value}
    (hns : h1.Ns s.heap.objs.size m) (keep : ∀ b o, s.heap.get? b = some o → h1.get? b = some o) :
    Inv (blk X (own ++ cn) scope s.heap.objs.size s H fp) [] (blkS own ci σ) H { s with heap := h1, toks := tk } := by
  have ccl : ∀ x c, (clOf X.env scope.names []).lookup x = some c → X.env.cells.lookup x = some c := fun x c e => clOf_mem (fun z d h => by simp at h) e
  have cnl : cn.length = ci.length := by have := congrArg List.length S.cap; simpa using this
  refine ⟨⟨I.ok.mod, ?_, I.ok.glob, I.ok.blt, Nat.le_refl _, fun x y c e1 e2 => I.ok.inj x y c (ccl x c e1) (ccl y c e2), fun x hx => ?_, fun x c hf _ => ?_, I.ok.hd, I.ok.frames, .inl rfl, fun b hb => ⟨Nat.ne_of_lt (hlt b hb), fun x c e => (hfp b hb).2.2.2.2.1 x c (ccl x c e)⟩, I.bs, Nat.le_trans I.ok.bsz I.sz, fun b o e hb => ?_, fun b hb hb2 => ?_, I.stack, I.stkFree⟩,
    rfl, I.bare, Un.kept keep, ⟨m, hns, fun i x v e1 e2 e3 => ?_⟩, fun x c e => ?_, I.hok.fresh (Nat.le_refl _), fun x c e => I.freeC x c (ccl x c e), fun p hp => absurd (show p ∈ ([] : List (Addr × Obj)) from hp) (by simp), I.hok.kept keep, ?_⟩
  · exact S.kind
  · have hx' : (relabel scope X.env).names.lookup x = some .cell ∨ (relabel scope X.env).names.lookup x = some .free := hx
    have hfree : scope.names.lookup x = some .free := by
      rcases hx' with q | q
      · exact relabel_free q (.inl rfl) S.nocell
      · exact relabel_free q (.inr rfl) S.nocell
    have hm := PySem.mem_of_lookup hfree
    obtain ⟨c, hc⟩ := blk_cells S hsc I _ hm rfl
    exact ⟨c, clOf_get hc (fun z d h => by simp at h) (.inl hm)⟩
  · exact absurd hf (by show ¬ (false = true); decide)
  · rcases (hfp b hb).2.2.2.1 with z | z
    · exact I.ok.noex b o e z
    · exact absurd (Nat.lt_of_lt_of_le (Heap.lt_size (I.ok.bs b o e).1) z) (Nat.lt_irrefl _)
  · rcases List.mem_cons.mp (I.stkSub b hb2) with z | z
    · exact (hfp b hb).2.1 z
    · exact (hfp b hb).2.2.1 z
  · have e1' : (own ++ cn)[i]? = some x := e1
    unfold blkS at e2
    by_cases hi : i < own.length
    · rw [List.getElem?_append_left (by simpa using hi), List.getElem?_map] at e2
      cases q : own[i]? with
      | none => rw [q] at e2; cases e2
      | some z => rw [q] at e2; cases e2
    · rw [List.getElem?_append_right (by simpa using hi)] at e2
      rw [List.getElem?_append_right (by omega)] at e1'
      rw [List.length_map, List.getElem?_map] at e2
      cases q : ci[i - own.length]? with
      | none => rw [q] at e2; cases e2
      | some j =>
        rw [q] at e2
        have e2' : (σ[j]?).join = some v := Option.some.inj e2
        have e3' : σ[j]? = some (some v) := by
          cases z : σ[j]? with
          | none => rw [z] at e2'; cases e2'
          | some o => rw [z] at e2'; exact congrArg some e2'
        have hNj : X.N[j]? = some x := by
          have c1 := congrArg (fun l => l[i - own.length]?) S.cap
          simp only [List.getElem?_map, e1', q, Option.map_some] at c1
          rw [hN]
          exact (Option.some.inj c1).symm
        have hfree := S.capk x (List.mem_of_getElem? e1')
        have hm := PySem.mem_of_lookup hfree
        have hk := S.free _ hm rfl
        rw [← hsc] at hk
        have hvis : Vis X.env.scope x := .inr hk
        obtain ⟨m0, _, hl⟩ := I.loc
        obtain ⟨u, r, l⟩ := hl j x v hNj e3' hvis
        refine ⟨u, r, .inr ⟨relabel_of_free hfree, ?_⟩⟩
        rcases l with ⟨l, _⟩ | ⟨_, c, ec, z⟩
        · have l' : X.env.scope.names.lookup x = some .local := l
          rcases hk with hk | hk <;> (rw [hk] at l'; cases l')
        · refine ⟨c, clOf_get ec (fun z d h => by simp at h) (.inl hm), ?_⟩
          obtain ⟨o, ho, hd⟩ := z
          exact ⟨o, keep c o ho, hd⟩
  · obtain ⟨v, o, ho, hd⟩ := I.cell x c (ccl x c e)
    exact ⟨v, o, keep c o ho, hd⟩
  · show (blkS own ci σ).length = (own ++ cn).length
    unfold blkS
    rw [List.length_append, List.length_append, List.length_map, List.length_map, cnl]
end


def PTs (X : Cx) (ifs : List Expr) (t : TT) : Prop :=
  ∀ (pins : List (Addr × Obj)) (s : Shared) (σ : St) (H : Hp) (Q : Bool → Hp → Prop), Inv X pins σ H s → t σ H Q →
    wpAny (model X.prog X.w) X.A (forIn ifs true fun c r => if r = true then do let ok ← isTrue c X.env (eval c X.env); pure (ForInStep.yield ok) else pure (ForInStep.yield r)) (TP X pins σ Q) X.xe s
def tTrue : TT := fun _ H Q => Q true H
theorem pts_nil {X : Cx} : PTs X [] tTrue := fun _ _ _ H _ I h => wpAny_tests_nil ⟨H, I, h⟩
theorem pts_one {X : Cx} {c : Expr} {t : TT} (h : PT X c t) : PTs X [c] t := fun pins s σ H Q I q => wpAny_tests_one (h pins s σ H Q I q)


def LcW (J : It) (g : TG) (tt : TT) (te : TE) (D : Addr) (Q : Hp → Prop) (W : Nat → Nat → St → Hp → Prop) : Prop := ∀ i m σ H, W i m σ H →
  (J.stop i H ∧ Q H) ∨ (J.go i H ∧ ∀ x H1, J.yld i H x H1 → g x σ H1 fun σ2 H2 => tt σ2 H2 fun ok H3 => if ok = true then te σ2 H3 fun y H4 => ∃ ys, H4 D = some (.lst ys) ∧ ys.length < sizeLine ∧
    ∃ m', m' < m ∧ W (i + 1) m' σ2 (upd H4 D (.lst (ys ++ [y]))) else ∃ m', m' < m ∧ W (i + 1) m' σ2 H3)
def tLC (own : List Str) (ci : List Nat) (wi : TI) (g : TG) (tt : TT) (te : TE) : TE := fun σ H Q => wi σ H fun J H1 => ∀ D, H1 D = none →
  ∃ W : Nat → Nat → St → Hp → Prop, (∃ m, W 0 m (blkS own ci σ) (upd H1 D (.lst []))) ∧ LcW J g tt te D (Q (.ref D)) W

section
variable {X : Cx} {pins : List (Addr × Obj)} {σ : St} {H H2 : Hp} {s s2 : Shared} {sc : Scope} {N own cn : List Str} {ci : List Nat} {scope : Scope} {fp : List Addr}
  {elt tg iter : Expr} {ifs : List Expr} {pos : Pos} {g : TG} {tt : TT} {te : TE} {wi : TI}
theorem lc_block {it : Addr} {tn : Nat → Heap → Prop} {J : It} {Q : VK} {E : Value → Shared → Prop} {RR : Value → Addr → Result → Shared → Prop} (S : BlkScope sc N own cn ci scope) (hsc : X.env.scope = sc) (hN : X.N = N) (hc : X.calm = true)
    (I2 : Inv X pins σ H2 s2) (T : Turn X.prog X.w X.K tg J fp it tn) (st2 : tn 0 s2.heap) (f2 : ∀ b ∈ fp, FpOk X pins H2 b)
    (hg : ∀ C s H, PG (blk X (own ++ cn) scope C s H fp) tg g) (ht : ∀ C s H, PTs (blk X (own ++ cn) scope C s H fp) ifs tt) (he : ∀ C s H, PE (blk X (own ++ cn) scope C s H fp) elt te)
    (q : ∀ D, H2 D = none → ∃ W : Nat → Nat → St → Hp → Prop, (∃ m, W 0 m (blkS own ci σ) (upd H2 D (.lst []))) ∧ LcW J g tt te D (Q (.ref D)) W)
    (hRR : ∀ D C H' s', Inv X pins σ H' s' → Q (.ref D) H' → (∃ m, s'.heap.Ns C m) → FpOk X pins H' C → RR (.ref D) C (.ok .next) s') :
    wpAny (model X.prog X.w) X.A (newList []) (fun acc s3 => wpAny (model X.prog X.w) X.A (newFunctionEnv scope X.env.globals (clOf X.env scope.names []) [] X.env.qual none .none (some X.env)) (fun cenv s4 =>
      codeAny (model X.prog X.w) X.A (.compStart (.ListComp elt [⟨tg, iter, ifs, 0⟩] scope pos) 0 (.ref it) acc { cenv with scope := relabel scope X.env }) (RR acc cenv.locals) s4) E s3) E s2 := by
  refine wpAny_newObj_type (wpAny_newFunctionEnv S.nocell (by intro y hy; simp at hy) (fun h1 hns1 hsb1 => ?_) S.kind)
  dsimp only at hns1 hsb1 ⊢
  have I3 : Inv X pins σ (upd H2 s2.heap.objs.size (.lst [])) { s2 with heap := s2.heap.push { cls := .type "list", data := .seq ([] : List Value).toArray }, toks := s2.toks } := I2.lnew (its := []) (t' := s2.toks) .nil (Nat.zero_le _)
  have hD : H2 s2.heap.objs.size = none := I2.hok.fresh (Nat.le_refl _)
  have fpe : ∀ b ∈ fp, b < s2.heap.objs.size := fun b hb => by
    obtain ⟨o, e, _⟩ := T.obj _ _ st2 b hb
    exact Heap.lt_size e
  have f3 : ∀ b ∈ fp, FpOk X pins (upd H2 s2.heap.objs.size (.lst [])) b := fun b hb => ⟨by rw [upd_ne (Nat.ne_of_lt (fpe b hb))]; exact (f2 b hb).1, (f2 b hb).2⟩
  obtain ⟨W, ⟨m0, w0⟩, turn⟩ := q s2.heap.objs.size hD
  generalize hs3 : ({ s2 with heap := s2.heap.push { cls := .type "list", data := .seq ([] : List Value).toArray }, toks := s2.toks } : Shared) = s3 at I3
  have e3 : s3.heap = s2.heap.push { cls := .type "list", data := .seq ([] : List Value).toArray } := by rw [← hs3]
  have hsz3 : s3.heap.objs.size = s2.heap.objs.size + 1 := by rw [e3, Heap.size_push]
  have keep3 : ∀ b o, s2.heap.get? b = some o → s3.heap.get? b = some o := fun b o e => by rw [e3]; exact Heap.get?_push_of_some _ e
  have keep : ∀ b o, s3.heap.get? b = some o → h1.get? b = some o := fun b o e => by
    refine hsb1.extBut b o ?_ (Heap.get?_push_of_some _ (by rw [← e3]; exact e))
    have := Heap.lt_size e
    rw [e3] at this
    exact Nat.ne_of_lt this
  have hns : h1.Ns s3.heap.objs.size (fun x => ([] : List (Str × Value)).reverse.lookup x) := by rw [e3]; exact hns1
  have I4 := blk_inv (fp := fp) (tk := s2.toks + ([] : List (Str × Value)).length) S hsc hN I3 f3 (fun b hb => by rw [hsz3]; exact Nat.lt_succ_of_lt (fpe b hb)) hns keep
  have st4 : tn 0 h1 := T.keep _ _ _ st2 fun b hb o e => keep b o (keep3 b o e)
  have hC : (s2.heap.push { cls := .type "list", data := .seq ([] : List Value).toArray }).objs.size = s3.heap.objs.size := by rw [e3]
  have stat : ∀ {H' : Hp}, (∀ b ∈ fp, H' b = none) → ∀ b ∈ fp, FpOk (blk X (own ++ cn) scope s3.heap.objs.size s3 (upd H2 s2.heap.objs.size (.lst [])) fp) [] H' b := fun hn b hb =>
    ⟨hn b hb, Nat.ne_of_lt (by rw [hsz3]; exact Nat.lt_succ_of_lt (fpe b hb)), fun z => I4.ok.exfs b hb z, .inl hb, (I4.ok.exf b hb).2, fun p hp => absurd (show p ∈ ([] : List (Addr × Obj)) from hp) (by simp)⟩
  have loop : ∀ s4 : Shared, s4 = { s3 with heap := h1, toks := s2.toks + ([] : List (Str × Value)).length } →
      codeAny (model X.prog X.w) X.A (.compLoop (.ListComp elt [⟨tg, iter, ifs, 0⟩] scope pos) 0 (.ref it) (.ref s2.heap.objs.size) (compEnvC scope (clOf X.env scope.names []) s3.heap.objs.size X.env)) (RR (.ref s2.heap.objs.size) s3.heap.objs.size) s4 := by
    rintro s4 rfl
    refine comp_loop (fun n s' => ∃ i σ' H', Inv (blk X (own ++ cn) scope s3.heap.objs.size s3 (upd H2 s2.heap.objs.size (.lst [])) fp) [] σ' H' s' ∧ tn i s'.heap ∧ (∀ b ∈ fp, H' b = none) ∧ W i n σ' H') ?_ m0
      ⟨0, _, _, I4, st4, fun b hb => (f3 b hb).1, w0⟩
    rintro n s5 ⟨i, σ5, H5, I5, st5, fr5, w5⟩
    rcases turn i n σ5 H5 w5 with ⟨stop, qn⟩ | ⟨go, step⟩
    · refine thn (T.done (blk X (own ++ cn) scope s3.heap.objs.size s3 (upd H2 s2.heap.objs.size (.lst [])) fp) rfl rfl rfl hc i [] s5 σ5 H5 (fun _ _ => False) I5 (stat fr5) st5 stop) fun r s6 ⟨hr, I6⟩ => ?_
      subst hr
      refine hRR _ _ H5 s6 (I3.call' I6.os I6.base I6.hok I6.bare fun b hb => ⟨(f3 b hb).2.2.2.1, (f3 b hb).2.1, (f3 b hb).2.2.2.2.1, (f3 b hb).2.2.2.2.2⟩) qn (let ⟨m, hn, _⟩ := I6.loc; ⟨m, hn⟩) (I3.fpOk (Nat.le_refl _) I6.free)
    · refine thn (T.item (blk X (own ++ cn) scope s3.heap.objs.size s3 (upd H2 s2.heap.objs.size (.lst [])) fp) rfl rfl rfl hc i [] s5 σ5 H5 (fun _ _ => False) I5 (stat fr5) st5 go) fun r s6 ⟨u, hr, h6⟩ => ?_
      subst hr
      refine thn h6 fun _ s7 ⟨x, H7, I7, r7, y7, st7, fr7⟩ => ?_
      have I7' := I7.pinned (stat fr7) (T.obj _ _ st7)
      refine thn (hg _ _ _ _ s7 σ5 H7 x u _ I7' r7 (step x H7 y7)) fun _ s8 ⟨σ8, H8, I8, q8⟩ => ?_
      refine thn (ht _ _ _ _ s8 σ8 H8 _ I8 q8) fun ok s9 ⟨H9, I9, q9⟩ => ?_
      have again : ∀ {H' : Hp} {s' : Shared} {m' : Nat}, Inv (blk X (own ++ cn) scope s3.heap.objs.size s3 (upd H2 s2.heap.objs.size (.lst [])) fp) ([] ++ pinsAt fp s7.heap) σ8 H' s' → W (i + 1) m' σ8 H' →
          ∃ i σ' H', Inv (blk X (own ++ cn) scope s3.heap.objs.size s3 (upd H2 s2.heap.objs.size (.lst [])) fp) [] σ' H' s' ∧ tn i s'.heap ∧ (∀ b ∈ fp, H' b = none) ∧ W i m' σ' H' := fun {H' s' m'} I' w' => by
        refine ⟨i + 1, σ8, H', I'.unpinned, T.keep _ _ _ st7 fun b hb o e => (I'.pin (b, o) (List.mem_append_right _ (List.mem_append_right _ (mem_pinsAt hb e)))).1, fun b hb => ?_, w'⟩
        obtain ⟨o, e, _⟩ := T.obj _ _ st7 b hb
        exact (I'.pin (b, o) (List.mem_append_right _ (List.mem_append_right _ (mem_pinsAt hb e)))).2.1
      cases ok with
      | false =>
        obtain ⟨m', hm, w'⟩ := q9
        exact ⟨m', hm, again I9 w'⟩
      | true =>
        refine thn (he _ _ _ _ s9 σ8 H9 _ I9 q9) fun v s10 ⟨y, H10, I10, r10, ys, hDl, hz, m', hm, w'⟩ => ?_
        refine thn (mt_append _ s10 σ8 H10 (.ref s2.heap.objs.size) [y] (.ref s2.heap.objs.size) [v] (fun _ H11 => H11 = upd H10 s2.heap.objs.size (.lst (ys ++ [y]))) I10 rfl (.cons r10 .nil) ⟨_, ys, y, rfl, rfl, hDl, hz, rfl⟩) fun _ s11 ⟨_, H11, I11, _, e11⟩ => ?_
        subst e11
        exact ⟨m', hm, again I11 w'⟩
  have es : ({ s2 with heap := h1, toks := s2.toks + ([] : List (Str × Value)).length } : Shared) = { s3 with heap := h1, toks := s2.toks + ([] : List (Str × Value)).length } := by rw [← hs3]
  rw [hC]
  exact codeAny_compStart_list (loop _ es) (T.self _ 0 _ _ _ st4 (loop _ es))

theorem pe_lc (S : BlkScope sc N own cn ci scope) (hsc : X.env.scope = sc) (hN : X.N = N) (hc : X.calm = true) (hi : PI X tg iter wi)
    (hg : ∀ fp C s H, PG (blk X (own ++ cn) scope C s H fp) tg g) (ht : ∀ fp C s H, PTs (blk X (own ++ cn) scope C s H fp) ifs tt) (he : ∀ fp C s H, PE (blk X (own ++ cn) scope C s H fp) elt te)
    (hs : ∀ x, foldedSetIterable iter X.env x = pure x := by intro _; rfl) : PE X (.ListComp elt [⟨tg, iter, ifs, 0⟩] scope pos) (tLC own ci wi g tt te) := by
  intro pins s σ H Q I h
  rw [eval_ListComp]
  refine wpAny_comprehension_free (use := none) rfl hs (closure_eq (blk_cells S hsc I)) S.kind S.names (thn (hi pins s σ H _ I h) fun xv s1 h1 => thn h1 fun itv s2 h2 => ?_)
  obtain ⟨it, fp, tn, J, H2, e, I2, T, st2, f2, q⟩ := h2
  subst e
  refine lc_block (RR := fun acc C => compPost (model X.prog X.w) X.A X.xe none (EP X pins σ Q) acc C) S hsc hN hc I2 T st2 f2 (hg fp) (ht fp) (he fp) q ?_
  intro D C H' s' I' q' ⟨m, hn⟩ fC
  exact ⟨m, hn, fun h' hs' => ⟨.ref D, H', I'.turned (t' := s'.toks) (fun b o hb e => (hs'.2 b hb).trans e) fC.1 (Ne.symm (Ne.symm fC.2.1)) fC.2.2.2.1 fC.2.2.2.2.1 fC.2.2.2.2.2, rfl, q'⟩⟩


def tSetLC (i : Nat) (t : TE) : TS := fun D σ H => t σ H fun v H1 => D.nx (σ.set i (some v)) H1
theorem ps_setlc {i : Nat} {y : Str} {py spos : Pos} (S : BlkScope sc N own cn ci scope) (hsc : X.env.scope = sc) (hN : X.N = N) (hc : X.calm = true) (hi : PI X tg iter wi)
    (hg : ∀ fp C s H, PG (blk X (own ++ cn) scope C s H fp) tg g) (ht : ∀ fp C s H, PTs (blk X (own ++ cn) scope C s H fp) ifs tt) (he : ∀ fp C s H, PE (blk X (own ++ cn) scope C s H fp) elt te)
    (hnd : X.N.Nodup) (hiy : X.N[i]? = some y) (hy : X.env.scope.names.lookup y = some .local)
    (hsw : swapsWith (.ListComp elt [⟨tg, iter, ifs, 0⟩] scope pos) (some (.Name y py)) spos.line X.env = pure true)
    (hs : ∀ x, foldedSetIterable iter X.env x = pure x := by intro _; rfl) : PS X (.Assign [.Name y py] (.ListComp elt [⟨tg, iter, ifs, 0⟩] scope pos) spos) (tSetLC i (tLC own ci wi g tt te)) := by
  intro pins s σ H D I h
  rw [exec_Assign_Name_used _ _ _ _ hsw]
  refine wpAny_bind (wpAny_standAt (wpAny_bind ?_))
  show wpAny _ X.A (do let _ ← comprehension (.ListComp elt [⟨tg, iter, ifs, 0⟩] scope pos) scope X.env _ (newList []) false (eval iter X.env) (some (assign (.Name y py) X.env))) _ _ s
  refine wpAny_bind (wpAny_mono (wpAny_comprehension_free (use := some (assign (.Name y py) X.env)) (Q := fun _ s' => SP X pins D .next s') rfl hs (closure_eq (blk_cells S hsc I)) S.kind S.names
    (thn (hi pins s σ H _ I h) fun xv s1 h1 => thn h1 fun itv s2 h2 => ?_)) (fun _ s' hq => wpAny_pure (wpAny_pure hq)) fun _ _ e => e)
  obtain ⟨it, fp, tn, J, H2, e, I2, T, st2, f2, q⟩ := h2
  subst e
  refine lc_block (RR := fun acc C => compPost (model X.prog X.w) X.A X.xe (some (assign (.Name y py) X.env)) (fun _ s' => SP X pins D .next s') acc C) (Q := fun v H1 => D.nx (σ.set i (some v)) H1) S hsc hN hc I2 T st2 f2 (hg fp) (ht fp) (he fp) q ?_
  intro D' C H' s' I' q' ⟨m, hn⟩ fC
  refine wpAny_assign_Name (store_ok2 (v := .ref D') I' hnd hiy (.inl hy) rfl (fun s'' I'' ⟨a, hsb, ha⟩ => ?_) (.inr hy))
  have hCa : C ≠ a := by
    rcases ha with ha | ha
    · rw [ha]; exact fC.2.1
    · exact Ne.symm (fC.2.2.2.2.1 _ _ ha)
  exact ⟨m, hn.sameBut hsb hCa, fun h' hs' => ⟨_, H', I''.turned (t' := s''.toks) (fun b o hb e => (hs'.2 b hb).trans e) fC.1 fC.2.1 fC.2.2.2.1 fC.2.2.2.2.1 fC.2.2.2.2.2, q'⟩⟩
end


theorem lc_range {lo : Int} {n : Nat} {caps : St} {tt : TT} {te : TE} {D : Addr} {Q : Hp → Prop} {H1 : Hp} (Pv : Nat → List V → Hp → Prop) (hz : n ≤ sizeLine) (h0 : Pv 0 [] (upd H1 D (.lst []))) (hl : ∀ i ys H, Pv i ys H → ys.length ≤ i)
    (hs : ∀ i ys H (N : VK) (M : Hp → Prop), i < n → Pv i ys H → (∀ y H4, H4 D = some (.lst ys) → Pv (i + 1) (ys ++ [y]) (upd H4 D (.lst (ys ++ [y]))) → N y H4) → (∀ H3, Pv (i + 1) ys H3 → M H3) →
      tt (some (.int (lo + i)) :: caps) H fun ok H3 => if ok = true then te (some (.int (lo + i)) :: caps) H3 N else M H3)
    (hd : ∀ ys H, Pv n ys H → Q H) : ∃ W : Nat → Nat → St → Hp → Prop, (∃ m, W 0 m (none :: caps) (upd H1 D (.lst []))) ∧ LcW (Itr lo n) (gName 0) tt te D Q W := by
  refine ⟨fun i m σ H => m = n - i ∧ i ≤ n ∧ (∃ v, σ = v :: caps) ∧ ∃ ys, Pv i ys H, ⟨n, by simp, Nat.zero_le _, ⟨none, rfl⟩, [], h0⟩, ?_⟩
  rintro i m σ H ⟨rfl, hi, ⟨v, rfl⟩, ys, p⟩
  have hy := hl i ys H p
  by_cases hlt : i < n
  · refine .inr ⟨hlt, fun x H1 y => ?_⟩
    obtain ⟨e, y⟩ := y
    subst e y
    refine hs i ys _ _ _ hlt p (fun y H4 a c => ⟨ys, a, by omega, n - (i + 1), by omega, rfl, hlt, ⟨_, rfl⟩, _, c⟩) (fun H3 c => ⟨n - (i + 1), by omega, rfl, hlt, ⟨_, rfl⟩, ys, c⟩)
  · have e : i = n := by omega
    subst e
    exact .inl ⟨Nat.le_refl _, hd ys H p⟩
theorem lc_list {K : PySem.W.Frag} {a : Addr} {xs : List V} {caps : St} {tt : TT} {te : TE} {D : Addr} {Q : Hp → Prop} {H1 : Hp} (Pv : Nat → List V → Hp → Prop) (hz : xs.length ≤ sizeLine) (h0 : Pv 0 [] (upd H1 D (.lst []))) (hl : ∀ i ys H, Pv i ys H → ys.length ≤ i) (hq : ∀ i ys H, Pv i ys H → SqL K H a xs)
    (hs : ∀ i ys H (x : V) (N : VK) (M : Hp → Prop), xs[i]? = some x → Pv i ys H → (∀ y H4, H4 D = some (.lst ys) → Pv (i + 1) (ys ++ [y]) (upd H4 D (.lst (ys ++ [y]))) → N y H4) → (∀ H3, Pv (i + 1) ys H3 → M H3) →
      tt (some x :: caps) H fun ok H3 => if ok = true then te (some x :: caps) H3 N else M H3)
    (hd : ∀ ys H, Pv xs.length ys H → Q H) : ∃ W : Nat → Nat → St → Hp → Prop, (∃ m, W 0 m (none :: caps) (upd H1 D (.lst []))) ∧ LcW (Itl K a) (gName 0) tt te D Q W := by
  refine ⟨fun i m σ H => m = xs.length - i ∧ i ≤ xs.length ∧ (∃ v, σ = v :: caps) ∧ ∃ ys, Pv i ys H, ⟨xs.length, by simp, Nat.zero_le _, ⟨none, rfl⟩, [], h0⟩, ?_⟩
  rintro i m σ H ⟨rfl, hi, ⟨v, rfl⟩, ys, p⟩
  have hy := hl i ys H p
  by_cases hlt : i < xs.length
  · refine .inr ⟨⟨xs, xs[i], hq i ys H p, by simp [hlt]⟩, fun x H1 y => ?_⟩
    obtain ⟨e, y⟩ := y
    subst e
    have hx := y xs (hq i ys _ p)
    refine hs i ys _ x _ _ hx p (fun y H4 a c => ⟨ys, a, by omega, xs.length - (i + 1), by omega, rfl, hlt, ⟨_, rfl⟩, _, c⟩) (fun H3 c => ⟨xs.length - (i + 1), by omega, rfl, hlt, ⟨_, rfl⟩, ys, c⟩)
  · have e : i = xs.length := by omega
    subst e
    exact .inl ⟨⟨xs, hq _ ys H p, Nat.le_refl _⟩, hd ys H p⟩
theorem lc_tup {K : PySem.W.Frag} {a : Addr} {xs : List V} {caps : St} {tt : TT} {te : TE} {D : Addr} {Q : Hp → Prop} {H1 : Hp} (Pv : Nat → List V → Hp → Prop) (hz : xs.length ≤ sizeLine) (h0 : Pv 0 [] (upd H1 D (.lst []))) (hl : ∀ i ys H, Pv i ys H → ys.length ≤ i) (hq : ∀ i ys H, Pv i ys H → SqT K H a xs)
    (hs : ∀ i ys H (x : V) (N : VK) (M : Hp → Prop), xs[i]? = some x → Pv i ys H → (∀ y H4, H4 D = some (.lst ys) → Pv (i + 1) (ys ++ [y]) (upd H4 D (.lst (ys ++ [y]))) → N y H4) → (∀ H3, Pv (i + 1) ys H3 → M H3) →
      tt (some x :: caps) H fun ok H3 => if ok = true then te (some x :: caps) H3 N else M H3)
    (hd : ∀ ys H, Pv xs.length ys H → Q H) : ∃ W : Nat → Nat → St → Hp → Prop, (∃ m, W 0 m (none :: caps) (upd H1 D (.lst []))) ∧ LcW (Itt K a) (gName 0) tt te D Q W := by
  refine ⟨fun i m σ H => m = xs.length - i ∧ i ≤ xs.length ∧ (∃ v, σ = v :: caps) ∧ ∃ ys, Pv i ys H, ⟨xs.length, by simp, Nat.zero_le _, ⟨none, rfl⟩, [], h0⟩, ?_⟩
  rintro i m σ H ⟨rfl, hi, ⟨v, rfl⟩, ys, p⟩
  have hy := hl i ys H p
  by_cases hlt : i < xs.length
  · refine .inr ⟨⟨xs, xs[i], hq i ys H p, by simp [hlt]⟩, fun x H1 y => ?_⟩
    obtain ⟨e, y⟩ := y
    subst e
    have hx := y xs (hq i ys _ p)
    refine hs i ys _ x _ _ hx p (fun y H4 a c => ⟨ys, a, by omega, xs.length - (i + 1), by omega, rfl, hlt, ⟨_, rfl⟩, _, c⟩) (fun H3 c => ⟨xs.length - (i + 1), by omega, rfl, hlt, ⟨_, rfl⟩, ys, c⟩)
  · have e : i = xs.length := by omega
    subst e
    exact .inl ⟨⟨xs, hq _ ys H p, Nat.le_refl _⟩, hd ys H p⟩
end L2
namespace L2
open PySem PySem.Spec PyProof.Rows

section
variable {X : Cx}
theorem call_isinst : CallR X (.builtin "isinstance") (fun xs H Q => ∃ x n t b, xs = [x, .ty n] ∧ TyOf X.K H x t ∧ PySem.W.kitOne X.K t (.type n) = some b ∧ Q (.bl b) H) := by
  intro pins s σ H xs us Q I r h
  obtain ⟨x, n, t, b, rfl, ty, e, q⟩ := h
  obtain ⟨u, v, rfl, rx, ry⟩ := r.two
  cases (show v = Value.type n from ry)
  exact isinst_ok I rx ty e fun tk => ⟨.bl b, H, I.tok tk, rfl, q⟩

def eqsV : List V → List V → Bool
  | [], [] => true
  | x :: xs, y :: ys => eqV x y && eqsV xs ys
  | _, _ => false
theorem eqsV_range : ∀ (xs ys : List V), xs.length = ys.length → ((List.range xs.length).all fun i => eqV (xs.getD i .non) (ys.getD i .non)) = eqsV xs ys
  | [], [], _ => rfl
  | x :: xs, y :: ys, h => by
    have h' : xs.length = ys.length := by simpa using h
    rw [List.length_cons, List.range_succ_eq_map, List.all_cons, List.all_map]
    have e := eqsV_range xs ys h'
    show (eqV x y && (List.range xs.length).all fun i => eqV (xs.getD i .non) (ys.getD i .non)) = (eqV x y && eqsV xs ys)
    rw [e]
theorem eqsV_len : ∀ (xs ys : List V), xs.length ≠ ys.length → eqsV xs ys = false
  | [], [], h => absurd rfl h
  | [], _ :: _, _ => rfl
  | _ :: _, [], _ => rfl
  | x :: xs, y :: ys, h => by
    have e := eqsV_len xs ys (by simpa using h)
    show (eqV x y && eqsV xs ys) = false
    rw [e, Bool.and_false]
theorem items_eqAt {A : Around} {s : Shared} {xs ys : List V} {us ws : List Value} (rx : Vals xs us) (ry : Vals ys ws) (fx : xs.all flatV = true) (fy : ys.all flatV = true) :
    ∀ j (h1 : j < us.toArray.size) (h2 : j < ws.toArray.size), SeqAt.EqAt A.in1 s us.toArray[j] ws.toArray[j] (eqV (xs.getD j .non) (ys.getD j .non)) := by
  intro j h1 h2
  have l1 := rx.length
  have l2 := ry.length
  have h1' : j < xs.length := by rw [l1]; simpa using h1
  have h2' : j < ys.length := by rw [l2]; simpa using h2
  obtain ⟨u, eu, ru⟩ := rx.get (i := j) (x := xs[j]) (by simp [h1'])
  obtain ⟨v, ev, rv⟩ := ry.get (i := j) (x := ys[j]) (by simp [h2'])
  have e1 : us.toArray[j] = u := by
    have := List.getElem?_eq_some_iff.mp eu
    obtain ⟨_, q⟩ := this
    simpa using q
  have e2 : ws.toArray[j] = v := by
    have := List.getElem?_eq_some_iff.mp ev
    obtain ⟨_, q⟩ := this
    simpa using q
  have d1 : xs.getD j .non = xs[j] := by simp [List.getD, h1']
  have d2 : ys.getD j .non = ys[j] := by simp [List.getD, h2']
  rw [e1, e2, d1, d2]
  exact eqAt_V ru rv (List.all_eq_true.mp fx _ (List.getElem_mem h1')) (List.all_eq_true.mp fy _ (List.getElem_mem h2'))
def rEqL (K : PySem.W.Frag) : R2 := fun x y H Q => ∃ a b xs ys, x = .ref a ∧ y = .ref b ∧ SqL K H a xs ∧ SqL K H b ys ∧ xs.all flatV = true ∧ ys.all flatV = true ∧ Q (.bl (eqsV xs ys)) H
theorem op_eqL (hu : X.A.units < cLine) : OpR X (compareOp .Eq) (rEqL X.K) := by
  intro pins s σ H x y v u Q I rx ry h
  obtain ⟨a, b, xs, ys, rfl, rfl, ha, hb, fx, fy, q⟩ := h
  cases rx
  cases ry
  obtain ⟨us, ru, pu, _⟩ := I.list ha
  obtain ⟨ws, rw', pw, _⟩ := I.list hb
  have l1 := ru.length
  have l2 := rw'.length
  by_cases hl : xs.length = ys.length
  · refine SeqAt.eq_listAt pu.isList pw.isList (by simp; omega) hu (items_eqAt ru rw' fx fy) ?_
    refine fin_bl I q ?_
    rw [List.size_toArray, ← l1]
    exact (eqsV_range xs ys hl).symm
  · refine SeqAt.eq_list_lengthsAt pu.isList pw.isList (by simp; omega) hu ?_
    exact fin_bl I q (eqsV_len xs ys hl)
theorem atI_int {xs : List V} {i : Int} {v : V} (h0 : 0 ≤ i) (h : xs[i.toNat]? = some v) : atI xs i = some v := by
  have e : i = ((i.toNat : Nat) : Int) := by omega
  rw [e]
  exact atI_nat h
theorem Same.upd_free {H H' : Hp} {a : Addr} {o : HO} (s : Same H H') (n : H a = none) : Same H (upd H' a o) := fun b u e => by
  rw [upd_ne (ne_of_none e n)]
  exact s b u e

def tCut (t : TS) : TS := fun D σ H => ∃ M : St → Hp → Prop, t { D with nx := M } σ H ∧ ∀ σ' H', M σ' H' → D.nx σ' H'
theorem ps_cut {st : Stmt} {t : TS} (h : PS X st t) : PS X st (tCut t) := by
  intro pins s σ H D I ⟨M, h1, h2⟩
  refine thn (h pins s σ H _ I h1) fun f s' q => ?_
  cases f with
  | next =>
    obtain ⟨σ', H', I', m⟩ := q
    exact ⟨σ', H', I', h2 _ _ m⟩
  | brk => exact q
  | cont => exact q
  | ret u => exact q
end
end L2
namespace L2
open PySem PySem.Spec PyProof.Rows


section
variable {κ : Type} [DecidableEq κ]
def valV (kvs : List (κ × V)) (k : κ) : Option V := (kvs.find? fun kv => decide (kv.1 = k)).map (·.2)

def putK (kvs : List (κ × V)) (k : κ) (v : V) : List (κ × V) :=
  if (kvs.any fun kv => decide (kv.1 = k)) = true then kvs.map (fun kv => if kv.1 = k then (kv.1, v) else kv) else kvs ++ [(k, v)]
theorem valV_pos {p : κ × V} {r : List (κ × V)} {k : κ} (e : p.1 = k) : valV (p :: r) k = some p.2 := by simp [valV, List.find?_cons, e]
theorem valV_neg {p : κ × V} {r : List (κ × V)} {k : κ} (e : ¬ p.1 = k) : valV (p :: r) k = valV r k := by simp [valV, List.find?_cons, e]
theorem valV_any (k : κ) : ∀ kvs : List (κ × V), (kvs.any fun kv => decide (kv.1 = k)) = (valV kvs k).isSome
  | [] => rfl
  | p :: r => by
    rw [List.any_cons]
    by_cases e : p.1 = k
    · simp only [valV_pos e, decide_eq_true e, Bool.true_or, Option.isSome_some]
    · rw [valV_neg e, decide_eq_false e, Bool.false_or]; exact valV_any k r
theorem length_putK (kvs : List (κ × V)) (k : κ) (v : V) : (putK kvs k v).length ≤ kvs.length + 1 := by
  unfold putK
  split
  · rw [List.length_map]; omega
  · rw [List.length_append, List.length_cons, List.length_nil]; omega
theorem putK_new {kvs : List (κ × V)} {k : κ} (v : V) (h : valV kvs k = none) : putK kvs k v = kvs ++ [(k, v)] := by
  unfold putK
  rw [valV_any, h]
  exact if_neg (by decide)

theorem RelO.isSome_eq {o : Option V} {u : Option Value} (r : RelO o u) : o.isSome = u.isSome := by
  cases o with
  | none => cases u with
    | none => rfl
    | some _ => exact (show False from r).elim
  | some _ => cases u with
    | none => exact (show False from r).elim
    | some _ => rfl
theorem KV.val {kvs : List (κ × V)} {vs : List (κ × Value)} (r : KV kvs vs) (k : κ) : RelO (valV kvs k) (valueAt vs k) := by
  unfold KV at r
  induction r with
  | nil => exact True.intro
  | @cons p q ps qs h t ih =>
    obtain ⟨h1, h2⟩ := h
    by_cases e : p.1 = k
    · have e' : q.1 = k := h1.symm.trans e
      have b : valueAt (q :: qs) k = some q.2 := by simp [valueAt, List.find?_cons, e']
      rw [valV_pos e, b]; exact h2
    · have e' : ¬ q.1 = k := fun z => e (h1.trans z)
      have b : valueAt (q :: qs) k = valueAt qs k := by simp [valueAt, List.find?_cons, e']
      rw [valV_neg e, b]; exact ih
theorem KV.any {kvs : List (κ × V)} {vs : List (κ × Value)} (r : KV kvs vs) (k : κ) : (kvs.any fun kv => decide (kv.1 = k)) = vs.any fun kv => decide (kv.1 = k) := by
  unfold KV at r
  induction r with
  | nil => rfl
  | cons h t ih => rw [List.any_cons, List.any_cons, ih, h.1]
theorem KV.repl {kvs : List (κ × V)} {vs : List (κ × Value)} (r : KV kvs vs) (k : κ) {y : V} {u : Value} (ry : RelV y u) :
    KV (kvs.map fun kv => if kv.1 = k then (kv.1, y) else kv) (vs.map fun kv => if kv.1 = k then (kv.1, u) else kv) := by
  unfold KV at r ⊢
  induction r with
  | nil => exact .nil
  | @cons p q ps qs h t ih =>
    rw [List.map_cons, List.map_cons]
    refine .cons ?_ ih
    obtain ⟨h1, h2⟩ := h
    by_cases e : p.1 = k
    · rw [if_pos e, if_pos (h1.symm.trans e)]; exact ⟨h1, ry⟩
    · rw [if_neg e, if_neg (fun z => e (h1.trans z))]; exact ⟨h1, h2⟩
theorem KV.put {kvs : List (κ × V)} {vs : List (κ × Value)} (r : KV kvs vs) (k : κ) {y : V} {u : Value} (ry : RelV y u) : KV (putK kvs k y) (stored vs k u) := by
  unfold putK stored
  rw [r.any k]
  by_cases e : (vs.any fun kv => decide (kv.1 = k)) = true
  · rw [if_pos e, if_pos e]; exact r.repl k ry
  · rw [if_neg e, if_neg e]; exact Paired.snoc r ⟨rfl, ry⟩
theorem KV.length {kvs : List (κ × V)} {vs : List (κ × Value)} (r : KV kvs vs) : kvs.length = vs.length := Paired.length r
end



theorem kV_is {P : Program} {w : World} {k : Key} {u : Value} (r : RelV (kV k) u) : (mixKind P w).is k u = true := by
  cases k with
  | inl i => obtain ⟨t, e⟩ := (show ∃ t, u = Value.int i t from r); subst e; exact mixKind_int P w i t
  | inr x => obtain ⟨t, e⟩ := (show ∃ t, u = Value.str x t from r); subst e; exact mixKind_str P w x t
theorem items_are {P : Program} {w : World} : ∀ {ks : List Key} {us : List Value}, Vals (ks.map kV) us → ItemsAre (mixKind P w) ks us
  | [], _, r => by rw [List.map_nil] at r; cases r; exact .nil
  | k :: ks, _, r => by
    rw [List.map_cons] at r
    cases r with
    | cons h t => exact .cons (kV_is h) (items_are t)


abbrev KT (H : Hp) : List (List Key × V) → List (List Key × Addr × Value) → Prop := Paired fun p q => p.1 = q.1 ∧ H q.2.1 = some (.tup (p.1.map kV)) ∧ RelV p.2 q.2.2
theorem KT.val {H : Hp} {kvs : List (List Key × V)} {xs : List (List Key × Addr × Value)} (r : KT H kvs xs) (k : List Key) : RelO (valV kvs k) ((atKey xs k).map (·.2)) := by
  induction r with
  | nil => exact True.intro
  | @cons p q ps qs h t ih =>
    obtain ⟨h1, _, h2⟩ := h
    by_cases e : p.1 = k
    · have e' : q.1 = k := h1.symm.trans e
      have b : atKey (q :: qs) k = some q.2 := by simp [atKey, List.find?_cons, e']
      rw [valV_pos e, b]; exact h2
    · have e' : ¬ q.1 = k := fun z => e (h1.trans z)
      have b : atKey (q :: qs) k = atKey qs k := by simp [atKey, List.find?_cons, e']
      rw [valV_neg e, b]; exact ih
theorem KT.repl {H : Hp} {kvs : List (List Key × V)} {xs : List (List Key × Addr × Value)} (r : KT H kvs xs) (k : List Key) {y : V} {u : Value} (ry : RelV y u) :
    KT H (kvs.map fun kv => if kv.1 = k then (kv.1, y) else kv) (xs.map (putAt k u)) := by
  induction r with
  | nil => exact .nil
  | @cons p q ps qs h t ih =>
    rw [List.map_cons, List.map_cons]
    refine .cons ?_ ih
    obtain ⟨h1, h2, h3⟩ := h
    unfold putAt
    by_cases e : p.1 = k
    · rw [if_pos e, if_pos (h1.symm.trans e)]; exact ⟨h1, h2, ry⟩
    · rw [if_neg e, if_neg (fun z => e (h1.trans z))]; exact ⟨h1, h2, h3⟩
theorem KT.put {H : Hp} {kvs : List (List Key × V)} {xs : List (List Key × Addr × Value)} (r : KT H kvs xs) (k : List Key) {b : Addr} {y : V} {u : Value} (hb : H b = some (.tup (k.map kV))) (ry : RelV y u) :
    KT H (putK kvs k y) (storedH xs k b u) := by
  have e : (kvs.any fun kv => decide (kv.1 = k)) = (atKey xs k).isSome := by
    rw [valV_any, (r.val k).isSome_eq, Option.isSome_map]
  unfold putK storedH
  rw [e]
  by_cases q : (atKey xs k).isSome = true
  · rw [if_pos q, if_pos q]; exact r.repl k ry
  · rw [if_neg q, if_neg q]; exact Paired.snoc r ⟨rfl, hb, ry⟩
theorem KT.keeps {H H' : Hp} {kvs : List (List Key × V)} {xs : List (List Key × Addr × Value)} (r : KT H kvs xs) (ht : ∀ b ys, H b = some (.tup ys) → H' b = some (.tup ys)) : KT H' kvs xs :=
  Paired.mapP r fun _ _ z => ⟨z.1, ht _ _ z.2.1, z.2.2⟩

section
variable {P : Program} {w : World} {H : Hp} {h : Heap} {a : Addr}
theorem rd_of {u : HO} (ok : HOk P w H h) (e : Rd H a u) : ObjOk P w H h a u := e.ok ok
theorem dk_rd {kvs : List (Key × V)} (ok : HOk P w H h) (e : Rd H a (.dK kvs)) : kvs.length ≤ sizeLine ∧ (a == sysModules) = false ∧ ∃ vs, KV kvs vs ∧ h.DictOf (mixKind P w) a vs :=
  show ObjOk P w H h a (.dK kvs) from rd_of ok e
theorem dk_of {kvs : List (Key × V)} (ok : HOk P w H h) (e : H a = some (.dK kvs)) : kvs.length ≤ sizeLine ∧ (a == sysModules) = false ∧ ∃ vs, KV kvs vs ∧ h.DictOf (mixKind P w) a vs := dk_rd ok (.inl e)

theorem key_of {ks : List Key} (ok : HOk P w H h) (e : H a = some (.tup (ks.map kV))) : (tupleKind (mixKind P w)).is h ks a := by
  obtain ⟨_, its, r, o, h1, h2, n, h3⟩ := (show ObjOk P w H h a (.tup (ks.map kV)) from ok a _ e)
  exact ⟨o, its.toArray, n, h1, h2, h3, by simpa using items_are r⟩
theorem dt_rd {kvs : List (List Key × V)} (ok : HOk P w H h) (e : Rd H a (.dT kvs)) : kvs.length ≤ sizeLine ∧ (a == sysModules) = false ∧
    ∃ xs, KT H kvs xs ∧ h.DictOfH (tupleKind (mixKind P w)) a xs := by
  obtain ⟨z, y, xs, r, o, es, ep, h1, h2, h3, h4, h5⟩ := (show ObjOk P w H h a (.dT kvs) from rd_of ok e)
  refine ⟨z, y, xs, r, o, es, ep, h1, h2, h3, h4, fun x hx => ?_, h5⟩
  have all : ∀ {l : List (List Key × V)} {m : List (List Key × Addr × Value)}, KT H l m → ∀ x ∈ m, (tupleKind (mixKind P w)).is h x.1 x.2.1 := by
    intro l m q
    induction q with
    | nil => intro x hx; exact nomatch hx
    | @cons p q ps qs hq t ih =>
      intro x hx
      rcases List.mem_cons.mp hx with e | hx
      · subst e
        exact key_of ok (by rw [← hq.1]; exact hq.2.1)
      · exact ih x hx
  exact all r x hx
theorem dt_of {kvs : List (List Key × V)} (ok : HOk P w H h) (e : H a = some (.dT kvs)) : kvs.length ≤ sizeLine ∧ (a == sysModules) = false ∧
    ∃ xs, KT H kvs xs ∧ h.DictOfH (tupleKind (mixKind P w)) a xs := dt_rd ok (.inl e)
end


def DGet (H : Hp) (a : Addr) (y : V) (r : Option V) : Prop :=
  (∃ kvs k, Rd H a (.dK kvs) ∧ y = kV k ∧ r = valV kvs k) ∨ ∃ kvs k b, Rd H a (.dT kvs) ∧ y = .ref b ∧ H b = some (.tup (k.map kV)) ∧ r = valV kvs k

def DPut (H : Hp) (a : Addr) (y v : V) (H' : Hp) : Prop :=
  (∃ kvs k, H a = some (.dK kvs) ∧ y = kV k ∧ kvs.length < sizeLine ∧ H' = upd H a (.dK (putK kvs k v))) ∨
  ∃ kvs k b, H a = some (.dT kvs) ∧ y = .ref b ∧ H b = some (.tup (k.map kV)) ∧ kvs.length < sizeLine ∧ H' = upd H a (.dT (putK kvs k v))
theorem DGet.k {H : Hp} {a : Addr} {kvs : List (Key × V)} {k : Key} (e : H a = some (.dK kvs)) : DGet H a (kV k) (valV kvs k) := .inl ⟨kvs, k, .inl e, rfl, rfl⟩
theorem DPut.k {H : Hp} {a : Addr} {kvs : List (Key × V)} {k : Key} {v : V} (e : H a = some (.dK kvs)) (hl : kvs.length < sizeLine) : DPut H a (kV k) v (upd H a (.dK (putK kvs k v))) := .inl ⟨kvs, k, e, rfl, hl, rfl⟩
section
variable {X : Cx} {pins : List (Addr × Obj)} {σ : St} {H : Hp} {s : Shared} {a : Addr} {y v : V} {u r : Value} {o : Option V} {A : Around} {E : Value → Shared → Prop}

theorem Inv.big (I : Inv X pins σ H s) : sysModules < s.heap.objs.size := by
  have h : mainGlobals < s.heap.objs.size := (I.mod.glob.keeps I.bk).lt
  exact Nat.lt_trans (by decide) h


theorem d_getItem {Q : Value → Shared → Prop} (hu : A.units + 1 < cLine) (I : Inv X pins σ H s) (g : DGet H a y (some v)) (ry : RelV y u) (h : ∀ w' s', Inv X pins σ H s' → RelV v w' → Q w' s') :
    wpAny (model X.prog X.w) A (getItem (.ref a) u) Q E s := by
  rcases g with ⟨kvs, k, e, ey, l⟩ | ⟨kvs, k, b, e, ey, eb, l⟩
  · subst ey
    obtain ⟨z, hd, vs, rel, dd⟩ := dk_rd I.hok e
    obtain ⟨w', hw, rw'⟩ := RelO.some_of (v := v) (o := valueAt vs k) (by rw [l]; exact rel.val k)
    exact wpAny_getItem_of (kV_is ry) dd.mapOf hw (h w' _ (I.tok _) rw')
  · subst ey
    cases (show u = Value.ref b from ry)
    obtain ⟨z, hd, xs, rel, dd⟩ := dt_rd I.hok e
    obtain ⟨w', hw, rw'⟩ := RelO.some_of (v := v) (o := (atKey xs k).map (·.2)) (by rw [l]; exact rel.val k)
    obtain ⟨p, hp, hp2⟩ := Option.map_eq_some_iff.mp hw
    refine wpAny_getItem_heap (tupleKind_room_in1 hu) (key_of I.hok eb) dd hp ?_
    rw [hp2]
    exact h w' _ (I.tok _) rw'

theorem d_in {Q : Value → Shared → Prop} (hu : A.units + 1 < cLine) (I : Inv X pins σ H s) (g : DGet H a y o) (ry : RelV y u) (h : ∀ s', Inv X pins σ H s' → Q (.bool o.isSome) s') :
    wpAny (model X.prog X.w) A (compareOp .In u (.ref a)) Q E s := by
  rcases g with ⟨kvs, k, e, ey, l⟩ | ⟨kvs, k, b, e, ey, eb, l⟩
  · subst ey
    obtain ⟨z, hd, vs, rel, dd⟩ := dk_rd I.hok e
    refine wpAny_in_of (kV_is ry) hd dd.mapOf ?_
    rw [← (rel.val k).isSome_eq, ← l]
    exact h _ (I.tok _)
  · subst ey
    cases (show u = Value.ref b from ry)
    obtain ⟨z, hd, xs, rel, dd⟩ := dt_rd I.hok e
    refine wpAny_in_heap (tupleKind_room_in1 hu) (key_of I.hok eb) hd dd ?_
    have q := (rel.val k).isSome_eq
    rw [Option.isSome_map] at q
    rw [← q, ← l]
    exact h _ (I.tok _)
theorem d_notIn {Q : Value → Shared → Prop} (hu : A.units + 1 < cLine) (I : Inv X pins σ H s) (g : DGet H a y o) (ry : RelV y u) (h : ∀ s', Inv X pins σ H s' → Q (.bool (!o.isSome)) s') :
    wpAny (model X.prog X.w) A (compareOp .NotIn u (.ref a)) Q E s := by
  rcases g with ⟨kvs, k, e, ey, l⟩ | ⟨kvs, k, b, e, ey, eb, l⟩
  · subst ey
    obtain ⟨z, hd, vs, rel, dd⟩ := dk_rd I.hok e
    refine wpAny_notIn_of (kV_is ry) hd dd.mapOf ?_
    rw [← (rel.val k).isSome_eq, ← l]
    exact h _ (I.tok _)
  · subst ey
    cases (show u = Value.ref b from ry)
    obtain ⟨z, hd, xs, rel, dd⟩ := dt_rd I.hok e
    refine wpAny_notIn_heap (tupleKind_room_in1 hu) (key_of I.hok eb) hd dd ?_
    have q := (rel.val k).isSome_eq
    rw [Option.isSome_map] at q
    rw [← q, ← l]
    exact h _ (I.tok _)

theorem d_write {h' : Heap} {t' : Nat} {ob : HO} (I : Inv X pins σ H s) (mu : Mut (H a)) (hs : Heap.SameBut a s.heap h') (he : ∃ q, h'.get? a = some q) (new : ObjOk X.prog X.w (upd H a ob) h' a ob) :
    Inv X pins σ (upd H a ob) { s with heap := h', toks := t' } :=
  I.write (x := a) (e := a) mu (.inl rfl) (fun b q hb z => (hs.2 b hb).trans z) he new
theorem dk_new {P : Program} {w : World} {H' : Hp} {h' : Heap} {kvs : List (Key × V)} {vs : List (Key × Value)} (z : kvs.length ≤ sizeLine) (hd : (a == sysModules) = false) (rel : KV kvs vs) (dd : h'.DictOf (mixKind P w) a vs) :
    ObjOk P w H' h' a (.dK kvs) := ⟨z, hd, vs, rel, dd⟩

theorem d_setItem {H' : Hp} {Q : Unit → Shared → Prop} (hu : A.units + 1 < cLine) (I : Inv X pins σ H s) (g : DPut H a y v H') (ry : RelV y u) (rv : RelV v r) (h : ∀ s', Inv X pins σ H' s' → Q () s') :
    wpAny (model X.prog X.w) A (setItem (.ref a) u r) Q E s := by
  rcases g with ⟨kvs, k, e, ey, l, eH⟩ | ⟨kvs, k, b, e, ey, eb, l, eH⟩
  · subst ey eH
    obtain ⟨z, hd, vs, rel, dd⟩ := dk_of I.hok e
    have hz : vs.length ≤ sizeLine := by rw [← rel.length]; exact z
    have hl : (putK kvs k v).length ≤ sizeLine := by have := length_putK kvs k v; omega
    refine wpAny_setItem_pairs (hsz := hz) (kV_is ry) dd fun h' dd' hs => h _ ?_
    have he : ∃ q, h'.get? a = some q := let ⟨q, _, _, hq, _⟩ := dd'; ⟨q, hq⟩
    exact d_write I (by rw [e]; exact True.intro) hs he (dk_new hl hd (rel.put k rv) dd')
  · subst ey eH
    cases (show u = Value.ref b from ry)
    obtain ⟨z, hd, xs, rel, dd⟩ := dt_of I.hok e
    have hz : xs.length ≤ sizeLine := by rw [← Paired.length rel]; exact z
    have hl : (putK kvs k v).length ≤ sizeLine := by have := length_putK kvs k v; omega
    refine wpAny_setItem_heap (hsz := hz) (tupleKind_room_in1 hu) (key_of I.hok eb) dd fun h' dd' hs => h _ ?_
    obtain ⟨q, es, ep, hq, h2, h3, h4, _, h5⟩ := dd'
    refine d_write I (by rw [e]; exact True.intro) hs ⟨q, hq⟩ ⟨hl, hd, _, (rel.put k eb rv).keeps fun c ys ec => ?_, q, es, ep, hq, h2, h3, h4, h5⟩
    rw [upd_ne (ne_of ec e (fun z => nomatch z))]
    exact ec
end

section
variable {X : Cx} {pins : List (Addr × Obj)} {σ : St} {H : Hp} {s : Shared} {a : Addr} {kvs : List (Key × V)} {k : Key} {u : Value} {A : Around} {E : Value → Shared → Prop}

theorem d_len {Q : Value → Shared → Prop} (I : Inv X pins σ H s) (e : Rd H a (.dK kvs)) (h : ∀ t s', Inv X pins σ H s' → Q (.int kvs.length t) s') : wpAny (model X.prog X.w) A (call (.builtin "len") [.ref a]) Q E s := by
  obtain ⟨z, hd, vs, rel, dd⟩ := dk_rd I.hok e
  refine call_len_dict hd dd (by rw [← rel.length]; rw [sizeLine_eq] at z; omega) ?_
  rw [← rel.length]
  exact h _ _ (I.tok _)

end




def NoSl (i : Expr) : Prop := ∀ ov iv, subscripted i false ov iv = operate [ov, iv] (getItem ov iv)
theorem subD_of {prog : Program} {w : World} {A : Around} {E : Value → Shared → Prop} {s : Shared} {env : Env} {value slice : Expr} {pos : Pos} {T id : String} {Q : Value → Shared → Prop}
    (hl : typeLookup (.type T) "__getitem__" = pure (some (.builtin id))) (hs : NoSl slice)
    (h : wpAny (model prog w) A (eval value env) (fun o s₁ => wpAny (model prog w) A (eval slice env) (fun i s₂ => s₂.TypeIs o T ∧ wpAny (model prog w) A (getItem o i) Q E s₂) E s₁) E s) :
    wpAny (model prog w) A (eval (.Subscript value slice pos) env) Q E s := by
  refine Subscript_ (wpAny_mono h (fun o s₁ h₁ => wpAny_mono h₁ (fun i s₂ h₂ => ?_) fun _ _ x => x) fun _ _ x => x)
  obtain ⟨hT, h₂⟩ := h₂
  unfold subscriptTail
  refine wpAny_bind ?_
  rw [getitemInPython_of_ne hT.not_modules]
  refine wpAny_bind (wpAny_specialOf hT hl ?_)
  have fin : wpAny (model prog w) A (subscripted slice false o i) (fun r s₃ => wpAny (model prog w) A (letTemporaryGo value o r >>= fun _ => pure r) Q E s₃) E s₂ := by
    rw [hs o i]
    exact wpAny_operating (wpAny_mono h₂ (fun r s₃ h₃ => wpAny_bind (wpAny_letTemporaryGo (wpAny_pure h₃))) fun _ _ x => x)
  first
    | exact wpAny_pure (wpAny_bind fin)
    | exact wpAny_bind (wpAny_pure (wpAny_bind fin))
    | exact wpAny_bind fin

theorem dict_typeIs {X : Cx} {pins : List (Addr × Obj)} {σ : St} {H : Hp} {s : Shared} {a : Addr} {y : V} {o : Option V} (I : Inv X pins σ H s) (g : DGet H a y o) : s.TypeIs (.ref a) "dict" := by
  rcases g with ⟨kvs, k, e, _, _⟩ | ⟨kvs, k, b, e, _, _, _⟩
  · obtain ⟨_, _, vs, _, dd⟩ := dk_rd I.hok e
    exact dd.typeIs
  · obtain ⟨_, _, xs, _, dd⟩ := dt_rd I.hok e
    exact dd.typeIs
def tDGet (td ty : TE) : TE := fun σ H Q => td σ H fun x H1 => ty σ H1 fun y H2 => ∃ a v, x = .ref a ∧ DGet H2 a y (some v) ∧ Q v H2

def tDIn (ty td : TE) : TE := fun σ H Q => ty σ H fun y H1 => td σ H1 fun x H2 => ∃ a o, x = .ref a ∧ DGet H2 a y o ∧ Q (.bl o.isSome) H2
def tDNotIn (ty td : TE) : TE := fun σ H Q => ty σ H fun y H1 => td σ H1 fun x H2 => ∃ a o, x = .ref a ∧ DGet H2 a y o ∧ Q (.bl (!o.isSome)) H2

def sDPut (td ty tv : TE) : TS := fun D σ H => tv σ H fun v H1 => td σ H1 fun x H2 => ty σ H2 fun y H3 => ∃ a H4, x = .ref a ∧ DPut H3 a y v H4 ∧ D.nx σ H4

section
variable {X : Cx} {o i e value : Expr} {pos pos' tpos : Pos} {td ty tv : TE}
theorem pe_dget (hu : X.A.units + 1 < cLine) (ho : PE X o td) (hi : PE X i ty) (hs : NoSl i) : PE X (.Subscript o i pos) (tDGet td ty) := by
  intro pins s σ H Q I h
  refine subD_of PySem.F.slot_dict_getitem.lookup hs (thn (ho pins s σ H _ I h) fun u s1 ⟨x, H1, I1, rx, q1⟩ => thn (hi pins s1 σ H1 _ I1 q1) fun iv s2 ⟨y, H2, I2, ry, a, v, ex, g, q2⟩ => ?_)
  subst ex
  obtain rfl : u = Value.ref a := rx
  exact ⟨dict_typeIs I2 g, d_getItem hu I2 g ry fun w' s3 I3 rw' => ⟨v, H2, I3, rw', q2⟩⟩
theorem pc_din (hu : X.A.units + 1 < cLine) (hi : PE X i ty) (ho : PE X o td) : PC X .In i o (tDIn ty td) := by
  intro pins s σ H Q I h
  refine thn (hi pins s σ H _ I h) fun iv s1 ⟨y, H1, I1, ry, q1⟩ => thn (ho pins s1 σ H1 _ I1 q1) fun u s2 ⟨x, H2, I2, rx, a, ov, ex, g, q2⟩ => ?_
  subst ex
  obtain rfl : u = Value.ref a := rx
  exact d_in hu I2 g ry fun s3 I3 => ⟨.bl ov.isSome, H2, I3, rfl, q2⟩
theorem pc_dnotin (hu : X.A.units + 1 < cLine) (hi : PE X i ty) (ho : PE X o td) : PC X .NotIn i o (tDNotIn ty td) := by
  intro pins s σ H Q I h
  refine thn (hi pins s σ H _ I h) fun iv s1 ⟨y, H1, I1, ry, q1⟩ => thn (ho pins s1 σ H1 _ I1 q1) fun u s2 ⟨x, H2, I2, rx, a, ov, ex, g, q2⟩ => ?_
  subst ex
  obtain rfl : u = Value.ref a := rx
  exact d_notIn hu I2 g ry fun s3 I3 => ⟨.bl (!ov.isSome), H2, I3, rfl, q2⟩
theorem ps_dput (hu : X.A.units + 1 < cLine) (ho : PE X o td) (hi : PE X i ty) (hv : PE X value tv) (hs : swapsWith value (some (.Subscript o i pos')) pos.line X.env = pure false) :
    PS X (.Assign [.Subscript o i pos'] value pos) (sDPut td ty tv) := by
  intro pins s σ H D I h
  refine wpAny_Assign_Subscript (thn (hv pins s σ H _ I h) fun r s1 ⟨v, H1, I1, rv, q1⟩ => thn (ho pins s1 σ H1 _ I1 q1) fun u s2 ⟨x, H2, I2, rx, q2⟩ => thn (hi pins s2 σ H2 _ I2 q2) fun iv s3 ⟨y, H3, I3, ry, a, H4, ex, g, q3⟩ => ?_) hs
  subst ex
  obtain rfl : u = Value.ref a := rx
  exact d_setItem hu I3 g ry rv fun s4 I4 => ⟨σ, H4, I4, q3⟩
end



theorem dk_empty {P : Program} {w : World} {H : Hp} (h : Heap) (hb : sysModules < h.objs.size) : ObjOk P w H (h.push { cls := .type "dict", data := .dict #[] }) h.objs.size (.dK []) :=
  ⟨Nat.zero_le _, beq_eq_false_iff_ne.mpr (Ne.symm (Nat.ne_of_lt hb)), [], .nil, Heap.DictOf.new h⟩
def tDNewK : TE := fun _ H Q => ∀ p, H p = none → Q (.ref p) (upd H p (.dK []))
section
variable {X : Cx} {pos : Pos}
theorem pe_dnewK : PE X (.Dict [] [] pos) tDNewK := fun pins s σ H Q I h =>
  wpAny_Dict_empty ⟨.ref s.heap.objs.size, _, I.laid (a := s.heap.objs.size) (o := .dK []) (t' := s.toks) (fun _ _ q => Heap.get?_push_of_some _ q) (Nat.le_refl _) (dk_empty s.heap I.big), rfl, h _ (I.hok.fresh (Nat.le_refl _))⟩
end


def tPairs : List (TE × TE) → St → Hp → (List (V × V) → Hp → Prop) → Prop
  | [], _, H, Q => Q [] H
  | (tk, tv) :: r, σ, H, Q => tk σ H fun x H1 => tv σ H1 fun y H2 => tPairs r σ H2 fun ps H3 => Q ((x, y) :: ps) H3
abbrev VV : List (V × V) → List (Value × Value) → Prop := Paired fun p q => RelV p.1 q.1 ∧ RelV p.2 q.2
def PPs (X : Cx) (pos : Pos) (keys : List (Option Expr)) (values : List Expr) (trs : List (TE × TE)) : Prop :=
  ∀ (pins : List (Addr × Obj)) (s : Shared) (σ : St) (H : Hp) (Q : List (V × V) → Hp → Prop), Inv X pins σ H s → tPairs trs σ H Q →
    wpAny (model X.prog X.w) X.A (evalPairs (pairTrees keys values X.env pos)) (fun vs s' => ∃ ps H', Inv X pins σ H' s' ∧ VV ps vs ∧ Q ps H') X.xe s
theorem pps_nil {X : Cx} {pos : Pos} : PPs X pos [] [] [] := fun pins s σ H Q I h => pairTrees_nil_walk ⟨[], H, I, .nil, h⟩
theorem pps_cons {X : Cx} {pos : Pos} {k v : Expr} {ks : List (Option Expr)} {vs : List Expr} {tk tv : TE} {trs : List (TE × TE)} (hk : PE X k tk) (hv : PE X v tv) (hr : PPs X pos ks vs trs) :
    PPs X pos (some k :: ks) (v :: vs) ((tk, tv) :: trs) := fun pins s σ H Q I h =>
  pairTrees_cons_walk (thn (hk pins s σ H _ I h) fun u s1 ⟨x, H1, I1, rx, q1⟩ => thn (hv pins s1 σ H1 _ I1 q1) fun w2 s2 ⟨y, H2, I2, ry, q2⟩ =>
    thn (hr pins s2 σ H2 _ I2 q2) fun ws s3 ⟨ps, H3, I3, rel, q3⟩ => ⟨(x, y) :: ps, H3, I3, .cons ⟨rx, ry⟩ rel, q3⟩)

def mergeK (kvs more : List (Key × V)) : List (Key × V) := more.foldl (fun acc kv => putK acc kv.1 kv.2) kvs
theorem KV.merge : ∀ {more : List (Key × V)} {rs : List (Key × Value)} {kvs : List (Key × V)} {vs : List (Key × Value)}, KV more rs → KV kvs vs → KV (mergeK kvs more) (merged vs rs) := by
  intro more rs kvs vs r
  unfold KV at r
  induction r generalizing kvs vs with
  | nil => intro q; exact q
  | @cons p q ps qs h t ih =>
    intro r0
    have e : KV (putK kvs p.1 p.2) (stored vs q.1 q.2) := by
      have := r0.put p.1 h.2
      rw [← h.1]; exact this
    exact ih e
theorem length_mergeK : ∀ (more kvs : List (Key × V)), (mergeK kvs more).length ≤ kvs.length + more.length
  | [], kvs => by show kvs.length ≤ kvs.length + 0; omega
  | p :: r, kvs => by
    have h1 := length_mergeK r (putK kvs p.1 p.2)
    have h2 := length_putK kvs p.1 p.2
    show (mergeK (putK kvs p.1 p.2) r).length ≤ _
    rw [List.length_cons]; omega
theorem carries_of {P : Program} {w : World} : ∀ {kvs : List (Key × V)} {ws : List (Value × Value)}, VV (kvs.map fun kv => (kV kv.1, kv.2)) ws → ∃ rs, Carries (mixKind P w) ws rs ∧ KV kvs rs
  | [], _, r => by rw [List.map_nil] at r; cases r; exact ⟨[], True.intro, .nil⟩
  | p :: kvs, _, r => by
    rw [List.map_cons] at r
    cases r with
    | @cons a b as bs h t =>
      obtain ⟨rs, c, q⟩ := carries_of (P := P) (w := w) t
      obtain ⟨b1, b2⟩ := b
      exact ⟨(p.1, b2) :: rs, ⟨kV_is h.1, rfl, c⟩, .cons ⟨rfl, h.2⟩ q⟩

def tDisp (trs : List (TE × TE)) : TE := fun σ H Q => ∀ p, H p = none → tPairs trs σ (upd H p (.dK [])) fun ps H2 => H2 p = some (.dK []) ∧ ∃ kvs : List (Key × V), ps = kvs.map (fun kv => (kV kv.1, kv.2)) ∧ kvs.length ≤ 15 ∧ Q (.ref p) (upd H2 p (.dK (mergeK [] kvs)))
theorem pe_disp {X : Cx} {pos : Pos} {keys : List (Option Expr)} {values : List Expr} {trs : List (TE × TE)} (h : PPs X pos keys values trs) (hall : keys.all (·.isSome) = true) (hl : keys.length = values.length) (h0 : keys ≠ [])
    (h15 : keys.length ≤ 15) : PE X (.Dict keys values pos) (tDisp trs) := by
  intro pins s σ H Q I q
  have hn := I.hok.fresh (Nat.le_refl s.heap.objs.size)
  have I1 := I.laid (a := s.heap.objs.size) (o := .dK []) (h' := s.heap.push { cls := .type "dict", data := .dict #[] }) (t' := s.toks) (fun _ _ q => Heap.get?_push_of_some _ q) (Nat.le_refl _) (dk_empty s.heap I.big)
  refine wpAny_Dict_walk (knd := mixKind X.prog X.w) hall hl h0 h15 (thn (h pins _ σ _ _ I1 (q _ hn)) fun ws s2 ⟨ps, H2, I2, rel, e, kvs, ep, lk, q2⟩ => ?_)
  subst ep
  obtain ⟨rs, c, rk⟩ := carries_of (P := X.prog) (w := X.w) rel
  obtain ⟨z, hd, vs0, r0, dd⟩ := dk_of I2.hok e
  cases r0
  refine ⟨rs, c, dd, fun h' dd' hs => ⟨.ref s.heap.objs.size, _, ?_, rfl, q2⟩⟩
  have hz : (mergeK [] kvs).length ≤ sizeLine := by
    have h1 := length_mergeK kvs []
    rw [List.length_nil] at h1
    rw [sizeLine_eq]; omega
  have he : ∃ q, h'.get? s.heap.objs.size = some q := let ⟨q, _, _, hq, _⟩ := dd'; ⟨q, hq⟩
  exact d_write I2 (by rw [e]; exact True.intro) hs he (dk_new hz hd (rk.merge .nil) dd')




structure M1 (X : Cx) (o : Expr) (m : Str) (apos : Pos) (e : Expr) (cpos : Pos) : Prop where
  base : attributeBase o m X.env (eval o X.env) = eval o X.env
  few : ((backTo cpos (starEach [e] X.env)).all (fun x => !x.1) && (backToKw cpos (keywordEach [] X.env)).all (fun x => x.1.isSome)
    && decide (([e] : List Expr).length + ([] : List Keyword).length + (if ([] : List Keyword).isEmpty then 0 else 1) < 30)) = true
  line : (apos.endLine == cpos.line) = true
  trees : backTo cpos (starEach [e] X.env) = [(false, eval e X.env)]
structure M2 (X : Cx) (o : Expr) (m : Str) (apos : Pos) (e f : Expr) (cpos : Pos) : Prop where
  base : attributeBase o m X.env (eval o X.env) = eval o X.env
  few : ((backTo cpos (starEach [e, f] X.env)).all (fun x => !x.1) && (backToKw cpos (keywordEach [] X.env)).all (fun x => x.1.isSome)
    && decide (([e, f] : List Expr).length + ([] : List Keyword).length + (if ([] : List Keyword).isEmpty then 0 else 1) < 30)) = true
  line : (apos.endLine == cpos.line) = true
  trees : backTo cpos (starEach [e, f] X.env) = [(false, eval e X.env), (false, eval f X.env)]


section
variable {X : Cx} {pins : List (Addr × Obj)} {σ : St} {H : Hp} {s : Shared} {a : Addr} {y d : V} {u r : Value} {o : Option V} {A : Around} {E : Value → Shared → Prop}

end

section
variable {X : Cx} {o e f : Expr} {apos cpos : Pos} {td ty tx : TE}
end


section
variable {X : Cx} {pins : List (Addr × Obj)} {σ : St} {H : Hp} {s : Shared} {a : Addr} {kvs : List (Key × V)} {A : Around} {E : Value → Shared → Prop}
end


section
variable {X : Cx} {pins : List (Addr × Obj)} {σ : St} {H : Hp} {s : Shared} {a : Addr} {y : V} {u : Value} {A : Around} {E : Value → Shared → Prop}

end
end L2
namespace L2
open PySem PySem.Spec PyProof.Rows

mutual
inductive DAt (K : PySem.W.Frag) (H : Hp) : V → PyData → Prop
  | non : DAt K H .non .none
  | bl (b : Bool) : DAt K H (.bl b) (.bool b)
  | int (i : Int) : DAt K H (.int i) (.int i)
  | str (x : Str) : DAt K H (.str x) (.str x)
  | lst {a : Addr} {xs : List V} {ds : List PyData} : SqL K H a xs → DsAt K H xs ds → DAt K H (.ref a) (.list ds)
  | tup {a : Addr} {xs : List V} {ds : List PyData} : SqT K H a xs → DsAt K H xs ds → DAt K H (.ref a) (.tuple ds)
inductive DsAt (K : PySem.W.Frag) (H : Hp) : List V → List PyData → Prop
  | nil : DsAt K H [] []
  | cons {x : V} {d : PyData} {xs : List V} {ds : List PyData} : DAt K H x d → DsAt K H xs ds → DsAt K H (x :: xs) (d :: ds)
end
section
variable {X : Cx} {pins : List (Addr × Obj)} {σ : St} {H : Hp} {s : Shared}
mutual
theorem DAt.reads (I : Inv X pins σ H s) : ∀ {x : V} {d : PyData} {u : Value}, DAt X.K H x d → RelV x u → ∃ as, Reads s.heap u d as
  | _, _, _, .non, r => by
    cases r
    exact ⟨_, .none⟩
  | _, _, _, .bl b, r => by
    cases r
    exact ⟨_, .bool b⟩
  | _, _, _, .int i, r => by
    obtain ⟨t, rfl⟩ := r
    exact ⟨_, .int i t⟩
  | _, _, _, .str x, r => by
    obtain ⟨t, rfl⟩ := r
    exact ⟨_, .str x t⟩
  | _, _, _, .lst hq ds, r => by
    cases r
    obtain ⟨its, rv, p, _⟩ := I.list hq
    obtain ⟨as, ra⟩ := DsAt.reads I ds rv
    obtain ⟨o, h1, h2, n, h3⟩ := p.isList
    exact ⟨_, .list h1 h2 h3 (by simpa using ra)⟩
  | _, _, _, .tup hq ds, r => by
    cases r
    obtain ⟨its, rv, p, _⟩ := I.tuple hq
    obtain ⟨as, ra⟩ := DsAt.reads I ds rv
    obtain ⟨o, h1, h2, n, h3⟩ := p
    exact ⟨_, .tuple h1 h2 h3 (by simpa using ra)⟩
theorem DsAt.reads (I : Inv X pins σ H s) : ∀ {xs : List V} {ds : List PyData} {us : List Value}, DsAt X.K H xs ds → Vals xs us → ∃ as, ReadsAll s.heap us ds as
  | _, _, _, .nil, r => by
    cases r
    exact ⟨_, .nil⟩
  | _, _, _, .cons d ds, r => by
    cases r with
    | cons r rs =>
      obtain ⟨as, ra⟩ := DAt.reads I d r
      obtain ⟨bs, rb⟩ := DsAt.reads I ds rs
      exact ⟨_, .cons ra rb⟩
end

def DOk (d : PyData) : Prop := d.canLay0 = true ∧ d.depth ≤ 40
def rEqD (K : PySem.W.Frag) (neg : Bool) : R2 := fun x y H Q => ∃ dx dy, DAt K H x dx ∧ DAt K H y dy ∧ DOk dx ∧ DOk dy ∧ Q (.bl (if neg then !PyData.eqv dx dy else PyData.eqv dx dy)) H
theorem op_neD (hu : X.A.units + 64 < cLine) : OpR X (compareOp .NotEq) (rEqD X.K true) := by
  intro pins s σ H x y v u Q I rx ry h
  obtain ⟨dx, dy, ax, ay, okx, oky, q⟩ := h
  obtain ⟨as, r1⟩ := ax.reads I rx
  obtain ⟨bs, r2⟩ := ay.reads I ry
  refine SeqAt.compareNe_reads r1 r2 okx.1 oky.1 ?_ (fin_bl I q rfl)
  have h1 := okx.2
  have h2 : min dx.depth dy.depth ≤ dx.depth := Nat.min_le_left _ _
  omega
def rCat0 (K : PySem.W.Frag) : R2 := fun x y H Q => ∃ a b ys, x = .ref a ∧ y = .ref b ∧ SqT K H a [] ∧ SqT K H b ys ∧ Q (.ref b) H
theorem op_cat0 : OpR X (binaryOp .Add) (rCat0 X.K) := by
  intro pins s σ H x y v u Q I rx ry h
  obtain ⟨a, b, ys, rfl, rfl, ha, hb, q⟩ := h
  cases rx
  cases ry
  obtain ⟨us, ru, pu, _⟩ := I.tuple ha
  obtain ⟨ws, rw', pw, _⟩ := I.tuple hb
  cases ru
  obtain ⟨⟨cls, dd, data, sl⟩, ho, hc, n, hd⟩ := id pu
  obtain ⟨⟨cls2, dd2, data2, sl2⟩, ho2, hc2, n2, hd2⟩ := id pw
  simp only at hc hd hc2 hd2
  subst hc hd hc2 hd2
  have st := tuple_addW0 a b ([] : List Value).toArray ws.toArray n n2 dd dd2 sl sl2 (by simp)
  exact concat_meets ⟨_, ho, rfl⟩ ⟨_, ho2, rfl⟩ noFill_tuple_add seq_tuple_add PySem.F.slot_tuple_add PySem.F.entry_tuple_add (PySem.F.args_tuple_add_2 _ _) st ⟨ho, ho2, ⟨.ref b, H, I, rfl, q⟩⟩

def rCatN (K : PySem.W.Frag) : R2 := fun x y H Q => ∃ a b xs ys, x = .ref a ∧ y = .ref b ∧ SqT K H a xs ∧ H b = some (.tup ys) ∧ ys ≠ [] ∧ xs.length + ys.length ≤ sizeLine ∧ ∀ p H', Same H H' → H' p = some (.tup (xs ++ ys)) → Q (.ref p) H'
theorem op_catN : OpR X (binaryOp .Add) (rCatN X.K) := by
  intro pins s σ H x y v u Q I rx ry h
  obtain ⟨a, b, xs, ys, rfl, rfl, ha, hb, hy, hz, q⟩ := h
  by_cases hx : xs = []
  · subst hx
    exact op_cat0 pins s σ H _ _ v u Q I rx ry ⟨a, b, ys, rfl, rfl, ha, SqT.of hb, q b H (Same.refl H) hb⟩
  · exact op_catT pins s σ H _ _ v u Q I rx ry ⟨a, b, xs, ys, rfl, rfl, ha, SqT.of hb, hx, hz, fun z => absurd z hy, fun _ p hp => q p _ ((Same.refl H).upd_free hp) upd_same⟩

def TSame (H H' : Hp) : Prop := ∀ b xs, H b = some (.tup xs) → H' b = some (.tup xs)
theorem Same.tups {H H' : Hp} (s : Same H H') : TSame H H' := fun b xs e => s b _ e
theorem TSame.trans {H H1 H2 : Hp} (a : TSame H H1) (b : TSame H1 H2) : TSame H H2 := fun c xs e => b c xs (a c xs e)
theorem TSame.upd_lst {H H' : Hp} {a : Addr} {ys : List V} {o : HO} (s : TSame H H') (h : H' a = some (.lst ys)) : TSame H (upd H' a o) := fun b xs e => by
  have q := s b xs e
  rw [upd_ne (ne_of q h (by intro z; cases z))]
  exact q
theorem TSame.upd_dk {H H' : Hp} {a : Addr} {kvs : List (Key × V)} {o : HO} (s : TSame H H') (h : H' a = some (.dK kvs)) : TSame H (upd H' a o) := fun b xs e => by
  have q := s b xs e
  rw [upd_ne (ne_of q h (by intro z; cases z))]
  exact q
end
end L2
namespace L2
open PySem PySem.Spec PyProof.Rows
open AutoSeq1 (wpAny_loadPart')

section
variable {prog : Program} {w : World} {A : Around} {E : Value → Shared → Prop} {s : Shared}
theorem nextOf_tup {it t : Addr} {i : Nat} {items : Array Value} {x : Value} {Q : Value → Shared → Prop} (hit : s.heap.IsTupleIter it t i) (ht : s.heap.IsTuple t items) (hx : items[i]? = some x)
    (hQ : ∀ h', h'.IsTupleIter it t (i + 1) → Heap.SameBut it s.heap h' → Q x { s with heap := h' }) : wpAny (model prog w) A (Builtin.SmallTypes.nextOf (.ref it)) Q E s := by
  obtain ⟨o, ho, hc, hd⟩ := id hit
  obtain ⟨ol, hol, _, nl, hdl⟩ := ht
  have cal := fun (R : Fin → Shared → Prop) (q : wpAny (model prog w) A.in1 (Builtin.«tuple_iterator.__next__» ⟨[.ref it], []⟩) R E s) => q
  unfold Builtin.SmallTypes.nextOf
  refine wpAny_bind (wpAny_callSpecial?_slot (name := Str.ofString "__next__") hit.typeIs F.slot_tuple_iterator_next (wpAny_call_entry F.slot_tuple_iterator_next hit.typeIs F.entry_tuple_iterator_next ?_ (F.args_tuple_iterator_next_1 _)))
  clear cal
  show wpAny _ _ (field (.ref it) 0 >>= _) _ _ s
  refine wpAny_bind (wpAny_field ho hd (x := .ref t) rfl ?_)
  show wpAny _ _ (if (Value.ref t == Value.none) = true then _ else _) _ _ s
  rw [if_neg (show ¬ ((Value.ref t == Value.none) = true) from Bool.false_ne_true)]
  show wpAny _ _ (field (.ref it) 1 >>= _) _ _ s
  refine wpAny_bind (wpAny_field ho hd (x := .int i 0) rfl ?_)
  show wpAny _ _ (seqItems? (.ref t) >>= _) _ _ s
  refine wpAny_bind (wpAny_seqItems hol hdl ?_)
  simp only [Int.toNat_natCast, hx]
  refine wpAny_bind (wpAny_setField ho hd (by simp) (wpAny_pure ⟨x, rfl, wpAny_pure (hQ _ ?_ (Heap.SameBut.update ..))⟩))
  refine ⟨_, Heap.get?_update_self _ ho (Obj.isFreed_of_fields (Obj.data_mapFields hd _)), (Obj.cls_mapFields ..).trans hc, ?_⟩
  rw [Obj.data_mapFields hd]
  simp [rawInt]
theorem nextOf_tup_end {it t : Addr} {i : Nat} {items : Array Value} {Q : Value → Shared → Prop} (hh : A.handled = none) (hit : s.heap.IsTupleIter it t i) (ht : s.heap.IsTuple t items) (hx : items[i]? = none)
    (hE : ∀ h' e, Heap.ExtBut it s.heap h' → (∃ o, h'.get? e = some o ∧ o.cls = .type "StopIteration") → E (.ref e) { s with heap := h' }) : wpAny (model prog w) A (Builtin.SmallTypes.nextOf (.ref it)) Q E s := by
  obtain ⟨o, ho, hc, hd⟩ := id hit
  obtain ⟨ol, hol, _, nl, hdl⟩ := ht
  unfold Builtin.SmallTypes.nextOf
  refine wpAny_bind (wpAny_callSpecial?_slot (name := Str.ofString "__next__") hit.typeIs F.slot_tuple_iterator_next (wpAny_call_entry F.slot_tuple_iterator_next hit.typeIs F.entry_tuple_iterator_next ?_ (F.args_tuple_iterator_next_1 _)))
  show wpAny _ _ (field (.ref it) 0 >>= _) _ _ s
  refine wpAny_bind (wpAny_field ho hd (x := .ref t) rfl ?_)
  show wpAny _ _ (if (Value.ref t == Value.none) = true then _ else _) _ _ s
  rw [if_neg (show ¬ ((Value.ref t == Value.none) = true) from Bool.false_ne_true)]
  show wpAny _ _ (field (.ref it) 1 >>= _) _ _ s
  refine wpAny_bind (wpAny_field ho hd (x := .int i 0) rfl ?_)
  show wpAny _ _ (seqItems? (.ref t) >>= _) _ _ s
  refine wpAny_bind (wpAny_seqItems hol hdl ?_)
  simp only [Int.toNat_natCast, hx]
  refine wpAny_bind (wpAny_rule (wpAny_bind (wpAny_setField ho hd (by simp) ?_)))
  show wpAny _ _ (newExc (.type "StopIteration") [] >>= _) _ _ _
  refine wpAny_bind ?_
  simp only [newExc, newTuple]
  refine wpAny_bind (wpAny_newObj_type ?_ (by size_fits))
  refine wpAny_bind (m := firstArgMember _ _) (wpAny_of_eq (a := Value.none) (by first | rfl | (simp only [firstArgMember]; rfl)) (wpAny_newObj_type ?_ (by size_fits)))
  simp only [raiseNew]
  refine wpAny_bind (wpAny_handled ?_)
  first | rw [show A.in1.handled = none from hh] | rw [hh]
  exact wpAny_bind (wpAny_pure (wpAny_throw (hE _ _ (((Heap.SameBut.update ..).extBut.push _).push _) ⟨_, Heap.get?_push_size _ rfl, rfl⟩)))
theorem draws_tup (hh : A.handled = none) (it l : Addr) (hne : l ≠ it) (items : Array Value) :
    Draws prog w A it [it, l] items.size (fun i v => items[i]? = some v) (fun i h => h.IsTupleIter it l i ∧ h.IsTuple l items) where
  live := fun _ _ st => let ⟨o, ho, _⟩ := st.1; ⟨o, ho⟩
  frame := fun _ _ _ st hk => ⟨let ⟨o, ho, r⟩ := st.1; ⟨o, hk it (by simp) o ho, r⟩, let ⟨o, ho, r⟩ := st.2; ⟨o, hk l (by simp) o ho, r⟩⟩
  item := fun i s Q E hi st hQ => nextOf_tup st.1 st.2 (x := items[i]) (by simp [hi]) fun h' hit' hs' => hQ _ h' s.toks (by simp [hi]) ⟨hit', st.2.extBut hs'.extBut hne⟩ hs'
  done := fun s Q E st hE => nextOf_tup_end hh st.1 st.2 (by simp) hE
theorem meets_enum_tup (l : Addr) (o : Obj) (items : Array Value) (n : Nat) (hc : o.cls = .type "tuple") (hd : o.data = .seq items n) :
    Meets (Builtin.«enumerate.__new__» ⟨[.type "enumerate", .ref l], []⟩) (fun _ R s => s.heap.get? l = some o ∧
      R (.ok (.ret (.ref (s.heap.push { cls := .type "tuple_iterator", data := .fields #[.ref l, .int 0 0] }).objs.size)))
        { s with heap := (s.heap.push { cls := .type "tuple_iterator", data := .fields #[.ref l, .int 0 0] }).push { cls := .type "enumerate", data := .fields #[.none, .bool false, .ref s.heap.objs.size, rawInt 0, .none, .none] } }) :=
  .of_wp fun prog w A R s h => by
    obtain ⟨cls, dd, data, sl⟩ := o
    simp only at hc hd
    subst hc hd
    obtain ⟨hp, g, d, tk, os⟩ := s
    obtain ⟨hl, h⟩ := h
    have hsub := sub_enumerate
    have hL : Heap.IsTuple (Shared.heap ⟨hp, g, d, tk, os⟩) l items := ⟨_, hl, rfl, n, rfl⟩
    wp_walk using wpAny_loadPart' hl
    refine wpAny_stack_any fun st => wpAny_pure ?_
    split
    · rename_i c _ _ _ _ _
      cases (c == Value.type "enumerate")
      · wp_walk using wpAny_loadPart' hl, wpAny_pyIter_tuple hL
        exact ⟨_, rfl, h⟩
      · wp_walk using wpAny_loadPart' hl, wpAny_pyIter_tuple hL
        exact ⟨_, rfl, h⟩
    · wp_walk using wpAny_loadPart' hl, wpAny_pyIter_tuple hL
      exact ⟨_, rfl, h⟩
end
section
variable {X : Cx} {pins : List (Addr × Obj)} {σ : St} {H : Hp} {s : Shared}

theorem Inv.turnedT {h' : Heap} {t' : Nat} {ch : List Addr} {T : Addr} {o : HO} (I : Inv X pins σ H s) (hc : ∀ b ∈ ch, FpOk X pins H b) (k : ∀ b u, b ∉ ch → s.heap.get? b = some u → h'.get? b = some u) (hT : s.heap.objs.size ≤ T) (new : ObjOk X.prog X.w (upd H T o) h' T o) :
    Inv X pins σ (upd H T o) { s with heap := h', toks := t' } := by
  have hn : H T = none := I.hok.fresh hT
  have nT : ∀ b u, s.heap.get? b = some u → b ≠ T := fun b u e => Nat.ne_of_lt (Nat.lt_of_lt_of_le (Heap.lt_size e) hT)
  have nc : ∀ b u, H b = some u → b ∉ ch := fun b u e z => by
    have := (hc b z).1
    rw [e] at this
    cases this
  refine I.step (g' := s.gens) (d' := s.drawn) (ch := ch) (fun b hb => ⟨(hc b hb).2.2.2.1, (hc b hb).2.1, (hc b hb).2.2.2.2.1, (hc b hb).2.2.2.2.2⟩) (fun b u _ _ z e _ => k b u z e) (fun b u _ _ z e _ => ⟨u.slots, k b u z e⟩)
    (fun b u _ e n => by rw [upd_ne (nT b u e)]; exact n) (fun b u z e => ⟨u, k b u z e⟩) (fun b xs q => by rw [upd_ne (ne_of_none q hn)]; exact q) (fun b u xs q => by rw [upd_ne (ne_of_none q hn)]; exact q)
    (fun b ps q => ⟨#[], by rw [upd_ne (ne_of_none q hn), q]; simp⟩) (fun m hm => ?_) (fun b u e => ?_) I.bare
  · obtain ⟨u, es, ep, ho, r⟩ := hm
    exact ⟨u, es, ep, k _ u (fun z => (hc _ z).2.1 rfl) ho, r⟩
  · by_cases hb : b = T
    · subst hb
      rw [upd_same] at e
      cases e
      exact new
    · rw [upd_ne hb] at e
      refine (I.hok b u e).stay (fun c v z q => k c v ?_ q) (fun c q => by rw [upd_ne (ne_of_none q hn)]; exact q) fun c xs q => by rw [upd_ne (ne_of_none q hn)]; exact q
      rcases z with z | z
      · rw [z]; exact nc b u e
      · exact nc c _ z
end

def Ite (K : PySem.W.Frag) (a : Addr) : It :=
  ⟨fun i H => ∃ xs x, SqT K H a xs ∧ xs[i]? = some x, fun i H v H' => ∃ p x, v = .ref p ∧ H p = none ∧ H' = upd H p (.tup [.int i, x]) ∧ ∀ xs, SqT K H a xs → xs[i]? = some x, fun i H => ∃ xs, SqT K H a xs ∧ xs.length ≤ i⟩
theorem turn_enum {P : Program} {w : World} {K : PySem.W.Frag} {elts : List Expr} {k : Nat} {pos : Pos} (a e it : Addr) (hei : e ≠ it) (hae : a ≠ e) (hai : a ≠ it) :
    Turn P w K (.Tuple elts k pos) (Ite K a) [e, it] e (fun i h => (∃ old, IsEnum h e it i old) ∧ h.IsTupleIter it a i) where
  mem := by simp
  obj := fun i h st b hb => by
    obtain ⟨⟨old, h1⟩, o, h2, h3, h4⟩ := st
    rcases List.mem_cons.mp hb with z | z
    · subst z
      exact ⟨_, h1, fun v z => by cases z⟩
    · have z' : b = it := by simpa using z
      subst z'
      exact ⟨o, h2, fun v z => by rw [h4] at z; cases z⟩
  keep := fun i h h' st kk => by
    obtain ⟨⟨old, h1⟩, h2⟩ := st
    exact ⟨⟨old, kk e (by simp) _ h1⟩, (let ⟨o, ho, r⟩ := h2; ⟨o, kk it (by simp) o ho, r⟩)⟩
  item := by
    intro X hP hw hK hc i pins s σ H E I hf st hg
    subst hP hw hK
    obtain ⟨xs, x, hq, hx⟩ := hg
    obtain ⟨its, rv, p, hz⟩ := I.tuple hq
    obtain ⟨u, hu, ru⟩ := rv.get hx
    obtain ⟨⟨old, h1⟩, h2⟩ := st
    have D := draws_tup (prog := X.prog) (w := X.w) (A := X.A.in1) (I.ok.hd hc) it a hai its.toArray
    have hlt : i < its.toArray.size := by
      have := (List.getElem?_eq_some_iff.mp hu).1
      simpa using this
    refine wpAny_pyNext_enum_itemD D h1 ⟨h2, p⟩ hlt hei (by simp [Ne.symm hae, hei]) fun y h' tk hy ho hs' hT hsz hk => ?_
    have hyu : y = u := by
      have e1 : its.toArray[i]? = some u := by simpa using hu
      exact Option.some.inj (hy.symm.trans e1)
    subst hyu
    refine ⟨_, rfl, wpAny_letOwnedTupleGo_enum ho fun h'' he'' hsb => ?_⟩
    have helt : e < s.heap.objs.size := Heap.lt_size h1
    have kk : ∀ b o, b ∉ [e, it] → s.heap.get? b = some o → h''.get? b = some o := fun b o hb q => by
      have b1 : b ≠ e := fun z => hb (by simp [z])
      have b2 : b ≠ it := fun z => hb (by simp [z])
      exact (hsb.2 b b1).trans (hk b o b1 b2 q)
    have hT'' : h''.get? s.heap.objs.size = some { cls := .type "tuple", data := .seq #[.int i tk, y] } := (hsb.2 _ (Nat.ne_of_gt helt)).trans hT
    have hno : H s.heap.objs.size = none := I.hok.fresh (Nat.le_refl _)
    have I1 : Inv X pins σ (upd H s.heap.objs.size (.tup [.int i, x])) { s with heap := h'', toks := tk + 1 } := by
      refine I.turnedT (ch := [e, it]) hf kk (Nat.le_refl _) ⟨(by show 2 ≤ sizeLine; decide), [.int i tk, y], ?_, ⟨_, hT'', rfl, _, rfl⟩⟩
      exact .cons ⟨tk, rfl⟩ (.cons ru .nil)
    refine ⟨.ref s.heap.objs.size, _, I1, rfl, ⟨_, x, rfl, hno, rfl, fun ys hy' => by rw [I.tuple_inj hy' hq]; exact hx⟩, ⟨⟨y, ?_⟩, ?_⟩, fun b hb => ?_⟩
    · simpa using he''
    · have q := hs'.1
      obtain ⟨o, z, r⟩ := q
      exact ⟨o, (hsb.2 it (Ne.symm hei)).trans z, r⟩
    · have hb' := (hf b hb).1
      rw [upd_ne]
      · exact hb'
      · intro z
        subst z
        obtain ⟨ob, eb, _⟩ : ∃ o, s.heap.get? s.heap.objs.size = some o ∧ True := by
          rcases List.mem_cons.mp hb with q | q
          · rw [q]; exact ⟨_, h1, trivial⟩
          · have q' : s.heap.objs.size = it := by simpa using q
            obtain ⟨o, ho', _⟩ := h2
            rw [q']; exact ⟨o, ho', trivial⟩
        exact absurd (Heap.lt_size eb) (Nat.lt_irrefl _)
  done := by
    intro X hP hw hK hc i pins s σ H E I hf st hg
    subst hP hw hK
    obtain ⟨xs, hq, hx⟩ := hg
    obtain ⟨its, rv, p, hz⟩ := I.tuple hq
    obtain ⟨⟨old, h1⟩, h2⟩ := st
    have hl := rv.length
    have hT : s.TypeIs (.ref e) "enumerate" := ⟨_, h1, rfl⟩
    unfold pyNext
    refine wpAny_bind (wpAny_attempt (wpAny_callSpecial?_slot (name := Str.ofString "__next__") hT F.slot_enumerate_next (wpAny_call_entry F.slot_enumerate_next hT F.entry_enumerate_next ?_ (F.args_enumerate_next_1 _))))
    show wpAny _ _ (field (.ref e) 2 >>= _) _ _ _
    refine wpAny_bind (wpAny_field h1 rfl (x := .ref it) rfl ?_)
    refine wpAny_bind (nextOf_tup_end (items := its.toArray) (by exact I.ok.hd hc) h2 p (by simp; omega) fun h' x he' hx' => ?_)
    obtain ⟨o, ho, hc'⟩ := hx'
    refine wpAny_bind (wpAny_isInstance (T := "StopIteration") (b := true) ⟨o, ho, hc'⟩ isSubtype_stop ?_)
    obtain ⟨f0, f1, f2, f3, f4, f5⟩ := hf it (by simp)
    exact wpAny_pure ⟨rfl, I.turned (t' := s.toks) (fun b o hb q => he' b o hb q) f0 f1 f3 f4 f5⟩
  self := fun A i s Q E st h => by
    obtain ⟨⟨old, h1⟩, _⟩ := st
    exact wpAny_pyIter_enum h1 h

def iEnum (K : PySem.W.Frag) (ta : TA) : TI := fun σ H R => ta σ H fun vs H1 => ∃ a, vs = [.ref a] ∧ (∃ xs, SqT K H1 a xs) ∧ R (Ite K a) H1
theorem boot_enum : bootBuiltins "enumerate" = some (.type "enumerate") := by decide +kernel
theorem pi_enum {X : Cx} {elts : List Expr} {k : Nat} {tpos : Pos} {a : Expr} {ta : TA} {p pos : Pos} (hg : Gl X "enumerate") (hm : X.mg "enumerate" = none) (ha : PA X [a] ta) (hs : starEach [a] X.env = [(false, eval a X.env)] := by rfl) :
    PI X (.Tuple elts k tpos) (.Call (.Name "enumerate" p) [a] [] pos) (iEnum X.K ta) := by
  intro pins s σ H R I h
  refine Call_ (ld_blt I hg hm boot_enum (PyProof.Rows.callWith_type1 (thn (ha pos pins s σ H _ I h) fun us s1 ⟨vs, H1, I1, r1, q1⟩ => ?_) hs rfl))
  obtain ⟨b, e, ⟨xs, hq⟩, q⟩ := q1
  subst e
  obtain ⟨u, rfl, ru⟩ := r1.one
  cases ru
  obtain ⟨its, rv, pt, hz⟩ := I1.tuple hq
  obtain ⟨o, ho, hc, n, hd⟩ := id pt
  have hb : b < s1.heap.objs.size := Heap.lt_size ho
  refine callType_new F.called_enumerate (by decide) (F.typeCall_enumerate_1 _) (F.newCall_enumerate_1 _) (fun obj => F.args_object_init_2 obj _) F.entry_enumerate_new (meets_enum_tup b o its.toArray n hc hd) ⟨ho, ?_⟩
  have hz1 : (s1.heap.push { cls := .type "tuple_iterator", data := .fields #[.ref b, .int 0 0] }).objs.size = s1.heap.objs.size + 1 := Heap.size_push ..
  show _ ∧ _
  rw [hz1]
  have he : IsEnum ((s1.heap.push { cls := .type "tuple_iterator", data := .fields #[.ref b, .int 0 0] }).push { cls := .type "enumerate", data := .fields #[.none, .bool false, .ref s1.heap.objs.size, rawInt 0, .none, .none] }) (s1.heap.objs.size + 1) s1.heap.objs.size 0 .none := by
    have q := Heap.get?_push_size (s1.heap.push { cls := .type "tuple_iterator", data := .fields #[.ref b, .int 0 0] }) (o := { cls := .type "enumerate", data := .fields #[.none, .bool false, .ref s1.heap.objs.size, rawInt 0, .none, .none] }) rfl
    rw [hz1] at q
    exact q
  refine ⟨⟨_, he, rfl⟩, ?_⟩
  refine wpAny_pyIter_enum he ?_
  have I2 := I1.kept (h' := (s1.heap.push { cls := .type "tuple_iterator", data := .fields #[.ref b, .int 0 0] }).push { cls := .type "enumerate", data := .fields #[.none, .bool false, .ref s1.heap.objs.size, rawInt 0, .none, .none] }) (t' := s1.toks) fun c v q => Heap.get?_push_of_some _ (Heap.get?_push_of_some _ q)
  refine ⟨s1.heap.objs.size + 1, [s1.heap.objs.size + 1, s1.heap.objs.size], _, Ite X.K b, H1, rfl, I2, turn_enum b _ _ (Nat.succ_ne_self _) (Nat.ne_of_lt (Nat.lt_succ_of_lt hb)) (Nat.ne_of_lt hb), ⟨⟨_, he⟩, ⟨_, Heap.get?_push_of_some _ (Heap.get?_push_size _ rfl), rfl, rfl⟩⟩, fun c hc' => ?_, q⟩
  have hle : s1.heap.objs.size ≤ c := by
    rcases List.mem_cons.mp hc' with z | z
    · rw [z]
      exact Nat.le_succ _
    · have z' : c = s1.heap.objs.size := by simpa using z
      exact Nat.le_of_eq z'.symm
  exact I1.fpOk hle (I1.hok.fresh hle)
end L2
namespace L2
open PySem PySem.Spec PyProof.Rows
theorem for_enum {K : PySem.W.Frag} {a : Addr} {xs : List V} {g : TG} {tb : TS} {D : Ends} {σ : St} {H : Hp} (Pv : Nat → St → Hp → Prop) (h0 : Pv 0 σ H) (hl : ∀ i σ H, i ≤ xs.length → Pv i σ H → SqT K H a xs)
    (hs : ∀ i x σ H p, xs[i]? = some x → Pv i σ H → H p = none → g (.ref p) σ (upd H p (.tup [.int (i : Nat), x])) fun σ2 H2 => tb { D with nx := Pv (i + 1), ct := Pv (i + 1), bk := D.nx } σ2 H2) (hd : ∀ σ H, Pv xs.length σ H → D.nx σ H) :
    ∃ W : Nat → Nat → St → Hp → Prop, (∃ m, W 0 m σ H) ∧ ∀ i m σ H, W i m σ H →
      ((Ite K a).stop i H ∧ D.nx σ H) ∨ ((Ite K a).go i H ∧ ∃ N : St → Hp → Prop, (∀ σ' H', N σ' H' → ∃ m', m' < m ∧ W (i + 1) m' σ' H') ∧ ∀ x H', (Ite K a).yld i H x H' → g x σ H' fun σ2 H2 => tb { D with nx := N, ct := N, bk := D.nx } σ2 H2) := by
  refine ⟨fun i m σ H => m = xs.length - i ∧ i ≤ xs.length ∧ Pv i σ H, ⟨xs.length, by simp, Nat.zero_le _, h0⟩, ?_⟩
  rintro i m σ H ⟨rfl, hi, p⟩
  have q := hl i σ H hi p
  by_cases hlt : i < xs.length
  · refine .inr ⟨⟨xs, xs[i], q, by simp [hlt]⟩, Pv (i + 1), fun σ' H' p' => ⟨xs.length - (i + 1), by omega, rfl, hlt, p'⟩, fun x H' y => ?_⟩
    obtain ⟨c, z, e1, e2, e3, e4⟩ := y
    subst e1 e3
    exact hs i z σ H c (e4 xs q) p e2
  · have e : i = xs.length := by omega
    subst e
    exact .inl ⟨⟨xs, q, Nat.le_refl _⟩, hd σ H p⟩
end L2
namespace L2
open PySem PySem.Spec PyProof.Rows

section
variable {X : Cx}
theorem call_lenK : CallR X (.builtin "len") (fun xs H Q => ∃ a kvs, xs = [V.ref a] ∧ H a = some (.dK kvs) ∧ Q (.int kvs.length) H) := by
  intro pins s σ H xs us Q I r h
  obtain ⟨a, kvs, rfl, ha, q⟩ := h
  obtain ⟨u, rfl, ru⟩ := vals1 r
  cases ru
  exact d_len I (.inl ha) fun t s' I' => ⟨.int kvs.length, H, I', ⟨t, rfl⟩, q⟩

def rCat1 (K : PySem.W.Frag) : R2 := fun x y H Q => ∃ a b xs ys, x = .ref a ∧ y = .ref b ∧ H a = some (.tup xs) ∧ SqT K H b ys ∧ xs ≠ [] ∧ xs.length + ys.length ≤ sizeLine ∧ ∀ p H', Same H H' → H' p = some (.tup (xs ++ ys)) → Q (.ref p) H'
theorem op_cat1 : OpR X (binaryOp .Add) (rCat1 X.K) := by
  intro pins s σ H x y v u Q I rx ry h
  obtain ⟨a, b, xs, ys, rfl, rfl, ha, hb, hx, hz, q⟩ := h
  exact op_catT pins s σ H _ _ v u Q I rx ry ⟨a, b, xs, ys, rfl, rfl, SqT.of ha, hb, hx, hz, fun z => q a H (Same.refl H) (by subst z; rw [List.append_nil]; exact ha), fun _ p hp => q p _ ((Same.refl H).upd_free hp) upd_same⟩
theorem vals_of_ints : ∀ {us : List Value} {ns : List Int}, IntsAre us ns → Vals (ns.map V.int) us
  | _, _, .nil => .nil
  | _, _, .cons i t r => .cons ⟨t, rfl⟩ (vals_of_ints r)
theorem call_sorted : CallR X (.builtin "sorted") (fun xs H Q => ∃ p ns, xs = [.ref p] ∧ SqL X.K H p (ns.map V.int) ∧ ns.length < 64 ∧ ∀ (l : Addr) (ns' : List Int), H l = none → ns'.Perm ns → ns'.Pairwise (· ≤ ·) → Q (.ref l) (upd H l (.lst (ns'.map V.int)))) := by
  intro pins s σ H xs us Q I r h
  obtain ⟨p, ns, rfl, hq, h64, q⟩ := h
  obtain ⟨u, rfl, rx⟩ := vals1 r
  cases rx
  obtain ⟨its, r', pl, hz⟩ := I.list hq
  have hlen := r'.length
  rw [List.length_map] at hlen
  refine sorted_ints pl.isList (intsAre_of r') (by omega) fun out ns' a1 a2 a3 => ?_
  obtain ⟨c, he⟩ := sortedAll_at s.heap its out
  have hl' := a2.length_eq
  refine ⟨.ref (s.heap.objs.size + 1), _, I.laid (t' := s.toks) (fun _ _ => sortedAll_old) (Nat.le_succ _) (show ObjOk X.prog X.w _ (sortedAll s.heap its out) _ (.lst (ns'.map V.int)) from ⟨?_, out.toList, c, vals_of_ints a1, ?_⟩), rfl, q _ ns' (I.hok.fresh (Nat.le_succ _)) a2 a3⟩
  · rw [List.length_map, hl']
    exact Nat.le_of_lt (small1000 (by omega))
  · rw [Array.toArray_toList]
    exact he
end
theorem lc_tup2 {K : PySem.W.Frag} {a : Addr} {xs : List V} {caps : St} {tt : TT} {te : TE} {D : Addr} {Q : Hp → Prop} {H1 : Hp} (Pv : Nat → List V → Hp → Prop) (hz : xs.length ≤ sizeLine) (h0 : Pv 0 [] (upd H1 D (.lst []))) (hl : ∀ i ys H, Pv i ys H → ys.length ≤ i) (hq : ∀ i ys H, Pv i ys H → SqT K H a xs)
    (hs : ∀ i ys H (x : V), xs[i]? = some x → Pv i ys H → ∃ p v w, x = .ref p ∧ SqT K H p [v, w] ∧ ∀ (N : VK) (M : Hp → Prop), (∀ y H4, H4 D = some (.lst ys) → Pv (i + 1) (ys ++ [y]) (upd H4 D (.lst (ys ++ [y]))) → N y H4) → (∀ H3, Pv (i + 1) ys H3 → M H3) →
      tt (some v :: some w :: caps) H fun ok H3 => if ok = true then te (some v :: some w :: caps) H3 N else M H3)
    (hd : ∀ ys H, Pv xs.length ys H → Q H) : ∃ W : Nat → Nat → St → Hp → Prop, (∃ m, W 0 m (none :: none :: caps) (upd H1 D (.lst []))) ∧ LcW (Itt K a) (gTup K 2 (gCons (gName 0) (gCons (gName 1) gNil))) tt te D Q W := by
  refine ⟨fun i m σ H => m = xs.length - i ∧ i ≤ xs.length ∧ (∃ v w, σ = v :: w :: caps) ∧ ∃ ys, Pv i ys H, ⟨xs.length, by simp, Nat.zero_le _, ⟨none, none, rfl⟩, [], h0⟩, ?_⟩
  rintro i m σ H ⟨rfl, hi, ⟨v, w, rfl⟩, ys, p⟩
  have hy := hl i ys H p
  by_cases hlt : i < xs.length
  · refine .inr ⟨⟨xs, xs[i], hq i ys H p, by simp [hlt]⟩, fun x H1 y => ?_⟩
    obtain ⟨e, y⟩ := y
    subst e
    have hx := y xs (hq i ys _ p)
    obtain ⟨p', v', w', e1, e2, e3⟩ := hs i ys _ x hx p
    exact ⟨p', [v', w'], e1, e2, rfl, v', [w'], rfl, w', [], rfl, rfl, e3 _ _ (fun y H4 a c => ⟨ys, a, by omega, xs.length - (i + 1), by omega, rfl, hlt, ⟨_, _, rfl⟩, _, c⟩) (fun H3 c => ⟨xs.length - (i + 1), by omega, rfl, hlt, ⟨_, _, rfl⟩, ys, c⟩)⟩
  · have e : i = xs.length := by omega
    subst e
    exact .inl ⟨⟨xs, hq _ ys H p, Nat.le_refl _⟩, hd ys H p⟩
end L2
namespace L2
open PySem PySem.Spec PyProof.Rows

section
variable {X : Cx}
def tCutE (t : TE) : TE := fun σ H Q => ∃ M : V → Hp → Prop, t σ H M ∧ ∀ v H', M v H' → Q v H'
theorem pe_cut {e : Expr} {t : TE} (h : PE X e t) : PE X e (tCutE t) := by
  intro pins s σ H Q I ⟨M, h1, h2⟩
  exact thn (h pins s σ H M I h1) fun v s' ⟨x, H', I', r, m⟩ => ⟨x, H', I', r, h2 x H' m⟩
def tCutT (t : TT) : TT := fun σ H Q => ∃ M : Bool → Hp → Prop, t σ H M ∧ ∀ b H', M b H' → Q b H'
theorem pt_cut {e : Expr} {t : TT} (h : PT X e t) : PT X e (tCutT t) := by
  intro pins s σ H Q I ⟨M, h1, h2⟩
  exact thn (h pins s σ H M I h1) fun b s' ⟨H', I', m⟩ => ⟨H', I', h2 b H' m⟩

end
end L2
namespace K20
open PySem L2

abbrev Rms := List (Bool × List Int)
def nextOf (rs : Rms) (h l : Int) : Int := ((rs.getD h.toNat (false, [])).2).getD l.toNat 0
def walkM (rs : Rms) (h : Int) (run : List Int) : Int := run.foldl (nextOf rs) h
structure Good (many : Int) (rs : Rms) : Prop where
  mn : 0 ≤ many ∧ many ≤ 8
  pos : 0 < rs.length
  le : rs.length ≤ 100
  row : ∀ r ∈ rs, (r.2.length : Int) = many ∧ ∀ n ∈ r.2, 0 ≤ n ∧ n < (rs.length : Int)
def RowsAt (H : Hp) (qs : List Addr) (rs : Rms) : Prop := qs.length = rs.length ∧ ∀ (i : Nat) (r : Bool × List Int), rs[i]? = some r → ∃ q z, qs[i]? = some q ∧ H q = some (.tup [.bl r.1, .ref z]) ∧ H z = some (.tup (r.2.map V.int))
def MAt (H : Hp) (a : Addr) (many : Int) (rs : Rms) : Prop := ∃ p qs, H a = some (.tup [.int many, .ref p]) ∧ H p = some (.tup (qs.map V.ref)) ∧ RowsAt H qs rs
theorem RowsAt.same {H H' : Hp} {qs : List Addr} {rs : Rms} (h : RowsAt H qs rs) (s : Same H H') : RowsAt H' qs rs := ⟨h.1, fun i r e => by
  obtain ⟨q, z, h1, h2, h3⟩ := h.2 i r e
  exact ⟨q, z, h1, s _ _ h2, s _ _ h3⟩⟩
theorem MAt.same {H H' : Hp} {a : Addr} {many : Int} {rs : Rms} (h : MAt H a many rs) (s : Same H H') : MAt H' a many rs := by
  obtain ⟨p, qs, h1, h2, h3⟩ := h
  exact ⟨p, qs, s _ _ h1, s _ _ h2, h3.same s⟩
theorem getD_of {α : Type} {l : List α} {i : Nat} {x d : α} (h : l[i]? = some x) : l.getD i d = x := by simp [List.getD, h]
theorem some_at {α : Type} (l : List α) (i : Int) (h0 : 0 ≤ i) (h : i < (l.length : Int)) : ∃ x, l[i.toNat]? = some x := by
  have h' : i.toNat < l.length := by omega
  exact ⟨l[i.toNat], by simp [h']⟩
theorem next_in {many : Int} {rs : Rms} (G : Good many rs) {h l : Int} (h0 : 0 ≤ h) (h1 : h < rs.length) (l0 : 0 ≤ l) (l1 : l < many) : 0 ≤ nextOf rs h l ∧ nextOf rs h l < (rs.length : Int) := by
  obtain ⟨r, er⟩ := some_at rs h h0 h1
  have hr := G.row r (List.mem_of_getElem? er)
  obtain ⟨n, en⟩ := some_at r.2 l l0 (by rw [hr.1]; exact l1)
  unfold nextOf
  rw [getD_of er, getD_of en]
  exact hr.2 n (List.mem_of_getElem? en)
theorem walk_in {many : Int} {rs : Rms} (G : Good many rs) : ∀ (run : List Int) (h : Int), 0 ≤ h → h < rs.length → (∀ l ∈ run, 0 ≤ l ∧ l < many) → 0 ≤ walkM rs h run ∧ walkM rs h run < (rs.length : Int)
  | [], h, h0, h1, _ => ⟨h0, h1⟩
  | l :: run, h, h0, h1, hl => by
    have hx := hl l List.mem_cons_self
    have q := next_in G h0 h1 hx.1 hx.2
    exact walk_in G run _ q.1 q.2 fun l' h' => hl l' (List.mem_cons_of_mem _ h')
theorem walk_take (rs : Rms) (h : Int) (run : List Int) (i : Nat) (l : Int) (e : run[i]? = some l) : walkM rs h (run.take (i + 1)) = nextOf rs (walkM rs h (run.take i)) l := by
  unfold walkM
  rw [List.take_add_one, e, List.foldl_append]
  rfl

theorem arrow {many : Int} {rs : Rms} (G : Good many rs) {H : Hp} {qs : List Addr} (R : RowsAt H qs rs) {h l : Int} (h0 : 0 ≤ h) (h1 : h < rs.length) (l0 : 0 ≤ l) (l1 : l < many) :
    ∃ (q z : Addr) (b : Bool) (ns : List Int), atI (qs.map V.ref) h = some (.ref q) ∧ H q = some (.tup [.bl b, .ref z]) ∧ H z = some (.tup (ns.map V.int)) ∧ atI (ns.map V.int) l = some (.int (nextOf rs h l)) ∧ b = (rs.getD h.toNat (false, [])).1 := by
  obtain ⟨r, er⟩ := some_at rs h h0 h1
  have hr := G.row r (List.mem_of_getElem? er)
  obtain ⟨n, en⟩ := some_at r.2 l l0 (by rw [hr.1]; exact l1)
  obtain ⟨q, z, e1, e2, e3⟩ := R.2 _ _ er
  refine ⟨q, z, r.1, r.2, atI_int h0 (by rw [List.getElem?_map, e1]; rfl), e2, e3, atI_int l0 ?_, by rw [getD_of er]⟩
  unfold nextOf
  rw [getD_of er, getD_of en, List.getElem?_map, en]
  rfl

def spRB : Sp := fun vs H Q _ => ∃ (a p : Addr) (h many : Int) (rs : Rms) (run : List Int), vs = [.ref a, .int h, .ref p] ∧ MAt H a many rs ∧ Good many rs ∧ 0 ≤ h ∧ h < rs.length ∧ H p = some (.tup (run.map V.int)) ∧ (∀ l ∈ run, 0 ≤ l ∧ l < many) ∧ Q (.int (walkM rs h run)) H
def spLB : Sp := fun vs H Q _ => ∃ (a p : Addr) (many : Int) (rs : Rms) (run : List Int), vs = [.ref a, .ref p] ∧ MAt H a many rs ∧ Good many rs ∧ H p = some (.tup (run.map V.int)) ∧ (∀ l ∈ run, 0 ≤ l ∧ l < many) ∧ Q (.bl (rs.getD (walkM rs 0 run).toNat (false, [])).1) H
def spWh : Sp := fun vs H Q _ => ∃ i : Int, vs = [.int i] ∧ Q (.bl true) H
def spCe (K : PySem.W.Frag) : Sp := fun vs H Q _ => ∃ (a : Addr) (ns : List Int) (k : Int), vs = [.ref a, .int k] ∧ SqL K H a (ns.map V.int) ∧ 0 ≤ k ∧ k ≤ 2000 ∧ ∀ (z : Int) (H' : Hp), Same H H' → Q (.int z) H'
def spLaw (K : PySem.W.Frag) : Sp := fun vs H Q _ => ∃ (a : Addr) (ns : List Int), vs = [.ref a] ∧ SqL K H a (ns.map V.int) ∧ ns.length ≤ 63 ∧ ∀ H', Q (.bl true) H'

theorem truth {many : Int} {rs : Rms} (G : Good many rs) {H : Hp} {qs : List Addr} (R : RowsAt H qs rs) {h : Int} (h0 : 0 ≤ h) (h1 : h < rs.length) :
    ∃ q z, atI (qs.map V.ref) h = some (.ref q) ∧ H q = some (.tup [.bl (rs.getD h.toNat (false, [])).1, .ref z]) := by
  obtain ⟨r, er⟩ := some_at rs h h0 h1
  obtain ⟨q, z, e1, e2, e3⟩ := R.2 _ _ er
  exact ⟨q, z, atI_int h0 (by rw [List.getElem?_map, e1]; rfl), by rw [getD_of er]; exact e2⟩
theorem ints_flat (ns : List Int) : (ns.map V.int).all flatV = true := by
  rw [List.all_map]
  exact List.all_eq_true.mpr fun _ _ => rfl
end K20
namespace K21
open K20

def bef (a b : List Int) : Bool := if a.length = b.length then HT.lexLt a b else decide (a.length < b.length)
theorem lex_self : ∀ a : List Int, HT.lexLt a a = false
  | [] => rfl
  | x :: a => by rw [HT.lexLt_cons, if_pos rfl]; exact lex_self a
theorem lex_app : ∀ (a b : List Int) (x y : Int), a.length = b.length → HT.lexLt a b = true → HT.lexLt (a ++ [x]) (b ++ [y]) = true
  | [], [], _, _, _, h => by cases h
  | [], _ :: _, _, _, h, _ => by simp at h
  | _ :: _, [], _, _, h, _ => by simp at h
  | p :: a, q :: b, x, y, h, hl => by
    rw [HT.lexLt_cons] at hl
    show HT.lexLt (p :: (a ++ [x])) (q :: (b ++ [y])) = true
    rw [HT.lexLt_cons]
    by_cases e : p = q
    · rw [if_pos e] at hl ⊢
      exact lex_app a b x y (by simpa using h) hl
    · rw [if_neg e] at hl ⊢
      exact hl
theorem lex_asym : ∀ (a b : List Int), HT.lexLt a b = true → HT.lexLt b a = false
  | [], [], h => by cases h
  | [], y :: b, _ => HT.lexLt_cons_nil y b
  | x :: a, [], h => by simp [HT.lexLt_cons_nil] at h
  | x :: a, y :: b, h => by
    rw [HT.lexLt_cons] at h ⊢
    by_cases e : x = y
    · rw [if_pos e] at h
      rw [if_pos e.symm]
      exact lex_asym a b h
    · rw [if_neg e] at h
      rw [if_neg (Ne.symm e)]
      have := of_decide_eq_true h
      exact decide_eq_false (by omega)
theorem lex_last : ∀ (w : List Int) (x y : Int), x < y → HT.lexLt (w ++ [x]) (w ++ [y]) = true
  | [], x, y, h => by
    show HT.lexLt (x :: []) (y :: []) = true
    rw [HT.lexLt_cons, if_neg (by omega)]
    exact decide_eq_true h
  | p :: w, x, y, h => by
    show HT.lexLt (p :: (w ++ [x])) (p :: (w ++ [y])) = true
    rw [HT.lexLt_cons, if_pos rfl]
    exact lex_last w x y h
theorem bef_self (a : List Int) : bef a a = false := by
  unfold bef
  rw [if_pos rfl]
  exact lex_self a
theorem bef_asym {a b : List Int} (h : bef a b = true) : bef b a = false := by
  unfold bef at h ⊢
  by_cases e : a.length = b.length
  · rw [if_pos e] at h
    rw [if_pos e.symm]
    exact lex_asym a b h
  · rw [if_neg e] at h
    rw [if_neg (Ne.symm e)]
    have := of_decide_eq_true h
    exact decide_eq_false (by omega)
theorem bef_app {a b : List Int} (x y : Int) (h : bef a b = true) : bef (a ++ [x]) (b ++ [y]) = true := by
  unfold bef at h ⊢
  rw [List.length_append, List.length_append]
  by_cases e : a.length = b.length
  · rw [if_pos e] at h
    rw [if_pos (by simp [e])]
    exact lex_app a b x y e h
  · rw [if_neg e] at h
    rw [if_neg (by simp; omega)]
    have := of_decide_eq_true h
    exact decide_eq_true (by simp; omega)
theorem bef_last (w : List Int) {x y : Int} (h : x < y) : bef (w ++ [x]) (w ++ [y]) = true := by
  unfold bef
  rw [if_pos (by simp)]
  exact lex_last w x y h
theorem bef_nil (w : List Int) (x : Int) : bef [] (w ++ [x]) = true := by
  unfold bef
  rw [if_neg (by simp)]
  exact decide_eq_true (by simp)

abbrev Ent := Int × List Int
structure BInv (rs : Rms) (many : Int) (fs : List Ent) (d : Nat) : Prop where
  hd : fs[0]? = some (0, [])
  nd : (fs.map (·.1)).Nodup
  ok : ∀ e ∈ fs, 0 ≤ e.1 ∧ e.1 < (rs.length : Int) ∧ (∀ l ∈ e.2, 0 ≤ l ∧ l < many) ∧ walkM rs 0 e.2 = e.1
  inc : fs.Pairwise fun a b => bef a.2 b.2 = true
  src : ∀ e ∈ fs, e.2 = [] ∨ ∃ (i : Nat) (e' : Ent) (l : Int), i < d ∧ fs[i]? = some e' ∧ e.2 = e'.2 ++ [l]
  cov : ∀ (i : Nat) (e : Ent), i < d → fs[i]? = some e → ∀ l : Int, 0 ≤ l → l < many → ∃ e' ∈ fs, e'.1 = nextOf rs e.1 l ∧ bef (e.2 ++ [l]) e'.2 = false
  ln : ∀ (i : Nat) (e : Ent), fs[i]? = some e → e.2.length ≤ i
structure VInv (rs : Rms) (many : Int) (fs : List Ent) (d : Nat) (e0 : Ent) (j : Nat) : Prop where
  pl : fs[d]? = some e0
  hd : fs[0]? = some (0, [])
  nd : (fs.map (·.1)).Nodup
  ok : ∀ e ∈ fs, 0 ≤ e.1 ∧ e.1 < (rs.length : Int) ∧ (∀ l ∈ e.2, 0 ≤ l ∧ l < many) ∧ walkM rs 0 e.2 = e.1
  inc : fs.Pairwise fun a b => bef a.2 b.2 = true
  src : ∀ e ∈ fs, e.2 = [] ∨ (∃ (i : Nat) (e' : Ent) (l : Int), i < d ∧ fs[i]? = some e' ∧ e.2 = e'.2 ++ [l]) ∨ ∃ l : Int, l < j ∧ e.2 = e0.2 ++ [l]
  cov : ∀ (i : Nat) (e : Ent), i < d → fs[i]? = some e → ∀ l : Int, 0 ≤ l → l < many → ∃ e' ∈ fs, e'.1 = nextOf rs e.1 l ∧ bef (e.2 ++ [l]) e'.2 = false
  cov2 : ∀ l : Int, 0 ≤ l → l < j → ∃ e' ∈ fs, e'.1 = nextOf rs e0.1 l ∧ bef (e0.2 ++ [l]) e'.2 = false
  ln : ∀ (i : Nat) (e : Ent), fs[i]? = some e → e.2.length ≤ i
theorem VInv.start {rs : Rms} {many : Int} {fs : List Ent} {d : Nat} {e0 : Ent} (B : BInv rs many fs d) (h : fs[d]? = some e0) : VInv rs many fs d e0 0 :=
  ⟨h, B.hd, B.nd, B.ok, B.inc, fun e he => (B.src e he).imp id .inl, B.cov, fun l h0 h1 => by omega, B.ln⟩
theorem VInv.bound {rs : Rms} {many : Int} {fs : List Ent} {d : Nat} {e0 : Ent} {j : Nat} (I : VInv rs many fs d e0 j) : ∀ e ∈ fs, bef e.2 (e0.2 ++ [(j : Int)]) = true := fun e he => by
  rcases I.src e he with q | ⟨i, e', l, hi, hg, q⟩ | ⟨l, hl, q⟩
  · rw [q]
    exact bef_nil _ _
  · rw [q]
    refine bef_app _ _ ?_
    obtain ⟨h1, g1⟩ := List.getElem?_eq_some_iff.mp hg
    obtain ⟨h2, g2⟩ := List.getElem?_eq_some_iff.mp I.pl
    have := List.pairwise_iff_getElem.mp I.inc i d h1 h2 hi
    rw [g1, g2] at this
    exact this
  · rw [q]
    exact bef_last _ (by omega)
theorem VInv.old {rs : Rms} {many : Int} {fs : List Ent} {d : Nat} {e0 : Ent} {j : Nat} (I : VInv rs many fs d e0 j) (hm : nextOf rs e0.1 j ∈ fs.map (·.1)) : VInv rs many fs d e0 (j + 1) := by
  refine ⟨I.pl, I.hd, I.nd, I.ok, I.inc, fun e he => ?_, I.cov, fun l h0 h1 => ?_, I.ln⟩
  · rcases I.src e he with q | q | ⟨l, hl, q⟩
    · exact .inl q
    · exact .inr (.inl q)
    · exact .inr (.inr ⟨l, by omega, q⟩)
  · by_cases hl : l < j
    · exact I.cov2 l h0 hl
    · have e : l = j := by omega
      subst e
      obtain ⟨e', he', q⟩ := List.mem_map.mp hm
      exact ⟨e', he', q, bef_asym (I.bound e' he')⟩
theorem VInv.new {rs : Rms} {many : Int} {fs : List Ent} {d : Nat} {e0 : Ent} {j : Nat} (G : Good many rs) (I : VInv rs many fs d e0 j) (hj : (j : Int) < many) (hm : nextOf rs e0.1 j ∉ fs.map (·.1)) :
    VInv rs many (fs ++ [(nextOf rs e0.1 j, e0.2 ++ [(j : Int)])]) d e0 (j + 1) := by
  have lt : ∀ {i : Nat} {e : Ent}, fs[i]? = some e → (fs ++ [(nextOf rs e0.1 j, e0.2 ++ [(j : Int)])])[i]? = some e := fun {i e} h => by
    rw [List.getElem?_append_left (List.getElem?_eq_some_iff.mp h).1]
    exact h
  have mem : ∀ {e : Ent}, e ∈ fs → e ∈ fs ++ [(nextOf rs e0.1 j, e0.2 ++ [(j : Int)])] := fun h => List.mem_append_left _ h
  have h0 := I.ok e0 (List.mem_of_getElem? I.pl)
  have dl : d < fs.length := (List.getElem?_eq_some_iff.mp I.pl).1
  refine ⟨lt I.pl, lt I.hd, ?_, fun e he => ?_, ?_, fun e he => ?_, fun i e hi hg l l0 l1 => ?_, fun l l0 l1 => ?_, fun i e hg => ?_⟩
  · rw [List.map_append, List.nodup_append]
    refine ⟨I.nd, by simp, fun a ha b hb => ?_⟩
    have : b = nextOf rs e0.1 j := by simpa using hb
    subst this
    intro z
    subst z
    exact hm ha
  · rcases List.mem_append.mp he with he | he
    · exact I.ok e he
    · rw [List.mem_singleton] at he
      subst he
      have q := next_in G h0.1 h0.2.1 (l := (j : Int)) (by omega) hj
      refine ⟨q.1, q.2, fun l hl => ?_, ?_⟩
      · rcases List.mem_append.mp hl with hl | hl
        · exact h0.2.2.1 l hl
        · rw [List.mem_singleton] at hl
          omega
      · show walkM rs 0 (e0.2 ++ [(j : Int)]) = nextOf rs e0.1 j
        unfold walkM
        rw [List.foldl_append]
        show nextOf rs (walkM rs 0 e0.2) j = _
        rw [h0.2.2.2]
  · rw [List.pairwise_append]
    refine ⟨I.inc, by simp, fun a ha b hb => ?_⟩
    rw [List.mem_singleton] at hb
    subst hb
    exact I.bound a ha
  · rcases List.mem_append.mp he with he | he
    · rcases I.src e he with q | ⟨i, e', l, hi, hg, q⟩ | ⟨l, hl, q⟩
      · exact .inl q
      · exact .inr (.inl ⟨i, e', l, hi, lt hg, q⟩)
      · exact .inr (.inr ⟨l, by omega, q⟩)
    · rw [List.mem_singleton] at he
      subst he
      exact .inr (.inr ⟨j, by omega, rfl⟩)
  · rw [List.getElem?_append_left (by omega)] at hg
    obtain ⟨e', he', q⟩ := I.cov i e hi hg l l0 l1
    exact ⟨e', mem he', q⟩
  · by_cases hl : l < j
    · obtain ⟨e', he', q⟩ := I.cov2 l l0 hl
      exact ⟨e', mem he', q⟩
    · have e : l = j := by omega
      subst e
      exact ⟨_, List.mem_append_right _ (List.mem_singleton.mpr rfl), rfl, bef_self _⟩
  · by_cases hlt : i < fs.length
    · rw [List.getElem?_append_left hlt] at hg
      exact I.ln i e hg
    · rw [List.getElem?_append_right (by omega)] at hg
      have hi : i - fs.length = 0 := by
        cases g : i - fs.length with
        | zero => rfl
        | succ n => rw [g] at hg; simp at hg
      rw [hi] at hg
      cases hg
      have q := I.ln d e0 I.pl
      show (e0.2 ++ [(j : Int)]).length ≤ i
      rw [List.length_append, List.length_singleton]
      omega
theorem VInv.done {rs : Rms} {many : Int} {fs : List Ent} {d : Nat} {e0 : Ent} {j : Nat} (I : VInv rs many fs d e0 j) (hj : (j : Int) = many) : BInv rs many fs (d + 1) := by
  refine ⟨I.hd, I.nd, I.ok, I.inc, fun e he => ?_, fun i e hi hg l l0 l1 => ?_, I.ln⟩
  · rcases I.src e he with q | ⟨i, e', l, hi, hg, q⟩ | ⟨l, hl, q⟩
    · exact .inl q
    · exact .inr ⟨i, e', l, by omega, hg, q⟩
    · exact .inr ⟨d, e0, l, by omega, I.pl, q⟩
  · by_cases h : i < d
    · exact I.cov i e h hg l l0 l1
    · have z : i = d := by omega
      subst z
      rw [I.pl] at hg
      cases hg
      exact I.cov2 l l0 (by omega)
theorem BInv.init {rs : Rms} {many : Int} (G : Good many rs) : BInv rs many [(0, [])] 0 := by
  have := G.pos
  refine ⟨rfl, by simp, fun e he => ?_, by simp, fun e he => ?_, fun i e hi => by omega, fun i e hg => ?_⟩
  · rw [List.mem_singleton] at he
    subst he
    exact ⟨Int.le_refl 0, by show (0 : Int) < _; omega, fun l hl => by simp at hl, rfl⟩
  · rw [List.mem_singleton] at he
    subst he
    exact .inl rfl
  · cases i with
    | zero => cases hg; exact Nat.le_refl _
    | succ i => simp at hg
theorem filter_len : ∀ (l : List Int) (x : Int), l.Nodup → l.length ≤ (l.filter fun y => decide (y ≠ x)).length + 1
  | [], _, _ => Nat.zero_le _
  | a :: l, x, h => by
    obtain ⟨h1, h2⟩ := List.nodup_cons.mp h
    by_cases e : a = x
    · subst e
      have q : (l.filter fun y => decide (y ≠ a)) = l := List.filter_eq_self.mpr fun y hy => decide_eq_true fun z => h1 (z ▸ hy)
      rw [List.filter_cons_of_neg (by simp), q]
      simp
    · rw [List.filter_cons_of_pos (by simpa using e)]
      have := filter_len l x h2
      simp only [List.length_cons]
      omega
theorem nodup_le : ∀ (n : Nat) (l : List Int), l.Nodup → (∀ x ∈ l, 0 ≤ x ∧ x < (n : Int)) → l.length ≤ n
  | 0, l, _, h => by
    cases l with
    | nil => exact Nat.le_refl _
    | cons a l =>
      have := h a List.mem_cons_self
      omega
  | n + 1, l, nd, h => by
    have q := filter_len l n nd
    have r := nodup_le n (l.filter fun y => decide (y ≠ (n : Int))) (nd.sublist List.filter_sublist) fun x hx => by
      obtain ⟨h1, h2⟩ := List.mem_filter.mp hx
      have h3 := h x h1
      have h4 : x ≠ (n : Int) := of_decide_eq_true h2
      omega
    omega
theorem BInv.len {rs : Rms} {many : Int} {fs : List Ent} {d : Nat} (B : BInv rs many fs d) : fs.length ≤ rs.length := by
  have := nodup_le rs.length (fs.map (·.1)) B.nd fun x hx => by
    obtain ⟨e, he, q⟩ := List.mem_map.mp hx
    subst q
    exact ⟨(B.ok e he).1, (B.ok e he).2.1⟩
  rwa [List.length_map] at this
theorem VInv.len {rs : Rms} {many : Int} {fs : List Ent} {d : Nat} {e0 : Ent} {j : Nat} (B : VInv rs many fs d e0 j) : fs.length ≤ rs.length := by
  have := nodup_le rs.length (fs.map (·.1)) B.nd fun x hx => by
    obtain ⟨e, he, q⟩ := List.mem_map.mp hx
    subst q
    exact ⟨(B.ok e he).1, (B.ok e he).2.1⟩
  rwa [List.length_map] at this

def visit (w : List Int) : List Int → Nat → List Ent → List Ent
  | [], _, fs => fs
  | t :: ts, j, fs => visit w ts (j + 1) (if t ∈ fs.map (·.1) then fs else fs ++ [(t, w ++ [(j : Int)])])
def bfs (rs : Rms) : Nat → Nat → List Ent → List Ent
  | 0, _, fs => fs
  | n + 1, d, fs => match fs[d]? with
    | none => fs
    | some e => bfs rs n (d + 1) (visit e.2 (rs.getD e.1.toNat (false, [])).2 0 fs)
def waysM (rs : Rms) : List Ent := bfs rs (rs.length + 1) 0 [(0, [])]
end K21
namespace K21
open PySem L2 K20
def PairsAt (H : Hp) (qs : List Addr) (fs : List Ent) : Prop := qs.length = fs.length ∧ ∀ (i : Nat) (e : Ent), fs[i]? = some e → ∃ q z, qs[i]? = some q ∧ H q = some (.tup [.int e.1, .ref z]) ∧ H z = some (.tup (e.2.map V.int))
theorem PairsAt.tsame {H H' : Hp} {qs : List Addr} {fs : List Ent} (h : PairsAt H qs fs) (s : TSame H H') : PairsAt H' qs fs := ⟨h.1, fun i r e => by
  obtain ⟨q, z, h1, h2, h3⟩ := h.2 i r e
  exact ⟨q, z, h1, s _ _ h2, s _ _ h3⟩⟩
theorem PairsAt.snoc {H : Hp} {qs : List Addr} {fs : List Ent} {e : Ent} {q z : Addr} (h : PairsAt H qs fs) (h1 : H q = some (.tup [.int e.1, .ref z])) (h2 : H z = some (.tup (e.2.map V.int))) : PairsAt H (qs ++ [q]) (fs ++ [e]) := by
  refine ⟨by rw [List.length_append, List.length_append, h.1]; rfl, fun i r er => ?_⟩
  by_cases hlt : i < fs.length
  · rw [List.getElem?_append_left hlt] at er
    obtain ⟨q', z', g1, g2, g3⟩ := h.2 i r er
    exact ⟨q', z', by rw [List.getElem?_append_left (by rw [h.1]; exact hlt)]; exact g1, g2, g3⟩
  · rw [List.getElem?_append_right (by omega)] at er
    have hi : i - fs.length = 0 := by
      cases g : i - fs.length with
      | zero => rfl
      | succ n => rw [g] at er; simp at er
    rw [hi] at er
    cases er
    refine ⟨q, z, ?_, h1, h2⟩
    have : i = qs.length := by rw [h.1]; omega
    rw [this, List.getElem?_append_right (Nat.le_refl _), Nat.sub_self]
    rfl
def keysT (fs : List Ent) : List (Key × V) := fs.map fun e => ((Sum.inl e.1 : Key), V.bl true)
theorem val_some {β : Type} (g : β → Int × V) (t : Int) : ∀ fs : List β, (valV (fs.map fun e => ((Sum.inl (g e).1 : Key), (g e).2)) (Sum.inl t : Key)).isSome = decide (t ∈ fs.map fun e => (g e).1)
  | [] => rfl
  | e :: fs => by
    rw [List.map_cons, List.map_cons]
    by_cases h : (g e).1 = t
    · rw [valV_pos (by rw [h])]
      subst h
      simp
    · rw [valV_neg (by intro z; exact h (Sum.inl.inj z)), val_some g t fs]
      have : t ∈ (g e).1 :: (fs.map fun e => (g e).1) ↔ t ∈ fs.map fun e => (g e).1 := by
        rw [List.mem_cons]
        exact ⟨fun z => z.elim (fun z => absurd z.symm h) id, .inr⟩
      exact (decide_eq_decide.mpr this).symm
theorem keys_some (t : Int) (fs : List Ent) : (valV (keysT fs) (Sum.inl t : Key)).isSome = decide (t ∈ fs.map (·.1)) := val_some (fun e : Ent => (e.1, V.bl true)) t fs
theorem visit_drop (w : List Int) (ns : List Int) (j : Nat) (t : Int) (fs : List Ent) (h : ns[j]? = some t) : visit w (ns.drop j) j fs = visit w (ns.drop (j + 1)) (j + 1) (if t ∈ fs.map (·.1) then fs else fs ++ [(t, w ++ [(j : Int)])]) := by
  obtain ⟨h1, h2⟩ := List.getElem?_eq_some_iff.mp h
  rw [List.drop_eq_getElem_cons h1, h2]
  rfl

def spWy : Sp := fun vs H Q _ => ∃ (a : Addr) (many : Int) (rs : Rms), vs = [.ref a] ∧ MAt H a many rs ∧ Good many rs ∧
  ∀ (p : Addr) (qs : List Addr) (H' : Hp), Same H H' → H' p = some (.tup (qs.map V.ref)) → PairsAt H' qs (waysM rs) → BInv rs many (waysM rs) (waysM rs).length → Q (.ref p) H'
end K21
namespace K60
open K20 K21

def gd (rs : Rms) (n : Int) : Bool := (rs.getD n.toNat (false, [])).1
def Lts (many : Int) (run : List Int) : Prop := ∀ l ∈ run, 0 ≤ l ∧ l < many
def Rch (rs : Rms) (many a b : Int) : Prop := ∃ run, Lts many run ∧ walkM rs a run = b
theorem Lts.nil {many : Int} : Lts many [] := fun l hl => by simp at hl
theorem Lts.cons {many l : Int} {run : List Int} (l0 : 0 ≤ l) (l1 : l < many) (h : Lts many run) : Lts many (l :: run) := fun x hx => by
  rcases List.mem_cons.mp hx with hx | hx
  · subst hx
    exact ⟨l0, l1⟩
  · exact h x hx
theorem Lts.app {many : Int} {a b : List Int} (ha : Lts many a) (hb : Lts many b) : Lts many (a ++ b) := fun x hx => (List.mem_append.mp hx).elim (ha x) (hb x)
theorem Lts.head {many l : Int} {run : List Int} (h : Lts many (l :: run)) : 0 ≤ l ∧ l < many := h l List.mem_cons_self
theorem Lts.tail {many l : Int} {run : List Int} (h : Lts many (l :: run)) : Lts many run := fun x hx => h x (List.mem_cons_of_mem _ hx)
theorem walk_app (rs : Rms) (h : Int) (a b : List Int) : walkM rs h (a ++ b) = walkM rs (walkM rs h a) b := by
  unfold walkM
  rw [List.foldl_append]
theorem Rch.refl {rs : Rms} {many a : Int} : Rch rs many a a := ⟨[], Lts.nil, rfl⟩
theorem Rch.snoc {rs : Rms} {many a b l : Int} (h : Rch rs many a b) (l0 : 0 ≤ l) (l1 : l < many) : Rch rs many a (nextOf rs b l) := by
  obtain ⟨run, h1, h2⟩ := h
  refine ⟨run ++ [l], h1.app (Lts.nil.cons l0 l1), ?_⟩
  rw [walk_app, h2]
  rfl
theorem closed_has {many : Int} {rs : Rms} (G : Good many rs) {S : Int → Prop} (hS : ∀ x, S x → 0 ≤ x → x < (rs.length : Int) → ∀ l, 0 ≤ l → l < many → S (nextOf rs x l)) :
    ∀ (run : List Int) (a : Int), 0 ≤ a → a < (rs.length : Int) → S a → Lts many run → S (walkM rs a run)
  | [], a, _, _, ha, _ => ha
  | l :: run, a, a0, a1, ha, hl => by
    have q := next_in G a0 a1 hl.head.1 hl.head.2
    exact closed_has G hS run (nextOf rs a l) q.1 q.2 (hS a ha a0 a1 l hl.head.1 hl.head.2) hl.tail

structure HB (rs : Rms) (many a : Int) (fs : List Int) (d : Nat) : Prop where
  hd : a ∈ fs
  nd : fs.Nodup
  ok : ∀ x ∈ fs, 0 ≤ x ∧ x < (rs.length : Int) ∧ Rch rs many a x
  cov : ∀ (i : Nat) (x : Int), i < d → fs[i]? = some x → ∀ l : Int, 0 ≤ l → l < many → nextOf rs x l ∈ fs
structure HV (rs : Rms) (many a : Int) (fs : List Int) (d : Nat) (x0 : Int) (j : Nat) : Prop where
  pl : fs[d]? = some x0
  hd : a ∈ fs
  nd : fs.Nodup
  ok : ∀ x ∈ fs, 0 ≤ x ∧ x < (rs.length : Int) ∧ Rch rs many a x
  cov : ∀ (i : Nat) (x : Int), i < d → fs[i]? = some x → ∀ l : Int, 0 ≤ l → l < many → nextOf rs x l ∈ fs
  cov2 : ∀ l : Int, 0 ≤ l → l < j → nextOf rs x0 l ∈ fs
theorem HB.init {rs : Rms} {many a : Int} (a0 : 0 ≤ a) (a1 : a < (rs.length : Int)) : HB rs many a [a] 0 :=
  ⟨List.mem_singleton.mpr rfl, by simp, fun x hx => by rw [List.mem_singleton] at hx; subst hx; exact ⟨a0, a1, Rch.refl⟩, fun i x hi => by omega⟩
theorem HV.start {rs : Rms} {many a : Int} {fs : List Int} {d : Nat} {x0 : Int} (B : HB rs many a fs d) (h : fs[d]? = some x0) : HV rs many a fs d x0 0 :=
  ⟨h, B.hd, B.nd, B.ok, B.cov, fun l h0 h1 => by omega⟩
theorem HV.old {rs : Rms} {many a : Int} {fs : List Int} {d : Nat} {x0 : Int} {j : Nat} (I : HV rs many a fs d x0 j) (h : nextOf rs x0 j ∈ fs) : HV rs many a fs d x0 (j + 1) :=
  ⟨I.pl, I.hd, I.nd, I.ok, I.cov, fun l h0 h1 => by
    by_cases hl : l < j
    · exact I.cov2 l h0 hl
    · have e : l = j := by omega
      subst e
      exact h⟩
theorem HV.new {rs : Rms} {many a : Int} {fs : List Int} {d : Nat} {x0 : Int} {j : Nat} (G : Good many rs) (I : HV rs many a fs d x0 j) (hj : (j : Int) < many) (h : nextOf rs x0 j ∉ fs) : HV rs many a (fs ++ [nextOf rs x0 j]) d x0 (j + 1) := by
  have dl : d < fs.length := (List.getElem?_eq_some_iff.mp I.pl).1
  have h0 := I.ok x0 (List.mem_of_getElem? I.pl)
  refine ⟨by rw [List.getElem?_append_left dl]; exact I.pl, List.mem_append_left _ I.hd, ?_, fun x hx => ?_, fun i x hi hg l l0 l1 => ?_, fun l l0 l1 => ?_⟩
  · rw [List.nodup_append]
    refine ⟨I.nd, by simp, fun x hx y hy => ?_⟩
    rw [List.mem_singleton] at hy
    subst hy
    intro z
    subst z
    exact h hx
  · rcases List.mem_append.mp hx with hx | hx
    · exact I.ok x hx
    · rw [List.mem_singleton] at hx
      subst hx
      have q := next_in G h0.1 h0.2.1 (l := (j : Int)) (by omega) hj
      exact ⟨q.1, q.2, h0.2.2.snoc (by omega) hj⟩
  · rw [List.getElem?_append_left (by omega)] at hg
    exact List.mem_append_left _ (I.cov i x hi hg l l0 l1)
  · by_cases hl : l < j
    · exact List.mem_append_left _ (I.cov2 l l0 hl)
    · have e : l = j := by omega
      subst e
      exact List.mem_append_right _ (List.mem_singleton.mpr rfl)
theorem HV.done {rs : Rms} {many a : Int} {fs : List Int} {d : Nat} {x0 : Int} {j : Nat} (I : HV rs many a fs d x0 j) (hj : (j : Int) = many) : HB rs many a fs (d + 1) :=
  ⟨I.hd, I.nd, I.ok, fun i x hi hg l l0 l1 => by
    by_cases h : i < d
    · exact I.cov i x h hg l l0 l1
    · have z : i = d := by omega
      subst z
      rw [I.pl] at hg
      cases hg
      exact I.cov2 l l0 (by omega)⟩
theorem HB.len {rs : Rms} {many a : Int} {fs : List Int} {d : Nat} (B : HB rs many a fs d) : fs.length ≤ rs.length := nodup_le rs.length fs B.nd fun x hx => ⟨(B.ok x hx).1, (B.ok x hx).2.1⟩
theorem HV.len {rs : Rms} {many a : Int} {fs : List Int} {d : Nat} {x0 : Int} {j : Nat} (B : HV rs many a fs d x0 j) : fs.length ≤ rs.length := nodup_le rs.length fs B.nd fun x hx => ⟨(B.ok x hx).1, (B.ok x hx).2.1⟩
theorem HB.all {rs : Rms} {many a : Int} {fs : List Int} (G : Good many rs) (B : HB rs many a fs fs.length) (x : Int) : x ∈ fs ↔ Rch rs many a x := by
  refine ⟨fun h => (B.ok x h).2.2, fun ⟨run, h1, h2⟩ => ?_⟩
  have ha := B.ok a B.hd
  rw [← h2]
  refine closed_has G (S := fun y => y ∈ fs) (fun y hy _ _ l l0 l1 => ?_) run a ha.1 ha.2.1 B.hd h1
  obtain ⟨i, hi, e⟩ := List.getElem_of_mem hy
  exact B.cov i y hi (by rw [List.getElem?_eq_getElem hi, e]) l l0 l1

structure KI (rs : Rms) (many : Int) (ks : List Ent) : Prop where
  nd : (ks.map (·.1)).Nodup
  ok : ∀ (i : Nat) (e : Ent), ks[i]? = some e → 0 ≤ e.1 ∧ e.1 < (rs.length : Int) ∧ Lts many e.2 ∧ gd rs (walkM rs e.1 e.2) = true ∧ e.2.length ≤ i ∧ (gd rs e.1 = true → e.2 = [])
theorem KI.nil {rs : Rms} {many : Int} : KI rs many [] := ⟨List.nodup_nil, fun i e h => by simp at h⟩
theorem KI.snoc {rs : Rms} {many : Int} {ks : List Ent} {e : Ent} (I : KI rs many ks) (hn : e.1 ∉ ks.map (·.1)) (h : 0 ≤ e.1 ∧ e.1 < (rs.length : Int) ∧ Lts many e.2 ∧ gd rs (walkM rs e.1 e.2) = true ∧ e.2.length ≤ ks.length ∧ (gd rs e.1 = true → e.2 = [])) : KI rs many (ks ++ [e]) := by
  refine ⟨?_, fun i e' hg => ?_⟩
  · rw [List.map_append, List.nodup_append]
    refine ⟨I.nd, by simp, fun x hx y hy => ?_⟩
    have hy' : y = e.1 := by simpa using hy
    subst hy'
    intro z
    subst z
    exact hn hx
  · by_cases hlt : i < ks.length
    · rw [List.getElem?_append_left hlt] at hg
      exact I.ok i e' hg
    · rw [List.getElem?_append_right (by omega)] at hg
      have hi : i - ks.length = 0 := by
        cases g : i - ks.length with
        | zero => rfl
        | succ n => rw [g] at hg; simp at hg
      rw [hi] at hg
      cases hg
      refine ⟨h.1, h.2.1, h.2.2.1, h.2.2.2.1, ?_, h.2.2.2.2.2⟩
      have := h.2.2.2.2.1
      omega
theorem KI.good {rs : Rms} {many : Int} {ks : List Ent} {n : Int} (I : KI rs many ks) (n0 : 0 ≤ n) (n1 : n < (rs.length : Int)) (g : gd rs n = true) (hn : n ∉ ks.map (·.1)) : KI rs many (ks ++ [(n, [])]) :=
  I.snoc (e := (n, [])) hn ⟨n0, n1, Lts.nil, g, Nat.zero_le _, fun _ => rfl⟩
theorem KI.next {rs : Rms} {many : Int} {ks : List Ent} {n l : Int} {e : Ent} {i : Nat} (I : KI rs many ks) (n0 : 0 ≤ n) (n1 : n < (rs.length : Int)) (l0 : 0 ≤ l) (l1 : l < many) (g : gd rs n = false) (hn : n ∉ ks.map (·.1))
    (he : ks[i]? = some e) (hx : nextOf rs n l = e.1) : KI rs many (ks ++ [(n, l :: e.2)]) := by
  have q := I.ok i e he
  have hi : i < ks.length := (List.getElem?_eq_some_iff.mp he).1
  refine I.snoc (e := (n, l :: e.2)) hn ⟨n0, n1, q.2.2.1.cons l0 l1, ?_, ?_, fun z => ?_⟩
  · show gd rs (walkM rs (nextOf rs n l) e.2) = true
    rw [hx]
    exact q.2.2.2.1
  · have := q.2.2.2.2.1
    show e.2.length + 1 ≤ ks.length
    omega
  · have z' : gd rs n = true := z
    rw [g] at z'
    cases z'
theorem KI.len {rs : Rms} {many : Int} {ks : List Ent} (I : KI rs many ks) : ks.length ≤ rs.length := by
  have := nodup_le rs.length (ks.map (·.1)) I.nd fun x hx => by
    obtain ⟨e, he, q⟩ := List.mem_map.mp hx
    obtain ⟨i, hi, z⟩ := List.getElem_of_mem he
    have := I.ok i e (by rw [List.getElem?_eq_getElem hi, z])
    subst q
    exact ⟨this.1, this.2.1⟩
  rwa [List.length_map] at this
structure KDone (rs : Rms) (many : Int) (ks : List Ent) : Prop where
  ki : KI rs many ks
  goods : ∀ n : Int, 0 ≤ n → n < (rs.length : Int) → gd rs n = true → n ∈ ks.map (·.1)
  shut : ∀ n : Int, 0 ≤ n → n < (rs.length : Int) → n ∉ ks.map (·.1) → ∀ l : Int, 0 ≤ l → l < many → nextOf rs n l ∉ ks.map (·.1)
theorem KDone.has {rs : Rms} {many : Int} {ks : List Ent} (G : Good many rs) (D : KDone rs many ks) : ∀ (run : List Int) (n : Int), 0 ≤ n → n < (rs.length : Int) → Lts many run → gd rs (walkM rs n run) = true → n ∈ ks.map (·.1)
  | [], n, n0, n1, _, g => D.goods n n0 n1 g
  | l :: run, n, n0, n1, hl, g => by
    have q := next_in G n0 n1 hl.head.1 hl.head.2
    have r := D.has G run (nextOf rs n l) q.1 q.2 hl.tail g
    by_cases h : n ∈ ks.map (·.1)
    · exact h
    · exact absurd r (D.shut n n0 n1 h l hl.head.1 hl.head.2)
theorem KDone.iff {rs : Rms} {many : Int} {ks : List Ent} (G : Good many rs) (D : KDone rs many ks) {n : Int} (n0 : 0 ≤ n) (n1 : n < (rs.length : Int)) : n ∈ ks.map (·.1) ↔ ∃ g, Rch rs many n g ∧ gd rs g = true := by
  refine ⟨fun h => ?_, fun ⟨g, ⟨run, h1, h2⟩, h3⟩ => D.has G run n n0 n1 h1 (by rw [h2]; exact h3)⟩
  obtain ⟨e, he, q⟩ := List.mem_map.mp h
  obtain ⟨i, hi, z⟩ := List.getElem_of_mem he
  have o := D.ki.ok i e (by rw [List.getElem?_eq_getElem hi, z])
  subst q
  exact ⟨_, ⟨e.2, o.2.2.1, rfl⟩, o.2.2.2.1⟩

theorem ways_iff {rs : Rms} {many : Int} {fs : List Ent} (G : Good many rs) (B : BInv rs many fs fs.length) (x : Int) : x ∈ fs.map (·.1) ↔ Rch rs many 0 x := by
  have hp : (0 : Int) < rs.length := by have := G.pos; omega
  refine ⟨fun h => ?_, fun ⟨run, h1, h2⟩ => ?_⟩
  · obtain ⟨e, he, q⟩ := List.mem_map.mp h
    have o := B.ok e he
    subst q
    exact ⟨e.2, o.2.2.1, o.2.2.2⟩
  · rw [← h2]
    refine closed_has G (S := fun y => y ∈ fs.map (·.1)) (fun y hy _ _ l l0 l1 => ?_) run 0 (Int.le_refl 0) hp (List.mem_map.mpr ⟨(0, []), List.mem_of_getElem? B.hd, rfl⟩) h1
    obtain ⟨e, he, q⟩ := List.mem_map.mp hy
    obtain ⟨i, hi, z⟩ := List.getElem_of_mem he
    obtain ⟨e', he', q', _⟩ := B.cov i e hi (by rw [List.getElem?_eq_getElem hi, z]) l l0 l1
    subst q
    exact List.mem_map.mpr ⟨e', he', q'⟩

theorem inc_of {a : List Int} (h1 : a.Pairwise (· ≤ ·)) (h2 : a.Nodup) : a.Pairwise (· < ·) := (h1.and h2).imp fun ⟨p, q⟩ => by
  have q' : _ ≠ _ := q
  omega
end K60
namespace SO
open PySem PyProof PyProof.Rows

section
variable {M : Model} {A : Around} {E : Value → Shared → Prop} {s : Shared} {O : KeyOrd} {ky : Keyed → O.α} {κ : SortKind} {a₀ : Array Keyed}
def Cmp (M : Model) (A : Around) (s : Shared) (O : KeyOrd) (ky : Keyed → O.α) (κ : SortKind) (a₀ : Array Keyed) : Prop := ∀ x ∈ a₀.toList, ∀ y ∈ a₀.toList, ∀ (Q : Bool → Shared → Prop) (E : Value → Shared → Prop), Q (O.blt (ky x) (ky y)) s → wpAny M A (keyLt' κ x.1 y.1) Q E s
def dK : Keyed := (Value.none, Value.none)
def kk (ky : Keyed → O.α) (xs : Array Keyed) (i : Nat) : O.α := ky (xs[i]?.getD dK)
structure SB (κ : SortKind) (a₀ : Array Keyed) (st : SortSt) : Prop where
  perm : (arrOf st).Perm a₀
  kind : kindOf st = κ
  failed : failedOf st = none
theorem SB.size {st : SortSt} (h : SB κ a₀ st) : (arrOf st).size = a₀.size := h.perm.size_eq
theorem SB.set {st : SortSt} (h : SB κ a₀ st) {xs : Array Keyed} (hp : xs.Perm (arrOf st)) : SB κ a₀ (setArr st xs) := ⟨hp.trans h.perm, h.kind, h.failed⟩
theorem SB.mem {st : SortSt} (h : SB κ a₀ st) {x : Keyed} (hx : x ∈ (arrOf st).toList) : x ∈ a₀.toList := (Array.perm_iff_toList_perm.mp h.perm).mem_iff.mp hx
theorem SB.at {st : SortSt} (h : SB κ a₀ st) {i : Nat} (hi : i < a₀.size) : ∃ x, (arrOf st)[i]? = some x ∧ x ∈ a₀.toList ∧ kk ky (arrOf st) i = ky x := by
  have hi' : i < (arrOf st).size := by rw [h.size]; exact hi
  have e : (arrOf st)[i]? = some (arrOf st)[i] := getElem?_pos _ i hi'
  refine ⟨_, e, h.mem (by simp), ?_⟩
  unfold kk
  rw [e]
  rfl
theorem wpS_lt {st : SortSt} {x y : Keyed} {Q : Option Bool → SortSt → Prop} (hC : Cmp M A s O ky κ a₀) (hx : x ∈ a₀.toList) (hy : y ∈ a₀.toList) (hk : kindOf st = κ) (h : Q (some (O.blt (ky x) (ky y))) st) : wpS M A E s (lt' x y) Q st := by
  rw [lt'_eq]
  refine wpS_bind (wpS_get ?_)
  rw [hk]
  refine wpS_bind (wpS_lift (wpAny_attempt (hC x hx y hy _ _ ⟨rfl, ?_⟩)))
  exact wpS_pure h
theorem wpS_elem {st : SortSt} {arr : Array Keyed} {i : Nat} {x : Keyed} {Q : Keyed → SortSt → Prop} (hi : arr[i]? = some x) (h : Q x st) : wpS M A E s (elem' arr i) Q st := by
  rw [elem'_eq, hi]
  exact wpS_pure h
theorem wpS_ltA {st : SortSt} {i j : Nat} {Q : Option Bool → SortSt → Prop} (hC : Cmp M A s O ky κ a₀) (hB : SB κ a₀ st) (hi : i < a₀.size) (hj : j < a₀.size) (h : Q (some (O.blt (kk ky (arrOf st) i) (kk ky (arrOf st) j))) st) : wpS M A E s (ltAt' i j) Q st := by
  obtain ⟨x, e1, hx, k1⟩ := hB.at (ky := ky) hi
  obtain ⟨y, e2, hy, k2⟩ := hB.at (ky := ky) hj
  rw [k1, k2] at h
  rw [ltAt'_eq]
  refine wpS_bind (wpS_get ?_)
  exact wpS_bind (wpS_elem e1 (wpS_bind (wpS_elem e2 (wpS_lt hC hx hy hB.kind h))))
theorem kk_congr {xs ys : Array Keyed} {i j : Nat} (h : xs[i]? = ys[j]?) : kk ky xs i = kk ky ys j := by unfold kk; rw [h]
theorem kk_bubble {xs : Array Keyed} {src d : Nat} (hs : src < xs.size) (hd : d ≤ src) (k : Nat) : kk ky (bubble xs src d) k = if k = src - d then kk ky xs src else if src - d < k ∧ k ≤ src then kk ky xs (k - 1) else kk ky xs k := by
  have e := getElem?_bubble hs d hd k
  by_cases h1 : k = src - d
  · rw [if_pos h1] at e ⊢; exact kk_congr e
  · rw [if_neg h1] at e ⊢
    by_cases h2 : src - d < k ∧ k ≤ src
    · rw [if_pos h2] at e ⊢; exact kk_congr e
    · rw [if_neg h2] at e ⊢; exact kk_congr e
theorem kk_mirror {xs : Array Keyed} {i j : Nat} (hj : j ≤ xs.size) (k : Nat) : kk ky (mirror xs i j ((j - i) / 2)) k = if i ≤ k ∧ k < j then kk ky xs (i + j - 1 - k) else kk ky xs k := by
  have e := getElem?_mirror_all (i := i) hj k
  by_cases h1 : i ≤ k ∧ k < j
  · rw [if_pos h1] at e ⊢; exact kk_congr e
  · rw [if_neg h1] at e ⊢; exact kk_congr e
theorem kk_mirror_equal {xs : Array Keyed} {i j : Nat} (hj : j ≤ xs.size) (heq : ∀ k, i ≤ k → k < j → kk ky xs k = kk ky xs (j - 1)) (k : Nat) : kk ky (mirror xs i j ((j - i) / 2)) k = kk ky xs k := by
  rw [kk_mirror hj]
  split
  · rw [heq _ (by omega) (by omega), heq k (by omega) (by omega)]
  · rfl

def Ag (xs ys : Array Keyed) (lo hi : Nat) : Prop := ∀ k, k < lo ∨ hi ≤ k → ys[k]? = xs[k]?
theorem Ag.refl (xs : Array Keyed) (lo hi : Nat) : Ag xs xs lo hi := fun _ _ => rfl
theorem Ag.trans {xs ys zs : Array Keyed} {lo hi : Nat} (a : Ag xs ys lo hi) (b : Ag ys zs lo hi) : Ag xs zs lo hi := fun k h => (b k h).trans (a k h)
theorem Ag.mirror {xs : Array Keyed} {i j lo hi : Nat} (hj : j ≤ xs.size) (h1 : lo ≤ i) (h2 : j ≤ hi) : Ag xs (mirror xs i j ((j - i) / 2)) lo hi := fun k h => by
  rw [getElem?_mirror_all hj, if_neg (by omega)]
theorem Ag.bubble {xs : Array Keyed} {src d lo hi : Nat} (hs : src < xs.size) (hd : d ≤ src) (h1 : lo ≤ src - d) (h2 : src < hi) : Ag xs (bubble xs src d) lo hi := fun k h => by
  rw [getElem?_bubble hs d hd, if_neg (by omega), if_neg (by omega)]
def Up (ky : Keyed → O.α) (xs : Array Keyed) (lo n : Nat) : Prop := ∀ i j, i ≤ j → j < n → O.kle (kk ky xs (lo + i)) (kk ky xs (lo + j))
def Dn (ky : Keyed → O.α) (xs : Array Keyed) (lo n : Nat) : Prop := ∀ i j, i ≤ j → j < n → O.kle (kk ky xs (lo + j)) (kk ky xs (lo + i))

def ascL (lo a nrem : Nat) : StateT SortSt Sem AscSt :=
  forIn [a:nrem] ((none, a) : AscSt) fun _ __s => do
    let __x ← ltAt' (lo + __s.snd) (lo + __s.snd - 1)
    match __x with
    | some smaller => if smaller = true then pure (ForInStep.done (none, __s.snd)) else pure (ForInStep.yield (none, __s.snd + 1))
    | _ => pure (ForInStep.done (some none, __s.snd))
def tailL (lo n nrem : Nat) : StateT SortSt Sem (Option Nat) := do
  reverseSlice' lo (lo + n)
  let __s ← ascL lo n nrem
  match __s.fst with
  | some r => pure r
  | none => pure (some __s.snd)
def descL (lo n nrem : Nat) : StateT SortSt Sem DescSt :=
  forIn [n:nrem] ((none, n, 0) : DescSt) fun _ __s => do
    let __x ← ltAt' (lo + __s.snd.fst) (lo + __s.snd.fst - 1)
    match __x with
    | some smaller =>
      if smaller = true then
        if __s.snd.snd > 0 then do
          reverseSlice' (lo + __s.snd.fst - (__s.snd.snd + 1)) (lo + __s.snd.fst)
          pure (ForInStep.yield (none, __s.snd.fst + 1, 0))
        else pure (ForInStep.yield (none, __s.snd.fst + 1, 0))
      else do
        let __x ← ltAt' (lo + __s.snd.fst - 1) (lo + __s.snd.fst)
        match __x with
        | some larger =>
          if larger = true then pure (ForInStep.done (none, __s.snd.fst, __s.snd.snd))
          else pure (ForInStep.yield (none, __s.snd.fst + 1, __s.snd.snd + 1))
        | _ => pure (ForInStep.done (some none, __s.snd.fst, __s.snd.snd))
    | _ => pure (ForInStep.done (some none, __s.snd.fst, __s.snd.snd))
def partL (lo n nrem : Nat) : StateT SortSt Sem (Option Nat) := do
  liftM (rule "list.sort.descending-run")
  let __s ← descL lo (n + 1) nrem
  match __s.fst with
  | some r => pure r
  | none =>
    if __s.snd.snd > 0 then do
      reverseSlice' (lo + __s.snd.fst - (__s.snd.snd + 1)) (lo + __s.snd.fst)
      tailL lo __s.snd.fst nrem
    else tailL lo __s.snd.fst nrem
theorem bcong {α β : Type} {m m' : StateT SortSt Sem α} {f g : α → StateT SortSt Sem β} (h : m = m') (h' : ∀ x, f x = g x) : (m >>= f) = (m' >>= g) := by rw [h, show f = g from funext h']
theorem tailL_eq (lo n nrem : Nat) : tailL lo n nrem = (do
    reverseSlice' lo (lo + n)
    let mut n := n
    for _ in [n:nrem] do
      let some smaller ← ltAt' (lo + n) (lo + n - 1) | return none
      if smaller then break
      n := n + 1
    return some n) := by
  unfold tailL ascL
  refine bcong rfl fun _ => bcong rfl fun s3 => ?_
  obtain ⟨r3, n3⟩ := s3
  cases r3 <;> rfl
theorem partL_eq (lo n nrem : Nat) : partL lo n nrem = (do
  let mut n := n
  rule "list.sort.descending-run"
  n := n + 1
  let mut neq := 0
  for _ in [n:nrem] do
    let some smaller ← ltAt' (lo + n) (lo + n - 1) | return none
    if smaller then
      if neq > 0 then reverseSlice' (lo + n - (neq + 1)) (lo + n)
      neq := 0
    else
      let some larger ← ltAt' (lo + n - 1) (lo + n) | return none
      if larger then break
      neq := neq + 1
    n := n + 1
  if neq > 0 then reverseSlice' (lo + n - (neq + 1)) (lo + n)
  tailL lo n nrem) := by
  unfold partL descL
  refine bcong rfl fun _ => bcong rfl fun s3 => ?_
  obtain ⟨r3, n3, q3⟩ := s3
  cases r3 <;> rfl
theorem countL_eq (lo nrem : Nat) : countRun' lo nrem = (do
    let __s ← ascL lo 1 nrem
    match __s.fst with
    | some r => pure r
    | none =>
      if (__s.snd == nrem) = true then pure (some __s.snd)
      else if __s.snd > 1 then do
        let __x ← ltAt' lo (lo + __s.snd - 1)
        match __x with
        | some rose => if rose = true then pure (some __s.snd) else do
            reverseSlice' lo (lo + __s.snd)
            partL lo __s.snd nrem
        | _ => pure none
      else partL lo __s.snd nrem) := by
  rw [countRun'_eq]
  refine bcong (by unfold ascL; rfl) fun __s => ?_
  obtain ⟨r, n⟩ := __s
  cases r with
  | some r => rfl
  | none =>
    dsimp only
    split
    · rfl
    · split
      · refine bcong rfl fun x => ?_
        cases x with
        | none => rfl
        | some rose =>
          dsimp only
          split
          · rfl
          · refine bcong rfl fun _ => ?_
            rw [partL_eq]
            simp only [tailL_eq]
            rfl
      · rw [partL_eq]
        simp only [tailL_eq]
        rfl
end
end SO
namespace SO
open PySem PyProof PyProof.Rows
section
variable {M : Model} {A : Around} {E : Value → Shared → Prop} {s : Shared} {O : KeyOrd} {ky : Keyed → O.α} {κ : SortKind} {a₀ : Array Keyed}
theorem wpS_rev {st : SortSt} {i j : Nat} {Q : Unit → SortSt → Prop} (h : Q () (setArr st (mirror (arrOf st) i j ((j - i) / 2)))) : wpS M A E s (reverseSlice' i j) Q st := by
  rw [reverseSlice'_eq]; exact wpS_modify h

structure Kp (κ : SortKind) (a₀ : Array Keyed) (lo hi : Nat) (st st' : SortSt) : Prop where
  sb : SB κ a₀ st'
  ag : Ag (arrOf st) (arrOf st') lo hi
  pend : pendingOf st' = pendingOf st
theorem Kp.refl {lo hi : Nat} {st : SortSt} (h : SB κ a₀ st) : Kp κ a₀ lo hi st st := ⟨h, Ag.refl _ _ _, rfl⟩
theorem Kp.trans {lo hi : Nat} {st st' st'' : SortSt} (a : Kp κ a₀ lo hi st st') (b : Kp κ a₀ lo hi st' st'') : Kp κ a₀ lo hi st st'' := ⟨b.sb, a.ag.trans b.ag, b.pend.trans a.pend⟩
theorem Kp.mirror {lo hi i j : Nat} {st st' : SortSt} (a : Kp κ a₀ lo hi st st') (hj : j ≤ a₀.size) (h1 : lo ≤ i) (h2 : j ≤ hi) : Kp κ a₀ lo hi st (setArr st' (mirror (arrOf st') i j ((j - i) / 2))) :=
  a.trans ⟨a.sb.set (mirror_perm _ _ _ _), Ag.mirror (by rw [a.sb.size]; exact hj) h1 h2, rfl⟩
theorem wpS_ascL {st : SortSt} {lo a nrem : Nat} {Q : AscSt → SortSt → Prop} (hC : Cmp M A s O ky κ a₀) (hn : lo + nrem ≤ a₀.size) (ha : 1 ≤ a) (han : a ≤ nrem) (hB : SB κ a₀ st) (hs : Up ky (arrOf st) lo a)
    (h : ∀ n, a ≤ n → n ≤ nrem → Up ky (arrOf st) lo n → (n = nrem ∨ O.klt (kk ky (arrOf st) (lo + n)) (kk ky (arrOf st) (lo + n - 1))) → Q (none, n) st) : wpS M A E s (ascL lo a nrem) Q st := by
  unfold ascL
  refine wpS_forRange (I := fun x c st' => st' = st ∧ c = (none, x) ∧ Up ky (arrOf st) lo x) ?step ?fin ⟨rfl, rfl, hs⟩
  case fin =>
    rintro c st' ⟨rfl, rfl, hs'⟩
    rw [show max a nrem = nrem by omega] at hs' ⊢
    exact h nrem han (Nat.le_refl _) hs' (.inl rfl)
  case step =>
    rintro x c st' hax hxn ⟨rfl, rfl, hs'⟩
    dsimp only
    refine wpS_bind (wpS_ltA (ky := ky) hC hB (by omega) (by omega) ?_)
    cases hless : O.blt (kk ky (arrOf st') (lo + x)) (kk ky (arrOf st') (lo + x - 1))
    case true =>
      simp only [if_true]
      exact wpS_pure (h x hax (by omega) hs' (.inr hless))
    case false =>
      simp only [Bool.false_eq_true, if_false]
      refine wpS_pure ⟨rfl, rfl, fun i j hij hj => ?_⟩
      by_cases hjx : j < x
      · exact hs' i j hij hjx
      · have hj' : j = x := by omega
        subst hj'
        by_cases hi' : i = j
        · subst hi'; exact KeyOrd.kle_refl _
        · refine KeyOrd.kle_trans (hs' i (j - 1) (by omega) (by omega)) ?_
          rw [show lo + (j - 1) = lo + j - 1 by omega]
          exact hless
theorem wpS_tailL {st₀ st : SortSt} {lo n nrem : Nat} {Q : Option Nat → SortSt → Prop} (hC : Cmp M A s O ky κ a₀) (hn : lo + nrem ≤ a₀.size) (h1 : 1 ≤ n) (hnn : n ≤ nrem) (hB : Kp κ a₀ lo (lo + nrem) st₀ st) (hs : Dn ky (arrOf st) lo n)
    (h : ∀ m st', Kp κ a₀ lo (lo + nrem) st₀ st' → 1 ≤ m → m ≤ nrem → Up ky (arrOf st') lo m → Q (some m) st') : wpS M A E s (tailL lo n nrem) Q st := by
  unfold tailL
  have hsz : lo + n ≤ (arrOf st).size := by rw [hB.sb.size]; omega
  refine wpS_bind (wpS_rev ?_)
  have hB' := hB.mirror (i := lo) (j := lo + n) (by omega) (by omega) (by omega)
  refine wpS_bind (wpS_ascL hC hn h1 hnn hB'.sb ?_ fun m hm1 hm2 hsm _ => wpS_pure (h m _ hB' (by omega) hm2 hsm))
  intro i j hij hj
  show O.kle (kk ky (mirror (arrOf st) lo (lo + n) ((lo + n - lo) / 2)) (lo + i)) (kk ky (mirror (arrOf st) lo (lo + n) ((lo + n - lo) / 2)) (lo + j))
  rw [kk_mirror hsz, kk_mirror hsz, if_pos (by omega), if_pos (by omega)]
  have := hs (n - 1 - j) (n - 1 - i) (by omega) (by omega)
  rw [show lo + (n - 1 - i) = lo + (lo + n) - 1 - (lo + i) by omega, show lo + (n - 1 - j) = lo + (lo + n) - 1 - (lo + j) by omega] at this
  exact this
theorem wpS_descL {st₀ st : SortSt} {lo n nrem : Nat} {Q : DescSt → SortSt → Prop} (hC : Cmp M A s O ky κ a₀) (hn : lo + nrem ≤ a₀.size) (h1 : 1 ≤ n) (hnn : n ≤ nrem) (hB : Kp κ a₀ lo (lo + nrem) st₀ st) (hs : Dn ky (arrOf st) lo n)
    (h : ∀ m neq st', Kp κ a₀ lo (lo + nrem) st₀ st' → n ≤ m → m ≤ nrem → Dn ky (arrOf st') lo m → neq + 1 ≤ m → (∀ i, lo + m - (neq + 1) ≤ i → i < lo + m → kk ky (arrOf st') i = kk ky (arrOf st') (lo + m - 1)) → Q (none, m, neq) st') : wpS M A E s (descL lo n nrem) Q st := by
  unfold descL
  refine wpS_forRange (I := fun x c st' => ∃ neq, c = (none, x, neq) ∧ Kp κ a₀ lo (lo + nrem) st₀ st' ∧ Dn ky (arrOf st') lo x ∧ neq + 1 ≤ x ∧
      (∀ i, lo + x - (neq + 1) ≤ i → i < lo + x → kk ky (arrOf st') i = kk ky (arrOf st') (lo + x - 1))) ?step ?fin ⟨0, rfl, hB, hs, by omega, fun i h1 h2 => by congr 1; omega⟩
  case fin =>
    rintro c st' ⟨neq, rfl, hB', hs', hq, he⟩
    rw [show max n nrem = nrem by omega] at hs' hq he ⊢
    exact h nrem neq st' hB' hnn (Nat.le_refl _) hs' hq he
  case step =>
    rintro x c st' hax hxn ⟨neq, rfl, hB', hs', hq, he⟩
    dsimp only
    have hsz : lo + x ≤ (arrOf st').size := by rw [hB'.sb.size]; omega
    refine wpS_bind (wpS_ltA (ky := ky) hC hB'.sb (by omega) (by omega) ?_)
    cases hless : O.blt (kk ky (arrOf st') (lo + x)) (kk ky (arrOf st') (lo + x - 1))
    case true =>
      simp only [if_true]
      have step1 : ∀ xs : Array Keyed, (∀ k, kk ky xs k = kk ky (arrOf st') k) → Dn ky xs lo (x + 1) := by
        intro xs hk i j hij hj
        rw [hk, hk]
        by_cases hjx : j < x
        · exact hs' i j hij hjx
        · have hj' : j = x := by omega
          subst hj'
          by_cases hi' : i = j
          · subst hi'; exact KeyOrd.kle_refl _
          · refine KeyOrd.kle_trans (KeyOrd.kle_of_klt hless) ?_
            rw [show lo + j - 1 = lo + (j - 1) by omega]
            exact hs' i (j - 1) (by omega) (by omega)
      by_cases hneq : neq > 0
      · rw [if_pos hneq]
        refine wpS_bind (wpS_rev (wpS_pure ⟨0, rfl, hB'.mirror (by omega) (by omega) (by omega), step1 _ (kk_mirror_equal hsz he), by omega, fun i h1 h2 => by congr 1; omega⟩))
      · rw [if_neg hneq]
        exact wpS_pure ⟨0, rfl, hB', step1 _ (fun _ => rfl), by omega, fun i h1 h2 => by congr 1; omega⟩
    case false =>
      simp only [Bool.false_eq_true, if_false]
      refine wpS_bind (wpS_ltA (ky := ky) hC hB'.sb (by omega) (by omega) ?_)
      cases hlarger : O.blt (kk ky (arrOf st') (lo + x - 1)) (kk ky (arrOf st') (lo + x))
      case true =>
        simp only [if_true]
        exact wpS_pure (h x neq st' hB' hax (by omega) hs' hq he)
      case false =>
        simp only [Bool.false_eq_true, if_false]
        have heqx : kk ky (arrOf st') (lo + x) = kk ky (arrOf st') (lo + x - 1) := KeyOrd.kle_antisymm hlarger hless
        refine wpS_pure ⟨neq + 1, rfl, hB', fun i j hij hj => ?_, by omega, fun i h1 h2 => ?_⟩
        · by_cases hjx : j < x
          · exact hs' i j hij hjx
          · have hj' : j = x := by omega
            subst hj'
            by_cases hi' : i = j
            · subst hi'; exact KeyOrd.kle_refl _
            · rw [heqx, show lo + j - 1 = lo + (j - 1) by omega]; exact hs' i (j - 1) (by omega) (by omega)
        · rw [show lo + (x + 1) - 1 = lo + x by omega]
          by_cases hix : i = lo + x
          · subst hix; rfl
          · rw [heqx]; exact he i (by omega) (by omega)
theorem wpS_partL {st₀ st : SortSt} {lo n nrem : Nat} {Q : Option Nat → SortSt → Prop} (hC : Cmp M A s O ky κ a₀) (hn : lo + nrem ≤ a₀.size) (hnn : n + 1 ≤ nrem) (hB : Kp κ a₀ lo (lo + nrem) st₀ st) (hs : Dn ky (arrOf st) lo (n + 1))
    (h : ∀ m st', Kp κ a₀ lo (lo + nrem) st₀ st' → 1 ≤ m → m ≤ nrem → Up ky (arrOf st') lo m → Q (some m) st') : wpS M A E s (partL lo n nrem) Q st := by
  unfold partL
  refine wpS_bind (wpS_lift (wpAny_rule ⟨rfl, ?_⟩))
  refine wpS_bind (wpS_descL hC hn (by omega) hnn hB hs fun m neq st' hB' hm1 hm2 hs' hq he => ?_)
  dsimp only
  have hsz : lo + m ≤ (arrOf st').size := by rw [hB'.sb.size]; omega
  by_cases hneq : neq > 0
  · rw [if_pos hneq]
    refine wpS_bind (wpS_rev (wpS_tailL hC hn (by omega) hm2 (hB'.mirror (by omega) (by omega) (by omega)) ?_ h))
    intro i j hij hj
    show O.kle (kk ky (mirror (arrOf st') _ _ _) (lo + j)) (kk ky (mirror (arrOf st') _ _ _) (lo + i))
    rw [kk_mirror_equal hsz he, kk_mirror_equal hsz he]
    exact hs' i j hij hj
  · rw [if_neg hneq]
    exact wpS_tailL hC hn (by omega) hm2 hB' hs' h
theorem wpS_count {st : SortSt} {lo nrem : Nat} {Q : Option Nat → SortSt → Prop} (hC : Cmp M A s O ky κ a₀) (hn : lo + nrem ≤ a₀.size) (h1 : 1 ≤ nrem) (hB : SB κ a₀ st)
    (h : ∀ m st', Kp κ a₀ lo (lo + nrem) st st' → 1 ≤ m → m ≤ nrem → Up ky (arrOf st') lo m → Q (some m) st') : wpS M A E s (countRun' lo nrem) Q st := by
  rw [countL_eq]
  have hK : Kp κ a₀ lo (lo + nrem) st st := Kp.refl hB
  refine wpS_bind (wpS_ascL hC hn (Nat.le_refl 1) h1 hB (fun i j hij hj => by have : i = j := (by omega); subst this; exact KeyOrd.kle_refl _) fun n hn1 hn2 hsn hor => ?_)
  dsimp only
  by_cases hnn : n = nrem
  · rw [if_pos (by simpa using hnn)]
    exact wpS_pure (h n st hK hn1 hn2 hsn)
  · rw [if_neg (by simpa using hnn)]
    have hlt : O.klt (kk ky (arrOf st) (lo + n)) (kk ky (arrOf st) (lo + n - 1)) := hor.resolve_left hnn
    by_cases hgt : n > 1
    · rw [if_pos hgt]
      refine wpS_bind (wpS_ltA (ky := ky) hC hB (by omega) (by omega) ?_)
      cases hrose : O.blt (kk ky (arrOf st) lo) (kk ky (arrOf st) (lo + n - 1))
      case true =>
        simp only [if_true]
        exact wpS_pure (h n st hK hn1 hn2 hsn)
      case false =>
        simp only [Bool.false_eq_true, if_false]
        have hsz : lo + n ≤ (arrOf st).size := by rw [hB.size]; omega
        have hall : ∀ k, lo ≤ k → k < lo + n → kk ky (arrOf st) k = kk ky (arrOf st) (lo + n - 1) := by
          intro k hk0 hk
          have a1 := hsn 0 (k - lo) (by omega) (by omega)
          have a2 := hsn (k - lo) (n - 1) (by omega) (by omega)
          rw [show lo + (k - lo) = k by omega] at a1 a2
          rw [show lo + (n - 1) = lo + n - 1 by omega] at a2
          rw [Nat.add_zero] at a1
          exact KeyOrd.kle_antisymm a2 (KeyOrd.kle_trans hrose a1)
        refine wpS_bind (wpS_rev (wpS_partL hC hn (by omega) (hK.mirror (by omega) (by omega) (by omega)) ?_ h))
        intro i j hij hj
        show O.kle (kk ky (mirror (arrOf st) _ _ _) (lo + j)) (kk ky (mirror (arrOf st) _ _ _) (lo + i))
        rw [kk_mirror_equal hsz hall, kk_mirror_equal hsz hall]
        by_cases hjn : j < n
        · rw [hall (lo + i) (by omega) (by omega), hall (lo + j) (by omega) (by omega)]; exact KeyOrd.kle_refl _
        · have hj' : j = n := by omega
          subst hj'
          by_cases hi' : i = j
          · subst hi'; exact KeyOrd.kle_refl _
          · rw [hall (lo + i) (by omega) (by omega)]; exact KeyOrd.kle_of_klt hlt
    · rw [if_neg hgt]
      have hn1' : n = 1 := by omega
      subst hn1'
      refine wpS_partL hC hn (by omega) hK ?_ h
      intro i j hij hj
      by_cases hi' : i = j
      · subst hi'; exact KeyOrd.kle_refl _
      · have hi0 : i = 0 := by omega
        have hj1 : j = 1 := by omega
        subst hi0; subst hj1
        exact KeyOrd.kle_of_klt hlt
theorem wpS_bin {st : SortSt} {lo n ok : Nat} {Q : Bool → SortSt → Prop} (hC : Cmp M A s O ky κ a₀) (hn : lo + n ≤ a₀.size) (hok : ok ≤ n) (hB : SB κ a₀ st) (hs : Up ky (arrOf st) lo ok)
    (h : ∀ st', Kp κ a₀ lo (lo + n) st st' → Up ky (arrOf st') lo n → Q true st') : wpS M A E s (binarySort' lo n ok) Q st := by
  rw [binarySort'_eq]
  refine wpS_bind (wpS_mono (wpS_forRange (I := fun k c st' => c = (none, ()) ∧ Kp κ a₀ lo (lo + n) st st' ∧ Up ky (arrOf st') lo (min k n))
    (Q := fun c st' => c = (none, ()) ∧ Kp κ a₀ lo (lo + n) st st' ∧ Up ky (arrOf st') lo n) ?step ?fin ?init) ?post)
  case post =>
    rintro c st' ⟨rfl, hB', hs'⟩
    exact wpS_pure (h st' hB' hs')
  case init =>
    refine ⟨rfl, Kp.refl hB, fun i j hij hj => ?_⟩
    by_cases h1 : ok = 0
    · have : i = j := by omega
      subst this; exact KeyOrd.kle_refl _
    · exact hs i j hij (by omega)
  case fin =>
    rintro c st' ⟨hc, hB', hs'⟩
    refine ⟨hc, hB', ?_⟩
    rwa [show min (max (max ok 1) n) n = n by omega] at hs'
  case step =>
    rintro k c st' hak hkn ⟨rfl, hB', hs'⟩
    rw [show min k n = k by omega] at hs'
    have hk : lo + k < a₀.size := by omega
    refine wpS_bind (wpS_mono (wpS_forRange (I := fun x c st'' => st'' = st' ∧ ∃ l r, c = (none, l, r) ∧ l ≤ r ∧ r ≤ k ∧ r - l ≤ k - x ∧
        (∀ i, i < l → O.kle (kk ky (arrOf st') (lo + i)) (kk ky (arrOf st') (lo + k))) ∧ (∀ i, r ≤ i → i < k → O.klt (kk ky (arrOf st') (lo + k)) (kk ky (arrOf st') (lo + i))))
      (Q := fun c st'' => st'' = st' ∧ ∃ l r, c = (none, l, r) ∧ l ≤ k ∧
        (∀ i, i < l → O.kle (kk ky (arrOf st') (lo + i)) (kk ky (arrOf st') (lo + k))) ∧ (∀ i, l ≤ i → i < k → O.klt (kk ky (arrOf st') (lo + k)) (kk ky (arrOf st') (lo + i)))) ?istep ?ifin ?iinit) ?ipost)
    case iinit => exact ⟨rfl, 0, k, rfl, by omega, by omega, by omega, fun i hi => by omega, fun i h1 h2 => by omega⟩
    case ifin =>
      rintro c st'' ⟨rfl, l, r, rfl, hlr, hrk, hm, hlo, hhi⟩
      have : l = r := by omega
      subst this
      exact ⟨rfl, l, l, rfl, hrk, hlo, hhi⟩
    case istep =>
      rintro x c st'' _ hxk ⟨rfl, l, r, rfl, hlr, hrk, hm, hlo, hhi⟩
      dsimp only
      by_cases hge : l ≥ r
      · rw [if_pos hge]
        have : l = r := by omega
        subst this
        exact wpS_pure ⟨rfl, l, l, rfl, hrk, hlo, hhi⟩
      · rw [if_neg hge]
        refine wpS_bind (wpS_ltA (ky := ky) hC hB'.sb hk (by omega) ?_)
        cases hless : O.blt (kk ky (arrOf st'') (lo + k)) (kk ky (arrOf st'') (lo + (l + r) / 2))
        case true =>
          simp only [if_true]
          refine wpS_pure ⟨rfl, l, (l + r) / 2, rfl, by omega, by omega, by omega, hlo, fun i h1 h2 => ?_⟩
          exact KeyOrd.klt_of_klt_of_kle hless (hs' _ _ h1 h2)
        case false =>
          simp only [Bool.false_eq_true, if_false]
          refine wpS_pure ⟨rfl, (l + r) / 2 + 1, r, rfl, by omega, by omega, by omega, fun i h1 => ?_, hhi⟩
          exact KeyOrd.kle_trans (hs' i ((l + r) / 2) (by omega) (by omega)) (show O.kle _ _ from hless)
    case ipost =>
      rintro c st'' ⟨rfl, l, r, rfl, hlk, hlo, hhi⟩
      show wpS _ _ _ _ (do moveDown' (lo + k) (lo + l); pure (ForInStep.yield (none, ()))) _ _
      rw [moveDown'_eq]
      have hks : lo + k < (arrOf st'').size := by rw [hB'.sb.size]; exact hk
      refine wpS_bind (wpS_modify (wpS_pure ⟨rfl, hB'.trans ⟨hB'.sb.set (bubble_perm _ _ _), Ag.bubble hks (by omega) (by omega) (by omega), rfl⟩, ?_⟩))
      rw [show min (k + 1) n = k + 1 by omega]
      intro i j hij hj
      show O.kle (kk ky (bubble (arrOf st'') (lo + k) (lo + k - (lo + l))) (lo + i)) (kk ky (bubble (arrOf st'') (lo + k) (lo + k - (lo + l))) (lo + j))
      rw [kk_bubble hks (by omega), kk_bubble hks (by omega), show lo + k - (lo + k - (lo + l)) = lo + l by omega]
      have e1 : ∀ i, lo + l < lo + i → lo + i - 1 = lo + (i - 1) := fun i h => by omega
      repeat' split
      all_goals first
        | (exfalso; omega)
        | exact KeyOrd.kle_refl _
        | exact hlo _ (by omega)
        | (rw [e1 _ (by omega)]; exact KeyOrd.kle_of_klt (hhi _ (by omega) (by omega)))
        | exact hs' _ _ (by omega) (by omega)
        | (rw [e1 _ (by omega)]; exact hs' _ _ (by omega) (by omega))
        | (rw [e1 i (by omega), e1 j (by omega)]; exact hs' _ _ (by omega) (by omega))
end
end SO
namespace SO
open PySem PyProof PyProof.Rows
section
variable {M : Model} {A : Around} {E : Value → Shared → Prop} {s : Shared} {O : KeyOrd} {ky : Keyed → O.α} {κ : SortKind} {a₀ : Array Keyed}
def gallop' : Bool → Keyed → Array Keyed → Nat → Nat → Nat → StateT SortSt Sem (Option Nat) := sortPriv% PySem.Builtin.gallop
def bey (left : Bool) (key : Keyed) (arr : Array Keyed) (base i : Nat) : StateT SortSt Sem (Option Bool) := do
  let x ← elem' arr (base + i)
  if left then lt' x key else return (← lt' key x).map (!·)
def galU (beyond : Nat → StateT SortSt Sem (Option Bool)) (n hint : Nat) : StateT SortSt Sem (Option (Option Nat) × Nat × Nat) :=
  forIn [0:n] ((none, 0, 1) : Option (Option Nat) × Nat × Nat) fun _ c => do
    if c.2.2 ≥ n - hint then pure (ForInStep.done (none, c.2.1, c.2.2))
    else do
      let x ← beyond (hint + c.2.2)
      match x with
      | some more => if (!more) = true then pure (ForInStep.done (none, c.2.1, c.2.2)) else pure (ForInStep.yield (none, c.2.2, 2 * c.2.2 + 1))
      | _ => pure (ForInStep.done (some none, c.2.1, c.2.2))
def galD (beyond : Nat → StateT SortSt Sem (Option Bool)) (n hint : Nat) : StateT SortSt Sem (Option (Option Nat) × Nat × Nat) :=
  forIn [0:n] ((none, 0, 1) : Option (Option Nat) × Nat × Nat) fun _ c => do
    if c.2.2 ≥ hint + 1 then pure (ForInStep.done (none, c.2.1, c.2.2))
    else do
      let x ← beyond (hint - c.2.2)
      match x with
      | some found => if found = true then pure (ForInStep.done (none, c.2.1, c.2.2)) else pure (ForInStep.yield (none, c.2.2, 2 * c.2.2 + 1))
      | _ => pure (ForInStep.done (some none, c.2.1, c.2.2))
def galB (beyond : Nat → StateT SortSt Sem (Option Bool)) (n lo hi : Nat) : StateT SortSt Sem (Option Nat) := do
  let c ← forIn [0:n] ((none, lo, hi) : Option (Option Nat) × Nat × Nat) fun _ c => do
    if c.2.1 ≥ c.2.2 then pure (ForInStep.done (none, c.2.1, c.2.2))
    else do
      let x ← beyond (c.2.1 + (c.2.2 - c.2.1) / 2)
      match x with
      | some more => if more = true then pure (ForInStep.yield (none, c.2.1 + (c.2.2 - c.2.1) / 2 + 1, c.2.2)) else pure (ForInStep.yield (none, c.2.1, c.2.1 + (c.2.2 - c.2.1) / 2))
      | _ => pure (ForInStep.done (some none, c.2.1, c.2.2))
  match c.1 with
  | some r => pure r
  | none => pure (some c.2.2)
theorem gallop'_eq (left : Bool) (key : Keyed) (arr : Array Keyed) (base n hint : Nat) : gallop' left key arr base n hint = (do
    let x ← bey left key arr base hint
    match x with
    | some right =>
      if right = true then do
        let c ← galU (bey left key arr base) n hint
        match c.1 with
        | some r => pure r
        | none => galB (bey left key arr base) n (hint + c.2.1 + 1) (hint + min c.2.2 (n - hint))
      else do
        let c ← galD (bey left key arr base) n hint
        match c.1 with
        | some r => pure r
        | none => galB (bey left key arr base) n (hint + 1 - min c.2.2 (hint + 1)) (hint - c.2.1)
    | _ => pure none) := by
  refine bcong rfl fun x => ?_
  cases x with
  | none => rfl
  | some right =>
    cases right
    · refine bcong rfl fun c => ?_
      obtain ⟨r, l, o⟩ := c
      cases r with
      | some r => rfl
      | none =>
        unfold galB
        refine bcong rfl fun c => ?_
        obtain ⟨r, l, o⟩ := c
        cases r <;> rfl
    · refine bcong rfl fun c => ?_
      obtain ⟨r, l, o⟩ := c
      cases r with
      | some r => rfl
      | none =>
        unfold galB
        refine bcong rfl fun c => ?_
        obtain ⟨r, l, o⟩ := c
        cases r <;> rfl

structure Bd (P : Nat → Bool) (n k : Nat) : Prop where
  le : k ≤ n
  lo : ∀ i, i < k → P i = true
  hi : ∀ i, k ≤ i → i < n → P i = false
def Fal (P : Nat → Bool) (n : Nat) : Prop := ∀ i j, i ≤ j → j < n → P j = true → P i = true
def Asks (M : Model) (A : Around) (E : Value → Shared → Prop) (s : Shared) (st : SortSt) (b : Nat → StateT SortSt Sem (Option Bool)) (P : Nat → Bool) (n : Nat) : Prop := ∀ i, i < n → ∀ Q : Option Bool → SortSt → Prop, Q (some (P i)) st → wpS M A E s (b i) Q st
theorem wpS_galB {st : SortSt} {b : Nat → StateT SortSt Sem (Option Bool)} {P : Nat → Bool} {n lo hi : Nat} {Q : Option Nat → SortSt → Prop} (hb : Asks M A E s st b P n) (hF : Fal P n) (h1 : lo ≤ hi) (h2 : hi ≤ n) (hlo : ∀ i, i < lo → P i = true) (hhi : ∀ i, hi ≤ i → i < n → P i = false) (h : ∀ k, Bd P n k → Q (some k) st) : wpS M A E s (galB b n lo hi) Q st := by
  unfold galB
  refine wpS_bind (wpS_mono (wpS_forRange (I := fun x c st' => st' = st ∧ ∃ l r, c = (none, l, r) ∧ l ≤ r ∧ r ≤ n ∧ r - l ≤ n - x ∧ (∀ i, i < l → P i = true) ∧ (∀ i, r ≤ i → i < n → P i = false))
    (Q := fun c st' => st' = st ∧ ∃ l r, c = (none, l, r) ∧ Bd P n r) ?istep ?ifin ⟨rfl, lo, hi, rfl, h1, h2, by omega, hlo, hhi⟩) ?post)
  case post =>
    rintro c st' ⟨rfl, l, r, rfl, hB⟩
    exact wpS_pure (h r hB)
  case ifin =>
    rintro c st' ⟨rfl, l, r, rfl, a1, a2, a3, a4, a5⟩
    have : l = r := by omega
    subst this
    exact ⟨rfl, l, l, rfl, a2, a4, a5⟩
  case istep =>
    rintro x c st' _ hxn ⟨rfl, l, r, rfl, a1, a2, a3, a4, a5⟩
    dsimp only
    by_cases hge : l ≥ r
    · rw [if_pos hge]
      have : l = r := by omega
      subst this
      exact wpS_pure ⟨rfl, l, l, rfl, a2, a4, a5⟩
    · rw [if_neg hge]
      refine wpS_bind (hb _ (by omega) _ ?_)
      cases hp : P (l + (r - l) / 2)
      case true =>
        simp only [if_true]
        exact wpS_pure ⟨rfl, _, _, rfl, by omega, by omega, by omega, fun i hi => hF i _ (by omega) (by omega) hp, a5⟩
      case false =>
        simp only [Bool.false_eq_true, if_false]
        refine wpS_pure ⟨rfl, _, _, rfl, by omega, by omega, by omega, a4, fun i hi hn => ?_⟩
        cases hq : P i
        · rfl
        · rw [hF _ i hi hn hq] at hp; cases hp
theorem wpS_galU {st : SortSt} {b : Nat → StateT SortSt Sem (Option Bool)} {P : Nat → Bool} {n hint : Nat} {Q : Option (Option Nat) × Nat × Nat → SortSt → Prop} (hb : Asks M A E s st b P n) (hh : hint < n) (h0 : P hint = true) (h : ∀ l o, l < o → hint + l < n → P (hint + l) = true → (hint + o < n → P (hint + o) = false) → Q (none, l, o) st) : wpS M A E s (galU b n hint) Q st := by
  unfold galU
  refine wpS_forRange (I := fun x c st' => st' = st ∧ ∃ l o, c = (none, l, o) ∧ l < o ∧ x + 1 ≤ o ∧ hint + l < n ∧ P (hint + l) = true) ?istep ?ifin ⟨rfl, 0, 1, rfl, by omega, by omega, by omega, h0⟩
  case ifin =>
    rintro c st' ⟨rfl, l, o, rfl, a1, a2, a3, a4⟩
    exact h l o a1 a3 a4 (fun hn => by omega)
  case istep =>
    rintro x c st' _ hxn ⟨rfl, l, o, rfl, a1, a2, a3, a4⟩
    dsimp only
    by_cases hge : o ≥ n - hint
    · rw [if_pos hge]
      exact wpS_pure (h l o a1 a3 a4 (fun hn => by omega))
    · rw [if_neg hge]
      refine wpS_bind (hb _ (by omega) _ ?_)
      cases hp : P (hint + o)
      case true =>
        simp only [Bool.not_true, Bool.false_eq_true, if_false]
        exact wpS_pure ⟨rfl, _, _, rfl, by omega, by omega, by omega, hp⟩
      case false =>
        simp only [Bool.not_false, if_true]
        exact wpS_pure (h l o a1 a3 a4 (fun _ => hp))
theorem wpS_galD {st : SortSt} {b : Nat → StateT SortSt Sem (Option Bool)} {P : Nat → Bool} {n hint : Nat} {Q : Option (Option Nat) × Nat × Nat → SortSt → Prop} (hb : Asks M A E s st b P n) (hh : hint < n) (h0 : P hint = false) (h : ∀ l o, l < o → l ≤ hint → P (hint - l) = false → (o ≤ hint → P (hint - o) = true) → Q (none, l, o) st) : wpS M A E s (galD b n hint) Q st := by
  unfold galD
  refine wpS_forRange (I := fun x c st' => st' = st ∧ ∃ l o, c = (none, l, o) ∧ l < o ∧ x + 1 ≤ o ∧ l ≤ hint ∧ P (hint - l) = false) ?istep ?ifin ⟨rfl, 0, 1, rfl, by omega, by omega, by omega, h0⟩
  case ifin =>
    rintro c st' ⟨rfl, l, o, rfl, a1, a2, a3, a4⟩
    exact h l o a1 a3 a4 (fun hn => by omega)
  case istep =>
    rintro x c st' _ hxn ⟨rfl, l, o, rfl, a1, a2, a3, a4⟩
    dsimp only
    by_cases hge : o ≥ hint + 1
    · rw [if_pos hge]
      exact wpS_pure (h l o a1 a3 a4 (fun hn => by omega))
    · rw [if_neg hge]
      refine wpS_bind (hb _ (by omega) _ ?_)
      cases hp : P (hint - o)
      case false =>
        simp only [Bool.false_eq_true, if_false]
        exact wpS_pure ⟨rfl, _, _, rfl, by omega, by omega, by omega, hp⟩
      case true =>
        simp only [if_true]
        exact wpS_pure (h l o a1 a3 a4 (fun _ => hp))
theorem wpS_gal {st : SortSt} {left : Bool} {key : Keyed} {arr : Array Keyed} {base : Nat} {P : Nat → Bool} {n hint : Nat} {Q : Option Nat → SortSt → Prop} (hb : Asks M A E s st (bey left key arr base) P n) (hF : Fal P n) (hh : hint < n) (h : ∀ k, Bd P n k → Q (some k) st) : wpS M A E s (gallop' left key arr base n hint) Q st := by
  have no : ∀ i j, i ≤ j → j < n → P i = false → P j = false := fun i j a1 a2 a3 => by
    cases hq : P j
    · rfl
    · rw [hF i j a1 a2 hq] at a3; cases a3
  rw [gallop'_eq]
  refine wpS_bind (hb _ hh _ ?_)
  cases hp : P hint
  case true =>
    simp only [if_true]
    refine wpS_bind (wpS_galU hb hh hp fun l o a1 a2 a3 a4 => ?_)
    refine wpS_galB hb hF ?_ ?_ ?_ ?_ h
    · show hint + l + 1 ≤ hint + min o (n - hint)
      omega
    · show hint + min o (n - hint) ≤ n
      omega
    · exact fun i hi => hF i _ (by have : i < hint + l + 1 := hi; omega) a2 a3
    · intro i hi hn
      have hi' : hint + min o (n - hint) ≤ i := hi
      exact no (hint + o) i (by omega) hn (a4 (by omega))
  case false =>
    simp only [Bool.false_eq_true, if_false]
    refine wpS_bind (wpS_galD hb hh hp fun l o a1 a2 a3 a4 => ?_)
    refine wpS_galB hb hF ?_ ?_ ?_ ?_ h
    · show hint + 1 - min o (hint + 1) ≤ hint - l
      omega
    · show hint - l ≤ n
      omega
    · intro i hi
      have hi' : i < hint + 1 - min o (hint + 1) := hi
      exact hF i (hint - o) (by omega) (by omega) (a4 (by omega))
    · intro i hi hn
      have hi' : hint - l ≤ i := hi
      exact no _ i hi' hn a3

theorem wpS_galR {st : SortSt} {key : Keyed} {arr : Array Keyed} {base n hint : Nat} {Q : Option Nat → SortSt → Prop} (hC : Cmp M A s O ky κ a₀) (hk : kindOf st = κ) (hkey : key ∈ a₀.toList) (hm : ∀ i, i < n → ∃ x, arr[base + i]? = some x ∧ x ∈ a₀.toList) (hU : Up ky arr base n) (hh : hint < n) (h : ∀ k, k ≤ n → (∀ i, i < k → O.kle (kk ky arr (base + i)) (ky key)) → (∀ i, k ≤ i → i < n → O.klt (ky key) (kk ky arr (base + i))) → Q (some k) st) : wpS M A E s (gallop' false key arr base n hint) Q st := by
  refine wpS_gal (P := fun i => !(O.blt (ky key) (kk ky arr (base + i)))) ?_ ?_ hh fun k hB => h k hB.le (fun i hi => ?_) fun i hi hn => ?_
  · intro i hi Q' hQ
    obtain ⟨x, e, hx⟩ := hm i hi
    unfold bey
    have ek : kk ky arr (base + i) = ky x := by unfold kk; rw [e]; rfl
    dsimp only at hQ
    rw [ek] at hQ
    refine wpS_bind (wpS_elem e ?_)
    simp only [Bool.false_eq_true, if_false]
    exact wpS_bind (wpS_lt hC hkey hx hk (wpS_pure hQ))
  · intro i j hij hj hp
    have hp' : O.blt (ky key) (kk ky arr (base + j)) = false := by simpa using hp
    have : O.blt (ky key) (kk ky arr (base + i)) = false := KeyOrd.kle_trans (hU i j hij hj) hp'
    simp [this]
  · have := hB.lo i hi
    show O.blt _ _ = false
    simpa using this
  · have := hB.hi i hi hn
    show O.blt _ _ = true
    simpa using this
theorem wpS_galL {st : SortSt} {key : Keyed} {arr : Array Keyed} {base n hint : Nat} {Q : Option Nat → SortSt → Prop} (hC : Cmp M A s O ky κ a₀) (hk : kindOf st = κ) (hkey : key ∈ a₀.toList) (hm : ∀ i, i < n → ∃ x, arr[base + i]? = some x ∧ x ∈ a₀.toList) (hU : Up ky arr base n) (hh : hint < n) (h : ∀ k, k ≤ n → (∀ i, i < k → O.klt (kk ky arr (base + i)) (ky key)) → (∀ i, k ≤ i → i < n → O.kle (ky key) (kk ky arr (base + i))) → Q (some k) st) : wpS M A E s (gallop' true key arr base n hint) Q st := by
  refine wpS_gal (P := fun i => O.blt (kk ky arr (base + i)) (ky key)) ?_ ?_ hh fun k hB => h k hB.le (fun i hi => hB.lo i hi) fun i hi hn => hB.hi i hi hn
  · intro i hi Q' hQ
    obtain ⟨x, e, hx⟩ := hm i hi
    unfold bey
    have ek : kk ky arr (base + i) = ky x := by unfold kk; rw [e]; rfl
    dsimp only at hQ
    rw [ek] at hQ
    refine wpS_bind (wpS_elem e ?_)
    simp only [if_true]
    exact wpS_lt hC hx hkey hk hQ
  · intro i j hij hj hp
    exact KeyOrd.klt_of_kle_of_klt (hU i j hij hj) hp
end
end SO
namespace SO
open PySem PyProof PyProof.Rows
section
variable {M : Model} {A : Around} {E : Value → Shared → Prop} {s : Shared} {O : KeyOrd} {ky : Keyed → O.α} {κ : SortKind} {a₀ : Array Keyed}
def setMinGallop' : Nat → StateT SortSt Sem Unit := sortPriv% PySem.Builtin.setMinGallop
def mergeLo' : Array Keyed → Array Keyed → StateT SortSt Sem (Array Keyed) := sortPriv% PySem.Builtin.mergeLo
def mergeHi' : Array Keyed → Array Keyed → StateT SortSt Sem (Array Keyed) := sortPriv% PySem.Builtin.mergeHi
theorem setMinGallop'_eq (g : Nat) : setMinGallop' g = modify fun st => SortSt.mk' (kindOf st) (arrOf st) (pendingOf st) g (failedOf st) := rfl
theorem mergeLo'_eq (a b : Array Keyed) : mergeLo' a b = (do
  rule "list.sort.merge-lo"
  let total := a.size + b.size
  let done (out : Array Keyed) (ia ib : Nat) := out ++ a.extract ia a.size ++ b.extract ib b.size
  let lastOfA (out : Array Keyed) (ia ib : Nat) := out ++ b.extract ib b.size ++ a.extract ia a.size
  let mut out : Array Keyed := #[← elem' b 0]
  let mut ia := 0
  let mut ib := 1
  if ib == b.size then return done out ia ib
  if ia + 1 == a.size then return lastOfA out ia ib
  let mut minGallop := gallopOf (← get)
  for _ in [0:total] do
    let mut acount := 0
    let mut bcount := 0
    for _ in [0:total] do
      let some bWins ← lt' (← elem' b ib) (← elem' a ia) | return done out ia ib
      if bWins then
        out := out.push (← elem' b ib); ib := ib + 1; bcount := bcount + 1; acount := 0
        if ib == b.size then return done out ia ib
        if bcount ≥ minGallop then break
      else
        out := out.push (← elem' a ia); ia := ia + 1; acount := acount + 1; bcount := 0
        if ia + 1 == a.size then return lastOfA out ia ib
        if acount ≥ minGallop then break
    rule "list.sort.gallop"
    minGallop := minGallop + 1
    for _ in [0:total] do
      if minGallop > 1 then minGallop := minGallop - 1
      setMinGallop' minGallop
      let some k ← gallop' false (← elem' b ib) a ia (a.size - ia) 0 | return done out ia ib
      acount := k
      if k > 0 then
        out := out ++ a.extract ia (ia + k); ia := ia + k
        if ia + 1 == a.size then return lastOfA out ia ib
        if ia == a.size then return done out ia ib
      out := out.push (← elem' b ib); ib := ib + 1
      if ib == b.size then return done out ia ib
      let some k ← gallop' true (← elem' a ia) b ib (b.size - ib) 0 | return done out ia ib
      bcount := k
      if k > 0 then
        out := out ++ b.extract ib (ib + k); ib := ib + k
        if ib == b.size then return done out ia ib
      out := out.push (← elem' a ia); ia := ia + 1
      if ia + 1 == a.size then return lastOfA out ia ib
      if acount < 7 && bcount < 7 then break
    minGallop := minGallop + 1
    setMinGallop' minGallop
  unsupported "internal:list.sort.merge-bound") := rfl
theorem mergeHi'_eq (a b : Array Keyed) : mergeHi' a b = (do
  rule "list.sort.merge-hi"
  let total := a.size + b.size
  let done (out : Array Keyed) (na nb : Nat) := a.extract 0 na ++ b.extract 0 nb ++ out.reverse
  let firstOfB (out : Array Keyed) (na nb : Nat) := b.extract 0 nb ++ a.extract 0 na ++ out.reverse
  let mut na := a.size - 1
  let mut nb := b.size
  let mut out : Array Keyed := #[← elem' a na]
  if na == 0 then return done out na nb
  if nb == 1 then return firstOfB out na nb
  let mut minGallop := gallopOf (← get)
  for _ in [0:total] do
    let mut acount := 0
    let mut bcount := 0
    for _ in [0:total] do
      let some aWins ← lt' (← elem' b (nb - 1)) (← elem' a (na - 1)) | return done out na nb
      if aWins then
        na := na - 1; out := out.push (← elem' a na); acount := acount + 1; bcount := 0
        if na == 0 then return done out na nb
        if acount ≥ minGallop then break
      else
        nb := nb - 1; out := out.push (← elem' b nb); bcount := bcount + 1; acount := 0
        if nb == 1 then return firstOfB out na nb
        if bcount ≥ minGallop then break
    rule "list.sort.gallop"
    minGallop := minGallop + 1
    for _ in [0:total] do
      if minGallop > 1 then minGallop := minGallop - 1
      setMinGallop' minGallop
      let some at_ ← gallop' false (← elem' b (nb - 1)) a 0 na (na - 1) | return done out na nb
      let k := na - at_
      acount := k
      if k > 0 then
        out := out ++ (a.extract at_ na).reverse; na := at_
        if na == 0 then return done out na nb
      nb := nb - 1; out := out.push (← elem' b nb)
      if nb == 1 then return firstOfB out na nb
      let some at_ ← gallop' true (← elem' a (na - 1)) b 0 nb (nb - 1) | return done out na nb
      let k := nb - at_
      bcount := k
      if k > 0 then
        out := out ++ (b.extract at_ nb).reverse; nb := at_
        if nb == 1 then return firstOfB out na nb
        if nb == 0 then return done out na nb
      na := na - 1; out := out.push (← elem' a na)
      if na == 0 then return done out na nb
      if acount < 7 && bcount < 7 then break
    minGallop := minGallop + 1
    setMinGallop' minGallop
  unsupported "internal:list.sort.merge-bound") := rfl

def SL (ky : Keyed → O.α) (l : List Keyed) : Prop := l.Pairwise fun x y => O.kle (ky x) (ky y)
theorem mem_d {a : Array Keyed} {i : Nat} {x : Keyed} (h : x ∈ a.toList.drop i) : ∃ j, i ≤ j ∧ j < a.size ∧ a[j]? = some x := by
  obtain ⟨k, hk, e⟩ := List.mem_iff_getElem.mp h
  rw [List.getElem_drop] at e
  rw [List.length_drop, Array.length_toList] at hk
  exact ⟨i + k, by omega, by omega, by rw [getElem?_pos a (i + k) (by omega)]; exact congrArg some e⟩
theorem mem_dt {a : Array Keyed} {i k : Nat} {x : Keyed} (h : x ∈ (a.toList.drop i).take k) : ∃ j, i ≤ j ∧ j < i + k ∧ j < a.size ∧ a[j]? = some x := by
  obtain ⟨m, hk, e⟩ := List.mem_iff_getElem.mp h
  rw [List.getElem_take, List.getElem_drop] at e
  rw [List.length_take, List.length_drop, Array.length_toList] at hk
  exact ⟨i + m, by omega, by omega, by omega, by rw [getElem?_pos a (i + m) (by omega)]; exact congrArg some e⟩
theorem kk_some {a : Array Keyed} {i : Nat} {x : Keyed} (e : a[i]? = some x) : kk ky a i = ky x := by unfold kk; rw [e]; rfl
theorem SL.up {a : Array Keyed} {base n : Nat} (h : SL ky a.toList) (hn : base + n ≤ a.size) : Up ky a base n := by
  intro i j hij hj
  have h1 : a[base + i]? = some (a[base + i]'(by omega)) := getElem?_pos _ _ _
  have h2 : a[base + j]? = some (a[base + j]'(by omega)) := getElem?_pos _ _ _
  rw [kk_some h1, kk_some h2]
  by_cases e : i = j
  · subst e; exact KeyOrd.kle_refl _
  · exact List.pairwise_iff_getElem.mp h (base + i) (base + j) (by simp; omega) (by simp; omega) (by omega)
theorem up_SL {a : Array Keyed} (h : Up ky a 0 a.size) : SL ky a.toList := by
  refine List.pairwise_iff_getElem.mpr fun i j hi hj hij => ?_
  have hi' : i < a.size := by simpa using hi
  have hj' : j < a.size := by simpa using hj
  have := h i j (by omega) hj'
  rw [Nat.zero_add, Nat.zero_add, kk_some (getElem?_pos a i hi'), kk_some (getElem?_pos a j hj')] at this
  exact this
structure MI (ky : Keyed → O.α) (a b out : Array Keyed) (ia ib : Nat) : Prop where
  ha : ia ≤ a.size
  hb : ib ≤ b.size
  perm : (out.toList ++ (a.toList.drop ia ++ b.toList.drop ib)).Perm (a.toList ++ b.toList)
  srt : SL ky out.toList
  le : ∀ x ∈ out.toList, ∀ y ∈ a.toList.drop ia ++ b.toList.drop ib, O.kle (ky x) (ky y)
def Res (ky : Keyed → O.α) (a b r : Array Keyed) : Prop := r.toList.Perm (a.toList ++ b.toList) ∧ SL ky r.toList
theorem drop_split {l : List Keyed} (i k : Nat) : l.drop i = (l.drop i).take k ++ l.drop (i + k) := by
  rw [← List.drop_drop]; exact (List.take_append_drop k _).symm
theorem toList_ext {a : Array Keyed} {i k : Nat} : (a.extract i (i + k)).toList = (a.toList.drop i).take k := by
  rw [Array.toList_extract, List.extract_eq_drop_take]; congr 1; omega
theorem toList_rest {a : Array Keyed} {i : Nat} : (a.extract i a.size).toList = a.toList.drop i := by
  rw [Array.toList_extract, List.extract_eq_drop_take]; rw [List.take_of_length_le]; simp
theorem mv_lists {P A' B' out T : List Keyed} (hp : (out ++ ((P ++ A') ++ B')).Perm T) (hs : SL ky out) (hle : ∀ x ∈ out, ∀ y ∈ (P ++ A') ++ B', O.kle (ky x) (ky y)) (sA : SL ky (P ++ A')) (hPB : ∀ x ∈ P, ∀ y ∈ B', O.kle (ky x) (ky y)) :
    ((out ++ P) ++ (A' ++ B')).Perm T ∧ SL ky (out ++ P) ∧ (∀ x ∈ out ++ P, ∀ y ∈ A' ++ B', O.kle (ky x) (ky y)) := by
  have sA' := List.pairwise_append.mp sA
  refine ⟨?_, List.pairwise_append.mpr ⟨hs, sA'.1, fun x hx y hy => hle x hx y (by simp [hy])⟩, ?_⟩
  · rw [List.append_assoc, ← List.append_assoc P]; exact hp
  · intro x hx y hy
    rcases List.mem_append.mp hx with hx | hx
    · refine hle x hx y ?_
      rcases List.mem_append.mp hy with hy | hy <;> simp [hy]
    · rcases List.mem_append.mp hy with hy | hy
      · exact sA'.2.2 x hx y hy
      · exact hPB x hx y hy
theorem SL.drop {l : List Keyed} (h : SL ky l) (i : Nat) : SL ky (l.drop i) := List.Pairwise.sublist (List.drop_sublist _ _) h
theorem SL.take {l : List Keyed} (h : SL ky l) (i : Nat) : SL ky (l.take i) := List.Pairwise.sublist (List.take_sublist _ _) h
theorem MI.mvA {a b out : Array Keyed} {ia ib k : Nat} (h : MI ky a b out ia ib) (sa : SL ky a.toList) (hk : ia + k ≤ a.size) (hle : ∀ x ∈ (a.toList.drop ia).take k, ∀ y ∈ b.toList.drop ib, O.kle (ky x) (ky y)) : MI ky a b (out ++ a.extract ia (ia + k)) (ia + k) ib := by
  have p := h.perm
  have l := h.le
  have s := sa.drop ia
  rw [drop_split (l := a.toList) ia k] at p l s
  obtain ⟨q1, q2, q3⟩ := mv_lists p h.srt l s hle
  refine ⟨hk, h.hb, ?_, ?_, ?_⟩
  · rw [Array.toList_append, toList_ext]; exact q1
  · rw [Array.toList_append, toList_ext]; exact q2
  · rw [Array.toList_append, toList_ext]; exact q3
theorem MI.mvB {a b out : Array Keyed} {ia ib k : Nat} (h : MI ky a b out ia ib) (sb : SL ky b.toList) (hk : ib + k ≤ b.size) (hle : ∀ y ∈ (b.toList.drop ib).take k, ∀ x ∈ a.toList.drop ia, O.kle (ky y) (ky x)) : MI ky a b (out ++ b.extract ib (ib + k)) ia (ib + k) := by
  have p : (out.toList ++ (b.toList.drop ib ++ a.toList.drop ia)).Perm (a.toList ++ b.toList) := (List.Perm.append_left _ List.perm_append_comm).trans h.perm
  have l : ∀ x ∈ out.toList, ∀ y ∈ b.toList.drop ib ++ a.toList.drop ia, O.kle (ky x) (ky y) := fun x hx y hy => h.le x hx y (by rcases List.mem_append.mp hy with hy | hy <;> simp [hy])
  have s := sb.drop ib
  rw [drop_split (l := b.toList) ib k] at p l s
  obtain ⟨q1, q2, q3⟩ := mv_lists p h.srt l s hle
  refine ⟨h.ha, hk, ?_, ?_, ?_⟩
  · rw [Array.toList_append, toList_ext]; exact (List.Perm.append_left _ List.perm_append_comm).trans q1
  · rw [Array.toList_append, toList_ext]; exact q2
  · rw [Array.toList_append, toList_ext]; exact fun x hx y hy => q3 x hx y (by rcases List.mem_append.mp hy with hy | hy <;> simp [hy])
theorem ext_one {a : Array Keyed} {i : Nat} {x : Keyed} (e : a[i]? = some x) (out : Array Keyed) : out.push x = out ++ a.extract i (i + 1) := by
  obtain ⟨hi, e2⟩ := Array.getElem?_eq_some_iff.mp e
  apply Array.ext'
  rw [Array.toList_push, Array.toList_append, toList_ext]
  rw [List.drop_eq_getElem_cons (by simpa using hi)]
  simp [e2]
theorem take_one {a : Array Keyed} {i : Nat} {x : Keyed} (e : a[i]? = some x) : (a.toList.drop i).take 1 = [x] := by
  obtain ⟨hi, e2⟩ := Array.getElem?_eq_some_iff.mp e
  rw [List.drop_eq_getElem_cons (by simpa using hi)]
  simp [e2]
theorem MI.done {a b out : Array Keyed} {ia ib : Nat} (h : MI ky a b out ia ib) (sa : SL ky a.toList) (sb : SL ky b.toList) (he : ia = a.size ∨ ib = b.size) : Res ky a b (out ++ a.extract ia a.size ++ b.extract ib b.size) := by
  unfold Res
  rw [Array.toList_append, Array.toList_append, toList_rest, toList_rest, List.append_assoc]
  refine ⟨h.perm, List.pairwise_append.mpr ⟨h.srt, List.pairwise_append.mpr ⟨sa.drop ia, sb.drop ib, fun x hx y hy => ?_⟩, h.le⟩⟩
  rcases he with e | e
  · subst e; rw [List.drop_of_length_le (by simp)] at hx; cases hx
  · subst e; rw [List.drop_of_length_le (by simp)] at hy; cases hy
theorem MI.last {a b out : Array Keyed} {ia ib : Nat} (h : MI ky a b out ia ib) (sa : SL ky a.toList) (sb : SL ky b.toList) (he : ia + 1 = a.size) (hl : ∀ y ∈ b.toList, ∀ x, a[a.size - 1]? = some x → O.kle (ky y) (ky x)) : Res ky a b (out ++ b.extract ib b.size ++ a.extract ia a.size) := by
  unfold Res
  rw [Array.toList_append, Array.toList_append, toList_rest, toList_rest, List.append_assoc]
  refine ⟨(List.Perm.append_left _ List.perm_append_comm).trans h.perm, List.pairwise_append.mpr ⟨h.srt, List.pairwise_append.mpr ⟨sb.drop ib, sa.drop ia, fun x hx y hy => ?_⟩, fun x hx y hy => h.le x hx y (by rcases List.mem_append.mp hy with hy | hy <;> simp [hy])⟩⟩
  obtain ⟨j, j1, j2, j3⟩ := mem_d hy
  have : j = a.size - 1 := by omega
  subst this
  exact hl x (List.mem_of_mem_drop hx) y j3
theorem MI.size {a b out : Array Keyed} {ia ib : Nat} (h : MI ky a b out ia ib) : out.size + (a.size - ia) + (b.size - ib) = a.size + b.size := by
  have := h.perm.length_eq
  simp at this
  omega
end
end SO
namespace SO
open PySem PyProof PyProof.Rows
section
variable {M : Model} {A : Around} {E : Value → Shared → Prop} {s : Shared} {O : KeyOrd} {ky : Keyed → O.α} {κ : SortKind} {a₀ a b : Array Keyed} {st₀ : SortSt}
structure MC (ky : Keyed → O.α) (a₀ a b : Array Keyed) : Prop where
  ma : ∀ x ∈ a.toList, x ∈ a₀.toList
  mb : ∀ x ∈ b.toList, x ∈ a₀.toList
  sa : SL ky a.toList
  sb : SL ky b.toList
  na : 1 ≤ a.size
  nb : 1 ≤ b.size
  hl : ∀ y ∈ b.toList, ∀ x, a[a.size - 1]? = some x → O.kle (ky y) (ky x)
  hf : ∀ x ∈ a.toList, ∀ y, b[0]? = some y → O.kle (ky y) (ky x)
structure Sm (st st' : SortSt) : Prop where
  kind : kindOf st' = kindOf st
  arr : arrOf st' = arrOf st
  pend : pendingOf st' = pendingOf st
  failed : failedOf st' = failedOf st
theorem Sm.refl (st : SortSt) : Sm st st := ⟨rfl, rfl, rfl, rfl⟩
theorem Sm.trans {st st' st'' : SortSt} (x : Sm st st') (y : Sm st' st'') : Sm st st'' := ⟨y.kind.trans x.kind, y.arr.trans x.arr, y.pend.trans x.pend, y.failed.trans x.failed⟩
theorem wpS_smg {st : SortSt} {g : Nat} {Q : Unit → SortSt → Prop} (h : ∀ st', Sm st st' → Q () st') : wpS M A E s (setMinGallop' g) Q st := by
  rw [setMinGallop'_eq]
  exact wpS_modify (h _ ⟨rfl, rfl, rfl, rfl⟩)
theorem at_lt {a : Array Keyed} {i : Nat} (h : i < a.size) : ∃ x, a[i]? = some x ∧ x ∈ a.toList := ⟨a[i], getElem?_pos a i h, by simp⟩
theorem mem_at {a : Array Keyed} {i : Nat} {x : Keyed} (e : a[i]? = some x) : x ∈ a.toList := by
  obtain ⟨hi, e2⟩ := Array.getElem?_eq_some_iff.mp e
  rw [← e2]; simp

theorem SL.at {a : Array Keyed} {i j : Nat} {x y : Keyed} (h : SL ky a.toList) (hij : i ≤ j) (e1 : a[i]? = some x) (e2 : a[j]? = some y) : O.kle (ky x) (ky y) := by
  obtain ⟨hi, _⟩ := Array.getElem?_eq_some_iff.mp e1
  obtain ⟨hj, _⟩ := Array.getElem?_eq_some_iff.mp e2
  have := h.up (base := 0) (n := a.size) (by omega) i j hij hj
  rw [Nat.zero_add, Nat.zero_add, kk_some e1, kk_some e2] at this
  exact this
abbrev R2 : Type := Option (Array Keyed) × Array Keyed × Nat × Nat × Nat × Nat × Nat
def Inv2 (ky : Keyed → O.α) (a b : Array Keyed) (st₀ : SortSt) (N : Nat) (c : R2) (st' : SortSt) : Prop := ∃ out ia ib mg ac bc, c = (none, out, ia, ib, mg, ac, bc) ∧ Sm st₀ st' ∧ MI ky a b out ia ib ∧ ia + 2 ≤ a.size ∧ ib + 1 ≤ b.size ∧ N ≤ out.size
def Post2 (ky : Keyed → O.α) (a b : Array Keyed) (st₀ : SortSt) (N : Nat) (c : R2) (st' : SortSt) : Prop := Inv2 ky a b st₀ N c st' ∨ ∃ r rest, c = (some r, rest) ∧ Sm st₀ st' ∧ Res ky a b r
abbrev Out2 (ky : Keyed → O.α) (a b : Array Keyed) (st₀ : SortSt) (N : Nat) (r : ForInStep R2) (st' : SortSt) : Prop := match r with | .done c => Post2 ky a b st₀ N c st' | .yield c => Inv2 ky a b st₀ N c st'
def loP3 (a b out : Array Keyed) (ia ib mg ac bc : Nat) : StateT SortSt Sem (ForInStep R2) := do
  let x ← elem' a ia
  if (ia + 1 + 1 == a.size) = true then pure (ForInStep.done (some (out.push x ++ b.extract ib b.size ++ a.extract (ia + 1) a.size), out.push x, ia + 1, ib, mg, ac, bc))
  else if (decide (ac < 7) && decide (bc < 7)) = true then pure (ForInStep.done (none, out.push x, ia + 1, ib, mg, ac, bc))
  else pure (ForInStep.yield (none, out.push x, ia + 1, ib, mg, ac, bc))
theorem wpS_loP3 {st : SortSt} {out : Array Keyed} {ia ib mg ac bc N : Nat} (X : MC ky a₀ a b) (hS : Sm st₀ st) (hI : MI ky a b out ia ib) (h1 : ia + 2 ≤ a.size) (h2 : ib + 1 ≤ b.size) (hN : N ≤ out.size) (hx : ∀ x, a[ia]? = some x → ∀ y ∈ b.toList.drop ib, O.kle (ky x) (ky y)) : wpS M A E s (loP3 a b out ia ib mg ac bc) (Out2 ky a b st₀ N) st := by
  unfold loP3
  obtain ⟨x, e, hm⟩ := at_lt (a := a) (i := ia) (by omega)
  refine wpS_bind (wpS_elem e ?_)
  have hI' := hI.mvA (k := 1) X.sa (by omega) (fun z hz y hy => by rw [take_one e] at hz; rw [List.mem_singleton.mp hz]; exact hx x e y hy)
  rw [← ext_one e] at hI'
  have hN' : N ≤ (out.push x).size := by rw [Array.size_push]; omega
  by_cases c1 : ia + 1 + 1 = a.size
  · rw [if_pos (by simpa using c1)]
    exact wpS_pure (.inr ⟨_, _, rfl, hS, hI'.last X.sa X.sb c1 X.hl⟩)
  · rw [if_neg (by simpa using c1)]
    have hV : Inv2 ky a b st₀ N (none, out.push x, ia + 1, ib, mg, ac, bc) st := ⟨_, _, _, _, _, _, rfl, hS, hI', by omega, h2, hN'⟩
    split
    · exact wpS_pure (.inl hV)
    · exact wpS_pure hV
def loP2 (a b out : Array Keyed) (ia ib mg ac bc : Nat) : StateT SortSt Sem (ForInStep R2) := do
  let y ← elem' b ib
  if (ib + 1 == b.size) = true then pure (ForInStep.done (some (out.push y ++ a.extract ia a.size ++ b.extract (ib + 1) b.size), out.push y, ia, ib + 1, mg, ac, bc))
  else do
    let x ← elem' a ia
    let r ← gallop' true x b (ib + 1) (b.size - (ib + 1)) 0
    match r with
    | some k =>
      if k > 0 then
        if (ib + 1 + k == b.size) = true then pure (ForInStep.done (some (out.push y ++ b.extract (ib + 1) (ib + 1 + k) ++ a.extract ia a.size ++ b.extract (ib + 1 + k) b.size), out.push y ++ b.extract (ib + 1) (ib + 1 + k), ia, ib + 1 + k, mg, ac, k))
        else loP3 a b (out.push y ++ b.extract (ib + 1) (ib + 1 + k)) ia (ib + 1 + k) mg ac k
      else loP3 a b (out.push y) ia (ib + 1) mg ac k
    | _ => pure (ForInStep.done (some (out.push y ++ a.extract ia a.size ++ b.extract (ib + 1) b.size), out.push y, ia, ib + 1, mg, ac, bc))
theorem wpS_loP2 {st : SortSt} {out : Array Keyed} {ia ib mg ac bc N : Nat} (hC : Cmp M A s O ky κ a₀) (hk : kindOf st = κ) (X : MC ky a₀ a b) (hS : Sm st₀ st) (hI : MI ky a b out ia ib) (h1 : ia + 2 ≤ a.size) (h2 : ib + 1 ≤ b.size) (hN : N ≤ out.size) (hy : ∀ y, b[ib]? = some y → ∀ x ∈ a.toList.drop ia, O.kle (ky y) (ky x)) : wpS M A E s (loP2 a b out ia ib mg ac bc) (Out2 ky a b st₀ N) st := by
  unfold loP2
  obtain ⟨y, e, hm⟩ := at_lt (a := b) (i := ib) (by omega)
  refine wpS_bind (wpS_elem e ?_)
  have hI' := hI.mvB (k := 1) X.sb (by omega) (fun z hz x hx => by rw [take_one e] at hz; rw [List.mem_singleton.mp hz]; exact hy y e x hx)
  rw [← ext_one e] at hI'
  have hN' : N ≤ (out.push y).size := by rw [Array.size_push]; omega
  by_cases c1 : ib + 1 = b.size
  · rw [if_pos (by simpa using c1)]
    exact wpS_pure (.inr ⟨_, _, rfl, hS, hI'.done X.sa X.sb (.inr c1)⟩)
  · rw [if_neg (by simpa using c1)]
    obtain ⟨x, ex, hmx⟩ := at_lt (a := a) (i := ia) (by omega)
    refine wpS_bind (wpS_elem ex ?_)
    refine wpS_bind (wpS_galL hC hk (X.ma x hmx) (fun i hi => (at_lt (a := b) (i := ib + 1 + i) (by omega)).imp fun z hz => ⟨hz.1, X.mb z hz.2⟩) (X.sb.up (by omega)) (by omega) fun k k1 k2 k3 => ?_)
    dsimp only
    have hrest : ∀ x', a[ia]? = some x' → ∀ z ∈ b.toList.drop (ib + 1 + k), O.kle (ky x') (ky z) := by
      intro x' ex' z hz
      rw [ex] at ex'; cases ex'
      obtain ⟨j, j1, j2, j3⟩ := mem_d hz
      have := k3 (j - (ib + 1)) (by omega) (by omega)
      rw [show ib + 1 + (j - (ib + 1)) = j by omega, kk_some j3] at this
      exact this
    by_cases c2 : k > 0
    · rw [if_pos c2]
      have hI2 := hI'.mvB (k := k) X.sb (by omega) (fun z hz x' hx' => by
        obtain ⟨j, j1, j2, j3, j4⟩ := mem_dt hz
        have := k2 (j - (ib + 1)) (by omega)
        rw [show ib + 1 + (j - (ib + 1)) = j by omega, kk_some j4] at this
        obtain ⟨m, m1, m2, m3⟩ := mem_d hx'
        exact KeyOrd.kle_trans (KeyOrd.kle_of_klt this) (X.sa.at m1 ex m3))
      by_cases c3 : ib + 1 + k = b.size
      · rw [if_pos (by simpa using c3)]
        exact wpS_pure (.inr ⟨_, _, rfl, hS, hI2.done X.sa X.sb (.inr c3)⟩)
      · rw [if_neg (by simpa using c3)]
        exact wpS_loP3 X hS hI2 h1 (by omega) (by rw [Array.size_append]; omega) hrest
    · rw [if_neg c2]
      have : k = 0 := by omega
      subst this
      exact wpS_loP3 X hS hI' h1 (by omega) hN' hrest
def loP1 (a b out : Array Keyed) (ia ib mg ac bc : Nat) : StateT SortSt Sem (ForInStep R2) := do
  setMinGallop' mg
  let y ← elem' b ib
  let r ← gallop' false y a ia (a.size - ia) 0
  match r with
  | some k =>
    if k > 0 then
      if (ia + k + 1 == a.size) = true then pure (ForInStep.done (some (out ++ a.extract ia (ia + k) ++ b.extract ib b.size ++ a.extract (ia + k) a.size), out ++ a.extract ia (ia + k), ia + k, ib, mg, k, bc))
      else if (ia + k == a.size) = true then pure (ForInStep.done (some (out ++ a.extract ia (ia + k) ++ a.extract (ia + k) a.size ++ b.extract ib b.size), out ++ a.extract ia (ia + k), ia + k, ib, mg, k, bc))
      else loP2 a b (out ++ a.extract ia (ia + k)) (ia + k) ib mg k bc
    else loP2 a b out ia ib mg k bc
  | _ => pure (ForInStep.done (some (out ++ a.extract ia a.size ++ b.extract ib b.size), out, ia, ib, mg, ac, bc))
theorem wpS_loP1 {st : SortSt} {out : Array Keyed} {ia ib mg ac bc N : Nat} (hC : Cmp M A s O ky κ a₀) (hk : kindOf st₀ = κ) (X : MC ky a₀ a b) (hS : Sm st₀ st) (hI : MI ky a b out ia ib) (h1 : ia + 2 ≤ a.size) (h2 : ib + 1 ≤ b.size) (hN : N ≤ out.size) : wpS M A E s (loP1 a b out ia ib mg ac bc) (Out2 ky a b st₀ N) st := by
  unfold loP1
  refine wpS_bind (wpS_smg fun st' hS1 => ?_)
  have hS' := hS.trans hS1
  have hk' : kindOf st' = κ := hS'.kind.trans hk
  obtain ⟨y, e, hm⟩ := at_lt (a := b) (i := ib) (by omega)
  refine wpS_bind (wpS_elem e ?_)
  refine wpS_bind (wpS_galR hC hk' (X.mb y hm) (fun i hi => (at_lt (a := a) (i := ia + i) (by omega)).imp fun z hz => ⟨hz.1, X.ma z hz.2⟩) (X.sa.up (by omega)) (by omega) fun k k1 k2 k3 => ?_)
  dsimp only
  have hrest : ∀ y', b[ib]? = some y' → ∀ z ∈ a.toList.drop (ia + k), O.kle (ky y') (ky z) := by
    intro y' ey' z hz
    rw [e] at ey'; cases ey'
    obtain ⟨j, j1, j2, j3⟩ := mem_d hz
    have := k3 (j - ia) (by omega) (by omega)
    rw [show ia + (j - ia) = j by omega, kk_some j3] at this
    exact KeyOrd.kle_of_klt this
  by_cases c2 : k > 0
  · rw [if_pos c2]
    have hI2 := hI.mvA (k := k) X.sa (by omega) (fun z hz x' hx' => by
      obtain ⟨j, j1, j2, j3, j4⟩ := mem_dt hz
      have := k2 (j - ia) (by omega)
      rw [show ia + (j - ia) = j by omega, kk_some j4] at this
      obtain ⟨m, m1, m2, m3⟩ := mem_d hx'
      exact KeyOrd.kle_trans this (X.sb.at m1 e m3))
    have hN2 : N ≤ (out ++ a.extract ia (ia + k)).size := by rw [Array.size_append]; omega
    by_cases c3 : ia + k + 1 = a.size
    · rw [if_pos (by simpa using c3)]
      exact wpS_pure (.inr ⟨_, _, rfl, hS', hI2.last X.sa X.sb c3 X.hl⟩)
    · rw [if_neg (by simpa using c3)]
      by_cases c4 : ia + k = a.size
      · rw [if_pos (by simpa using c4)]
        exact wpS_pure (.inr ⟨_, _, rfl, hS', hI2.done X.sa X.sb (.inl c4)⟩)
      · rw [if_neg (by simpa using c4)]
        exact wpS_loP2 hC hk' X hS' hI2 (by omega) h2 hN2 hrest
  · rw [if_neg c2]
    have : k = 0 := by omega
    subst this
    exact wpS_loP2 hC hk' X hS' hI h1 h2 hN hrest
abbrev R1 : Type := Option (Array Keyed) × Array Keyed × Nat × Nat × Nat × Nat
def Inv1 (ky : Keyed → O.α) (a b : Array Keyed) (st₀ : SortSt) (N : Nat) (c : R1) (st' : SortSt) : Prop := ∃ out ia ib ac bc, c = (none, out, ia, ib, ac, bc) ∧ Sm st₀ st' ∧ MI ky a b out ia ib ∧ ia + 2 ≤ a.size ∧ ib + 1 ≤ b.size ∧ N ≤ out.size
def Post1 (ky : Keyed → O.α) (a b : Array Keyed) (st₀ : SortSt) (N : Nat) (c : R1) (st' : SortSt) : Prop := Inv1 ky a b st₀ N c st' ∨ ∃ r rest, c = (some r, rest) ∧ Sm st₀ st' ∧ Res ky a b r
def loO (a b out : Array Keyed) (ia ib mg ac bc : Nat) : StateT SortSt Sem (ForInStep R1) := do
  let y ← elem' b ib
  let x ← elem' a ia
  let r ← lt' y x
  match r with
  | some bWins =>
    if bWins = true then do
      let y ← elem' b ib
      if (ib + 1 == b.size) = true then pure (ForInStep.done (some (out.push y ++ a.extract ia a.size ++ b.extract (ib + 1) b.size), out.push y, ia, ib + 1, 0, bc + 1))
      else if bc + 1 ≥ mg then pure (ForInStep.done (none, out.push y, ia, ib + 1, 0, bc + 1))
      else pure (ForInStep.yield (none, out.push y, ia, ib + 1, 0, bc + 1))
    else do
      let x ← elem' a ia
      if (ia + 1 + 1 == a.size) = true then pure (ForInStep.done (some (out.push x ++ b.extract ib b.size ++ a.extract (ia + 1) a.size), out.push x, ia + 1, ib, ac + 1, 0))
      else if ac + 1 ≥ mg then pure (ForInStep.done (none, out.push x, ia + 1, ib, ac + 1, 0))
      else pure (ForInStep.yield (none, out.push x, ia + 1, ib, ac + 1, 0))
  | _ => pure (ForInStep.done (some (out ++ a.extract ia a.size ++ b.extract ib b.size), out, ia, ib, ac, bc))
theorem wpS_loO {st : SortSt} {out : Array Keyed} {ia ib mg ac bc N : Nat} (hC : Cmp M A s O ky κ a₀) (hk : kindOf st₀ = κ) (X : MC ky a₀ a b) (hS : Sm st₀ st) (hI : MI ky a b out ia ib) (h1 : ia + 2 ≤ a.size) (h2 : ib + 1 ≤ b.size) (hN : N ≤ out.size) : wpS M A E s (loO a b out ia ib mg ac bc) (fun r st' => match r with | .done c => Post1 ky a b st₀ (N + 1) c st' | .yield c => Inv1 ky a b st₀ (N + 1) c st') st := by
  unfold loO
  obtain ⟨y, e, hm⟩ := at_lt (a := b) (i := ib) (by omega)
  obtain ⟨x, ex, hmx⟩ := at_lt (a := a) (i := ia) (by omega)
  refine wpS_bind (wpS_elem e (wpS_bind (wpS_elem ex ?_)))
  refine wpS_bind (wpS_lt hC (X.mb y hm) (X.ma x hmx) (hS.kind.trans hk) ?_)
  cases hw : O.blt (ky y) (ky x)
  case true =>
    simp only [if_true]
    refine wpS_bind (wpS_elem e ?_)
    have hI' := hI.mvB (k := 1) X.sb (by omega) (fun z hz x' hx' => by
      rw [take_one e] at hz; rw [List.mem_singleton.mp hz]
      obtain ⟨m, m1, m2, m3⟩ := mem_d hx'
      exact KeyOrd.kle_trans (KeyOrd.kle_of_klt hw) (X.sa.at m1 ex m3))
    rw [← ext_one e] at hI'
    have hN' : N + 1 ≤ (out.push y).size := by rw [Array.size_push]; omega
    by_cases c1 : ib + 1 = b.size
    · rw [if_pos (by simpa using c1)]
      exact wpS_pure (.inr ⟨_, _, rfl, hS, hI'.done X.sa X.sb (.inr c1)⟩)
    · rw [if_neg (by simpa using c1)]
      have hV : Inv1 ky a b st₀ (N + 1) (none, out.push y, ia, ib + 1, 0, bc + 1) st := ⟨_, _, _, _, _, rfl, hS, hI', h1, by omega, hN'⟩
      split
      · exact wpS_pure (.inl hV)
      · exact wpS_pure hV
  case false =>
    simp only [Bool.false_eq_true, if_false]
    refine wpS_bind (wpS_elem ex ?_)
    have hI' := hI.mvA (k := 1) X.sa (by omega) (fun z hz x' hx' => by
      rw [take_one ex] at hz; rw [List.mem_singleton.mp hz]
      obtain ⟨m, m1, m2, m3⟩ := mem_d hx'
      exact KeyOrd.kle_trans (show O.kle _ _ from hw) (X.sb.at m1 e m3))
    rw [← ext_one ex] at hI'
    have hN' : N + 1 ≤ (out.push x).size := by rw [Array.size_push]; omega
    by_cases c1 : ia + 1 + 1 = a.size
    · rw [if_pos (by simpa using c1)]
      exact wpS_pure (.inr ⟨_, _, rfl, hS, hI'.last X.sa X.sb c1 X.hl⟩)
    · rw [if_neg (by simpa using c1)]
      have hV : Inv1 ky a b st₀ (N + 1) (none, out.push x, ia + 1, ib, ac + 1, 0) st := ⟨_, _, _, _, _, rfl, hS, hI', by omega, h2, hN'⟩
      split
      · exact wpS_pure (.inl hV)
      · exact wpS_pure hV
end
end SO
namespace SO
open PySem PyProof PyProof.Rows
section
variable {M : Model} {A : Around} {E : Value → Shared → Prop} {s : Shared} {O : KeyOrd} {ky : Keyed → O.α} {κ : SortKind} {a₀ a b : Array Keyed} {st₀ : SortSt}
theorem Inv1.mono {N N' : Nat} {c : R1} {st : SortSt} (h : Inv1 ky a b st₀ N c st) (hN : N' ≤ N) : Inv1 ky a b st₀ N' c st := by
  obtain ⟨out, ia, ib, ac, bc, e, h1, h2, h3, h4, h5⟩ := h
  exact ⟨out, ia, ib, ac, bc, e, h1, h2, h3, h4, by omega⟩
theorem Post1.mono {N N' : Nat} {c : R1} {st : SortSt} (h : Post1 ky a b st₀ N c st) (hN : N' ≤ N) : Post1 ky a b st₀ N' c st := h.imp (fun h => h.mono hN) id
abbrev R0 : Type := Option (Array Keyed) × Array Keyed × Nat × Nat × Nat
def Inv0 (ky : Keyed → O.α) (a b : Array Keyed) (st₀ : SortSt) (N : Nat) (c : R0) (st' : SortSt) : Prop := ∃ out ia ib mg, c = (none, out, ia, ib, mg) ∧ Sm st₀ st' ∧ MI ky a b out ia ib ∧ ia + 2 ≤ a.size ∧ ib + 1 ≤ b.size ∧ N ≤ out.size
def Post0 (ky : Keyed → O.α) (a b : Array Keyed) (st₀ : SortSt) (c : R0) (st' : SortSt) : Prop := ∃ r rest, c = (some r, rest) ∧ Sm st₀ st' ∧ Res ky a b r
theorem MI.start (ky : Keyed → O.α) (a b : Array Keyed) : MI ky a b #[] 0 0 := ⟨Nat.zero_le _, Nat.zero_le _, by simp, List.Pairwise.nil, fun x hx => by cases hx⟩
theorem wpS_mergeLo {st : SortSt} {Q : Array Keyed → SortSt → Prop} (hC : Cmp M A s O ky κ a₀) (hk : kindOf st = κ) (X : MC ky a₀ a b) (h : ∀ r st', Sm st st' → Res ky a b r → Q r st') : wpS M A E s (mergeLo' a b) Q st := by
  rw [mergeLo'_eq]
  refine wpS_bind (wpS_lift (wpAny_rule ⟨rfl, ?_⟩))
  have hna := X.na
  have hnb := X.nb
  obtain ⟨y, e, hm⟩ := at_lt (a := b) (i := 0) (by omega)
  refine wpS_bind (wpS_elem e ?_)
  dsimp only
  have hI := (MI.start ky a b).mvB (k := 1) X.sb (by omega) (fun z hz x' hx' => by
    rw [take_one e] at hz; rw [List.mem_singleton.mp hz]
    exact X.hf x' (List.mem_of_mem_drop hx') y e)
  rw [← ext_one e] at hI
  have hI : MI ky a b #[y] 0 1 := hI
  by_cases c1 : 1 = b.size
  · rw [if_pos (by simpa using c1)]
    exact wpS_pure (h _ _ (Sm.refl _) (hI.done X.sa X.sb (.inr c1)))
  rw [if_neg (by simpa using c1)]
  by_cases c2 : 0 + 1 = a.size
  · rw [if_pos (by simpa using c2)]
    exact wpS_pure (h _ _ (Sm.refl _) (hI.last X.sa X.sb c2 X.hl))
  rw [if_neg (by simpa using c2)]
  refine wpS_bind (wpS_get ?_)
  refine wpS_bind (wpS_mono (wpS_forRange (I := fun x c st' => Inv0 ky a b st (x + 1) c st') (Q := Post0 ky a b st) ?step ?fin ⟨_, _, _, _, rfl, Sm.refl _, hI, by omega, by omega, by simp⟩) ?post)
  case post =>
    rintro c st' ⟨r, rest, rfl, hS, hR⟩
    exact wpS_pure (h r st' hS hR)
  case fin =>
    rintro c st' ⟨out, ia, ib, mg, rfl, hS, hI, h1, h2, hN⟩
    have := hI.size
    exact absurd hN (by omega)
  case step =>
    rintro x c st' _ hx ⟨out, ia, ib, mg, rfl, hS, hI, h1, h2, hN⟩
    refine wpS_bind (wpS_mono (wpS_forRange (I := fun j c st' => Inv1 ky a b st (x + 1 + j) c st') (Q := Post1 ky a b st (x + 2)) ?s1 ?f1 ⟨_, _, _, _, _, rfl, hS, hI, h1, h2, by omega⟩) ?p1)
    case f1 =>
      intro c st' hc
      exact .inl (hc.mono (by omega))
    case s1 =>
      rintro j c st' _ hj ⟨out, ia, ib, ac, bc, rfl, hS, hI, h1, h2, hN⟩
      refine wpS_mono (wpS_loO (mg := mg) (ac := ac) (bc := bc) hC hk X hS hI h1 h2 hN) fun r st' hr => ?_
      cases r with
      | done c => exact Post1.mono hr (by omega)
      | yield c => exact Inv1.mono hr (by omega)
    case p1 =>
      rintro c st' (⟨out, ia, ib, ac, bc, rfl, hS, hI, h1, h2, hN⟩ | ⟨r, rest, rfl, hS, hR⟩)
      · dsimp only
        refine wpS_bind (wpS_lift (wpAny_rule ⟨rfl, ?_⟩))
        refine wpS_bind (wpS_mono (wpS_forRange (I := fun _ c st' => Inv2 ky a b st (x + 2) c st') (Q := Post2 ky a b st (x + 2)) ?s2 ?f2 ⟨_, _, _, _, _, _, rfl, hS, hI, h1, h2, hN⟩) ?p2)
        case f2 => exact fun c st' hc => .inl hc
        case s2 =>
          rintro j c st' _ hj ⟨out, ia, ib, mg, ac, bc, rfl, hS, hI, h1, h2, hN⟩
          by_cases c3 : mg > 1
          · dsimp only
            rw [if_pos c3]
            refine wpS_mono (wpS_loP1 (mg := mg - 1) (ac := ac) (bc := bc) hC hk X hS hI h1 h2 hN) fun r st' hr => ?_
            cases r with
            | done c => exact hr
            | yield c => exact hr
          · dsimp only
            rw [if_neg c3]
            refine wpS_mono (wpS_loP1 (mg := mg) (ac := ac) (bc := bc) hC hk X hS hI h1 h2 hN) fun r st' hr => ?_
            cases r with
            | done c => exact hr
            | yield c => exact hr
        case p2 =>
          rintro c st' (⟨out, ia, ib, mg, ac, bc, rfl, hS, hI, h1, h2, hN⟩ | ⟨r, rest, rfl, hS, hR⟩)
          · dsimp only
            exact wpS_bind (wpS_smg fun st' hS1 => wpS_pure ⟨_, _, _, _, rfl, hS.trans hS1, hI, h1, h2, by omega⟩)
          · exact wpS_pure ⟨_, _, rfl, hS, hR⟩
      · exact wpS_pure ⟨_, _, rfl, hS, hR⟩
end
end SO
namespace SO
open PySem PyProof PyProof.Rows
section
variable {M : Model} {A : Around} {E : Value → Shared → Prop} {s : Shared} {O : KeyOrd} {ky : Keyed → O.α} {κ : SortKind} {a₀ a b : Array Keyed} {st₀ : SortSt}
theorem mem_t {a : Array Keyed} {n : Nat} {x : Keyed} (h : x ∈ a.toList.take n) : ∃ j, j < n ∧ j < a.size ∧ a[j]? = some x := by
  obtain ⟨k, hk, e⟩ := List.mem_iff_getElem.mp h
  rw [List.getElem_take] at e
  rw [List.length_take, Array.length_toList] at hk
  exact ⟨k, by omega, by omega, by rw [getElem?_pos a k (by omega)]; exact congrArg some e⟩
structure MH (ky : Keyed → O.α) (a b : Array Keyed) (na nb : Nat) (out : Array Keyed) : Prop where
  ha : na ≤ a.size
  hb : nb ≤ b.size
  perm : (a.toList.take na ++ (b.toList.take nb ++ out.toList.reverse)).Perm (a.toList ++ b.toList)
  srt : SL ky out.toList.reverse
  le : ∀ x ∈ a.toList.take na ++ b.toList.take nb, ∀ y ∈ out.toList.reverse, O.kle (ky x) (ky y)
theorem mvh_lists {A' P B' R T : List Keyed} (hp : ((A' ++ P) ++ (B' ++ R)).Perm T) (hs : SL ky R) (hle : ∀ x ∈ (A' ++ P) ++ B', ∀ y ∈ R, O.kle (ky x) (ky y)) (sA : SL ky (A' ++ P)) (hPB : ∀ x ∈ P, ∀ y ∈ B', O.kle (ky y) (ky x)) :
    (A' ++ (B' ++ (P ++ R))).Perm T ∧ SL ky (P ++ R) ∧ (∀ x ∈ A' ++ B', ∀ y ∈ P ++ R, O.kle (ky x) (ky y)) := by
  have sA' := List.pairwise_append.mp sA
  refine ⟨?_, List.pairwise_append.mpr ⟨sA'.2.1, hs, fun x hx y hy => hle x (by simp [hx]) y hy⟩, ?_⟩
  · refine List.Perm.trans ?_ hp
    rw [List.append_assoc]
    refine List.Perm.append_left _ ?_
    rw [← List.append_assoc, ← List.append_assoc]
    exact List.Perm.append_right _ List.perm_append_comm
  · intro x hx y hy
    rcases List.mem_append.mp hy with hy | hy
    · rcases List.mem_append.mp hx with hx | hx
      · exact sA'.2.2 x hx y hy
      · exact hPB y hy x hx
    · refine hle x ?_ y hy
      rcases List.mem_append.mp hx with hx | hx <;> simp [hx]
theorem rev_out {out P : Array Keyed} : (out ++ P.reverse).toList.reverse = P.toList ++ out.toList.reverse := by simp
theorem MH.mvA {out : Array Keyed} {m k nb : Nat} (h : MH ky a b (m + k) nb out) (sa : SL ky a.toList) (hle : ∀ x ∈ (a.toList.drop m).take k, ∀ y ∈ b.toList.take nb, O.kle (ky y) (ky x)) : MH ky a b m nb (out ++ (a.extract m (m + k)).reverse) := by
  have p := h.perm
  have l := h.le
  have s := sa.take (m + k)
  rw [List.take_add] at p l s
  obtain ⟨q1, q2, q3⟩ := mvh_lists p h.srt l s hle
  have := h.ha
  refine ⟨by omega, h.hb, ?_, ?_, ?_⟩ <;> rw [rev_out, toList_ext]
  · exact q1
  · exact q2
  · exact q3
theorem MH.mvB {out : Array Keyed} {m k na : Nat} (h : MH ky a b na (m + k) out) (sb : SL ky b.toList) (hle : ∀ x ∈ (b.toList.drop m).take k, ∀ y ∈ a.toList.take na, O.kle (ky y) (ky x)) : MH ky a b na m (out ++ (b.extract m (m + k)).reverse) := by
  have swap : ∀ (U V R : List Keyed), (U ++ (V ++ R)).Perm (V ++ (U ++ R)) := fun U V R => by
    rw [← List.append_assoc, ← List.append_assoc]; exact List.Perm.append_right _ List.perm_append_comm
  have p := (swap _ _ _).trans h.perm
  have l : ∀ x ∈ b.toList.take (m + k) ++ a.toList.take na, ∀ y ∈ out.toList.reverse, O.kle (ky x) (ky y) := fun x hx y hy => h.le x (by rcases List.mem_append.mp hx with hx | hx <;> simp [hx]) y hy
  have s := sb.take (m + k)
  rw [List.take_add] at p l s
  obtain ⟨q1, q2, q3⟩ := mvh_lists p h.srt l s hle
  have := h.hb
  refine ⟨h.ha, by omega, ?_, ?_, ?_⟩ <;> rw [rev_out, toList_ext]
  · exact (swap _ _ _).trans q1
  · exact q2
  · exact fun x hx y hy => q3 x (by rcases List.mem_append.mp hx with hx | hx <;> simp [hx]) y hy
theorem ext_oneR {a : Array Keyed} {i : Nat} {x : Keyed} (e : a[i]? = some x) (out : Array Keyed) : out.push x = out ++ (a.extract i (i + 1)).reverse := by
  have : a.extract i (i + 1) = #[x] := by
    apply Array.ext'
    rw [toList_ext, take_one e]
  rw [this]
  rfl
theorem toList_pre {a : Array Keyed} {n : Nat} : (a.extract 0 n).toList = a.toList.take n := by
  have := toList_ext (a := a) (i := 0) (k := n)
  rw [Nat.zero_add] at this
  rw [this]; rfl
theorem MH.done {out : Array Keyed} {na nb : Nat} (h : MH ky a b na nb out) (sa : SL ky a.toList) (sb : SL ky b.toList) (he : na = 0 ∨ nb = 0) : Res ky a b (a.extract 0 na ++ b.extract 0 nb ++ out.reverse) := by
  unfold Res
  rw [Array.toList_append, Array.toList_append, toList_pre, toList_pre, Array.toList_reverse]
  refine ⟨by rw [List.append_assoc]; exact h.perm, List.pairwise_append.mpr ⟨List.pairwise_append.mpr ⟨sa.take na, sb.take nb, fun x hx y hy => ?_⟩, h.srt, h.le⟩⟩
  rcases he with e | e
  · subst e; rw [List.take_zero] at hx; cases hx
  · subst e; rw [List.take_zero] at hy; cases hy
theorem MH.first {out : Array Keyed} {na nb : Nat} (h : MH ky a b na nb out) (X : MC ky a₀ a b) (he : nb = 1) : Res ky a b (b.extract 0 nb ++ a.extract 0 na ++ out.reverse) := by
  unfold Res
  rw [Array.toList_append, Array.toList_append, toList_pre, toList_pre, Array.toList_reverse]
  refine ⟨?_, List.pairwise_append.mpr ⟨List.pairwise_append.mpr ⟨X.sb.take nb, X.sa.take na, fun x hx y hy => ?_⟩, h.srt, fun x hx y hy => h.le x (by rcases List.mem_append.mp hx with hx | hx <;> simp [hx]) y hy⟩⟩
  · refine List.Perm.trans ?_ h.perm
    rw [← List.append_assoc]; exact List.Perm.append_right _ List.perm_append_comm
  · subst he
    obtain ⟨j, j1, j2, j3⟩ := mem_t hx
    have : j = 0 := by omega
    subst this
    exact X.hf y (List.mem_of_mem_take hy) x j3
theorem MH.size {out : Array Keyed} {na nb : Nat} (h : MH ky a b na nb out) : out.size + na + nb = a.size + b.size := by
  have := h.perm.length_eq
  have h1 := h.ha
  have h2 := h.hb
  simp at this
  omega
abbrev H2 : Type := Option (Array Keyed) × Nat × Nat × Array Keyed × Nat × Nat × Nat
def Jnv2 (ky : Keyed → O.α) (a b : Array Keyed) (st₀ : SortSt) (N : Nat) (c : H2) (st' : SortSt) : Prop := ∃ na nb out mg ac bc, c = (none, na, nb, out, mg, ac, bc) ∧ Sm st₀ st' ∧ MH ky a b na nb out ∧ 1 ≤ na ∧ 2 ≤ nb ∧ N ≤ out.size
def Qost2 (ky : Keyed → O.α) (a b : Array Keyed) (st₀ : SortSt) (N : Nat) (c : H2) (st' : SortSt) : Prop := Jnv2 ky a b st₀ N c st' ∨ ∃ r rest, c = (some r, rest) ∧ Sm st₀ st' ∧ Res ky a b r
abbrev Put2 (ky : Keyed → O.α) (a b : Array Keyed) (st₀ : SortSt) (N : Nat) (r : ForInStep H2) (st' : SortSt) : Prop := match r with | .done c => Qost2 ky a b st₀ N c st' | .yield c => Jnv2 ky a b st₀ N c st'
def hiP3 (a b : Array Keyed) (na nb : Nat) (out : Array Keyed) (mg ac bc : Nat) : StateT SortSt Sem (ForInStep H2) := do
  let x ← elem' a (na - 1)
  if (na - 1 == 0) = true then pure (ForInStep.done (some (a.extract 0 (na - 1) ++ b.extract 0 nb ++ (out.push x).reverse), na - 1, nb, out.push x, mg, ac, bc))
  else if (decide (ac < 7) && decide (bc < 7)) = true then pure (ForInStep.done (none, na - 1, nb, out.push x, mg, ac, bc))
  else pure (ForInStep.yield (none, na - 1, nb, out.push x, mg, ac, bc))
theorem MH.oneA {out : Array Keyed} {na nb : Nat} {x : Keyed} (h : MH ky a b na nb out) (sa : SL ky a.toList) (h1 : 1 ≤ na) (e : a[na - 1]? = some x) (hle : ∀ y ∈ b.toList.take nb, O.kle (ky y) (ky x)) : MH ky a b (na - 1) nb (out.push x) := by
  have h' : MH ky a b (na - 1 + 1) nb out := by rw [show na - 1 + 1 = na by omega]; exact h
  have := h'.mvA sa (fun z hz y hy => by rw [take_one e] at hz; rw [List.mem_singleton.mp hz]; exact hle y hy)
  rw [← ext_oneR e] at this
  exact this
theorem MH.oneB {out : Array Keyed} {na nb : Nat} {y : Keyed} (h : MH ky a b na nb out) (sb : SL ky b.toList) (h1 : 1 ≤ nb) (e : b[nb - 1]? = some y) (hle : ∀ x ∈ a.toList.take na, O.kle (ky x) (ky y)) : MH ky a b na (nb - 1) (out.push y) := by
  have h' : MH ky a b na (nb - 1 + 1) out := by rw [show nb - 1 + 1 = nb by omega]; exact h
  have := h'.mvB sb (fun z hz y hy => by rw [take_one e] at hz; rw [List.mem_singleton.mp hz]; exact hle y hy)
  rw [← ext_oneR e] at this
  exact this
theorem wpS_hiP3 {st : SortSt} {out : Array Keyed} {na nb mg ac bc N : Nat} (X : MC ky a₀ a b) (hS : Sm st₀ st) (hI : MH ky a b na nb out) (h1 : 1 ≤ na) (h2 : 2 ≤ nb) (hN : N ≤ out.size) (hx : ∀ x, a[na - 1]? = some x → ∀ y ∈ b.toList.take nb, O.kle (ky y) (ky x)) : wpS M A E s (hiP3 a b na nb out mg ac bc) (Put2 ky a b st₀ N) st := by
  unfold hiP3
  have hha := hI.ha
  obtain ⟨x, e, hm⟩ := at_lt (a := a) (i := na - 1) (by omega)
  refine wpS_bind (wpS_elem e ?_)
  have hI' := hI.oneA X.sa h1 e (hx x e)
  have hN' : N ≤ (out.push x).size := by rw [Array.size_push]; omega
  by_cases c1 : na - 1 = 0
  · rw [if_pos (by simpa using c1)]
    exact wpS_pure (.inr ⟨_, _, rfl, hS, hI'.done X.sa X.sb (.inl c1)⟩)
  · rw [if_neg (by simpa using c1)]
    have hV : Jnv2 ky a b st₀ N (none, na - 1, nb, out.push x, mg, ac, bc) st := ⟨_, _, _, _, _, _, rfl, hS, hI', by omega, h2, hN'⟩
    split
    · exact wpS_pure (.inl hV)
    · exact wpS_pure hV
def hiP2 (a b : Array Keyed) (na nb : Nat) (out : Array Keyed) (mg ac bc : Nat) : StateT SortSt Sem (ForInStep H2) := do
  let y ← elem' b (nb - 1)
  if (nb - 1 == 1) = true then pure (ForInStep.done (some (b.extract 0 (nb - 1) ++ a.extract 0 na ++ (out.push y).reverse), na, nb - 1, out.push y, mg, ac, bc))
  else do
    let x ← elem' a (na - 1)
    let r ← gallop' true x b 0 (nb - 1) (nb - 1 - 1)
    match r with
    | some k =>
      if nb - 1 - k > 0 then
        if (k == 1) = true then pure (ForInStep.done (some (b.extract 0 k ++ a.extract 0 na ++ (out.push y ++ (b.extract k (nb - 1)).reverse).reverse), na, k, out.push y ++ (b.extract k (nb - 1)).reverse, mg, ac, nb - 1 - k))
        else if (k == 0) = true then pure (ForInStep.done (some (a.extract 0 na ++ b.extract 0 k ++ (out.push y ++ (b.extract k (nb - 1)).reverse).reverse), na, k, out.push y ++ (b.extract k (nb - 1)).reverse, mg, ac, nb - 1 - k))
        else hiP3 a b na k (out.push y ++ (b.extract k (nb - 1)).reverse) mg ac (nb - 1 - k)
      else hiP3 a b na (nb - 1) (out.push y) mg ac (nb - 1 - k)
    | _ => pure (ForInStep.done (some (a.extract 0 na ++ b.extract 0 (nb - 1) ++ (out.push y).reverse), na, nb - 1, out.push y, mg, ac, bc))
theorem wpS_hiP2 {st : SortSt} {out : Array Keyed} {na nb mg ac bc N : Nat} (hC : Cmp M A s O ky κ a₀) (hk : kindOf st = κ) (X : MC ky a₀ a b) (hS : Sm st₀ st) (hI : MH ky a b na nb out) (h1 : 1 ≤ na) (h2 : 2 ≤ nb) (hN : N ≤ out.size) (hy : ∀ y, b[nb - 1]? = some y → ∀ x ∈ a.toList.take na, O.kle (ky x) (ky y)) : wpS M A E s (hiP2 a b na nb out mg ac bc) (Put2 ky a b st₀ N) st := by
  unfold hiP2
  have hha := hI.ha
  have hhb := hI.hb
  obtain ⟨y, e, hm⟩ := at_lt (a := b) (i := nb - 1) (by omega)
  refine wpS_bind (wpS_elem e ?_)
  have hI' := hI.oneB X.sb (by omega) e (hy y e)
  have hN' : N ≤ (out.push y).size := by rw [Array.size_push]; omega
  by_cases c1 : nb - 1 = 1
  · rw [if_pos (by simpa using c1)]
    exact wpS_pure (.inr ⟨_, _, rfl, hS, hI'.first X c1⟩)
  · rw [if_neg (by simpa using c1)]
    obtain ⟨x, ex, hmx⟩ := at_lt (a := a) (i := na - 1) (by omega)
    refine wpS_bind (wpS_elem ex ?_)
    refine wpS_bind (wpS_galL hC hk (X.ma x hmx) (fun i hi => (at_lt (a := b) (i := 0 + i) (by omega)).imp fun z hz => ⟨hz.1, X.mb z hz.2⟩) (X.sb.up (by omega)) (by omega) fun k k1 k2 k3 => ?_)
    dsimp only
    have hrest : ∀ x', a[na - 1]? = some x' → ∀ z ∈ b.toList.take k, O.kle (ky z) (ky x') := by
      intro x' ex' z hz
      rw [ex] at ex'; cases ex'
      obtain ⟨j, j1, j2, j3⟩ := mem_t hz
      have := k2 j j1
      rw [Nat.zero_add, kk_some j3] at this
      exact KeyOrd.kle_of_klt this
    by_cases c2 : nb - 1 - k > 0
    · rw [if_pos c2]
      have hI1 : MH ky a b na (k + (nb - 1 - k)) (out.push y) := by rw [show k + (nb - 1 - k) = nb - 1 by omega]; exact hI'
      have hI2 := hI1.mvB X.sb (fun z hz x' hx' => by
        obtain ⟨j, j1, j2, j3, j4⟩ := mem_dt hz
        have := k3 j j1 (by omega)
        rw [Nat.zero_add, kk_some j4] at this
        obtain ⟨m, m1, m2, m3⟩ := mem_t hx'
        exact KeyOrd.kle_trans (X.sa.at (by omega) m3 ex) this)
      rw [show k + (nb - 1 - k) = nb - 1 by omega] at hI2
      by_cases c3 : k = 1
      · rw [if_pos (by simpa using c3)]
        exact wpS_pure (.inr ⟨_, _, rfl, hS, hI2.first X c3⟩)
      · rw [if_neg (by simpa using c3)]
        by_cases c4 : k = 0
        · rw [if_pos (by simpa using c4)]
          exact wpS_pure (.inr ⟨_, _, rfl, hS, hI2.done X.sa X.sb (.inr c4)⟩)
        · rw [if_neg (by simpa using c4)]
          exact wpS_hiP3 X hS hI2 h1 (by omega) (by rw [Array.size_append]; omega) hrest
    · rw [if_neg c2]
      have : k = nb - 1 := by omega
      rw [this] at hrest
      exact wpS_hiP3 X hS hI' h1 (by omega) hN' hrest
def hiP1 (a b : Array Keyed) (na nb : Nat) (out : Array Keyed) (mg ac bc : Nat) : StateT SortSt Sem (ForInStep H2) := do
  setMinGallop' mg
  let y ← elem' b (nb - 1)
  let r ← gallop' false y a 0 na (na - 1)
  match r with
  | some k =>
    if na - k > 0 then
      if (k == 0) = true then pure (ForInStep.done (some (a.extract 0 k ++ b.extract 0 nb ++ (out ++ (a.extract k na).reverse).reverse), k, nb, out ++ (a.extract k na).reverse, mg, na - k, bc))
      else hiP2 a b k nb (out ++ (a.extract k na).reverse) mg (na - k) bc
    else hiP2 a b na nb out mg (na - k) bc
  | _ => pure (ForInStep.done (some (a.extract 0 na ++ b.extract 0 nb ++ out.reverse), na, nb, out, mg, ac, bc))
theorem wpS_hiP1 {st : SortSt} {out : Array Keyed} {na nb mg ac bc N : Nat} (hC : Cmp M A s O ky κ a₀) (hk : kindOf st₀ = κ) (X : MC ky a₀ a b) (hS : Sm st₀ st) (hI : MH ky a b na nb out) (h1 : 1 ≤ na) (h2 : 2 ≤ nb) (hN : N ≤ out.size) : wpS M A E s (hiP1 a b na nb out mg ac bc) (Put2 ky a b st₀ N) st := by
  unfold hiP1
  refine wpS_bind (wpS_smg fun st' hS1 => ?_)
  have hS' := hS.trans hS1
  have hk' : kindOf st' = κ := hS'.kind.trans hk
  have hha := hI.ha
  have hhb := hI.hb
  obtain ⟨y, e, hm⟩ := at_lt (a := b) (i := nb - 1) (by omega)
  refine wpS_bind (wpS_elem e ?_)
  refine wpS_bind (wpS_galR hC hk' (X.mb y hm) (fun i hi => (at_lt (a := a) (i := 0 + i) (by omega)).imp fun z hz => ⟨hz.1, X.ma z hz.2⟩) (X.sa.up (by omega)) (by omega) fun k k1 k2 k3 => ?_)
  dsimp only
  have hrest : ∀ y', b[nb - 1]? = some y' → ∀ z ∈ a.toList.take k, O.kle (ky z) (ky y') := by
    intro y' ey' z hz
    rw [e] at ey'; cases ey'
    obtain ⟨j, j1, j2, j3⟩ := mem_t hz
    have := k2 j j1
    rw [Nat.zero_add, kk_some j3] at this
    exact this
  by_cases c2 : na - k > 0
  · rw [if_pos c2]
    have hI1 : MH ky a b (k + (na - k)) nb out := by rw [show k + (na - k) = na by omega]; exact hI
    have hI2 := hI1.mvA X.sa (fun z hz x' hx' => by
      obtain ⟨j, j1, j2, j3, j4⟩ := mem_dt hz
      have := k3 j j1 (by omega)
      rw [Nat.zero_add, kk_some j4] at this
      obtain ⟨m, m1, m2, m3⟩ := mem_t hx'
      exact KeyOrd.kle_trans (X.sb.at (by omega) m3 e) (KeyOrd.kle_of_klt this))
    rw [show k + (na - k) = na by omega] at hI2
    by_cases c3 : k = 0
    · rw [if_pos (by simpa using c3)]
      exact wpS_pure (.inr ⟨_, _, rfl, hS', hI2.done X.sa X.sb (.inl c3)⟩)
    · rw [if_neg (by simpa using c3)]
      exact wpS_hiP2 hC hk' X hS' hI2 (by omega) h2 (by rw [Array.size_append]; omega) hrest
  · rw [if_neg c2]
    have : k = na := by omega
    rw [this] at hrest
    rw [this]
    exact wpS_hiP2 hC hk' X hS' hI h1 h2 hN hrest
abbrev H1 : Type := Option (Array Keyed) × Nat × Nat × Array Keyed × Nat × Nat
def Jnv1 (ky : Keyed → O.α) (a b : Array Keyed) (st₀ : SortSt) (N : Nat) (c : H1) (st' : SortSt) : Prop := ∃ na nb out ac bc, c = (none, na, nb, out, ac, bc) ∧ Sm st₀ st' ∧ MH ky a b na nb out ∧ 1 ≤ na ∧ 2 ≤ nb ∧ N ≤ out.size
def Qost1 (ky : Keyed → O.α) (a b : Array Keyed) (st₀ : SortSt) (N : Nat) (c : H1) (st' : SortSt) : Prop := Jnv1 ky a b st₀ N c st' ∨ ∃ r rest, c = (some r, rest) ∧ Sm st₀ st' ∧ Res ky a b r
def hiO (a b : Array Keyed) (na nb : Nat) (out : Array Keyed) (mg ac bc : Nat) : StateT SortSt Sem (ForInStep H1) := do
  let y ← elem' b (nb - 1)
  let x ← elem' a (na - 1)
  let r ← lt' y x
  match r with
  | some aWins =>
    if aWins = true then do
      let x ← elem' a (na - 1)
      if (na - 1 == 0) = true then pure (ForInStep.done (some (a.extract 0 (na - 1) ++ b.extract 0 nb ++ (out.push x).reverse), na - 1, nb, out.push x, ac + 1, 0))
      else if ac + 1 ≥ mg then pure (ForInStep.done (none, na - 1, nb, out.push x, ac + 1, 0))
      else pure (ForInStep.yield (none, na - 1, nb, out.push x, ac + 1, 0))
    else do
      let y ← elem' b (nb - 1)
      if (nb - 1 == 1) = true then pure (ForInStep.done (some (b.extract 0 (nb - 1) ++ a.extract 0 na ++ (out.push y).reverse), na, nb - 1, out.push y, 0, bc + 1))
      else if bc + 1 ≥ mg then pure (ForInStep.done (none, na, nb - 1, out.push y, 0, bc + 1))
      else pure (ForInStep.yield (none, na, nb - 1, out.push y, 0, bc + 1))
  | _ => pure (ForInStep.done (some (a.extract 0 na ++ b.extract 0 nb ++ out.reverse), na, nb, out, ac, bc))
theorem wpS_hiO {st : SortSt} {out : Array Keyed} {na nb mg ac bc N : Nat} (hC : Cmp M A s O ky κ a₀) (hk : kindOf st₀ = κ) (X : MC ky a₀ a b) (hS : Sm st₀ st) (hI : MH ky a b na nb out) (h1 : 1 ≤ na) (h2 : 2 ≤ nb) (hN : N ≤ out.size) : wpS M A E s (hiO a b na nb out mg ac bc) (fun r st' => match r with | .done c => Qost1 ky a b st₀ (N + 1) c st' | .yield c => Jnv1 ky a b st₀ (N + 1) c st') st := by
  unfold hiO
  have hha := hI.ha
  have hhb := hI.hb
  obtain ⟨y, e, hm⟩ := at_lt (a := b) (i := nb - 1) (by omega)
  obtain ⟨x, ex, hmx⟩ := at_lt (a := a) (i := na - 1) (by omega)
  refine wpS_bind (wpS_elem e (wpS_bind (wpS_elem ex ?_)))
  refine wpS_bind (wpS_lt hC (X.mb y hm) (X.ma x hmx) (hS.kind.trans hk) ?_)
  cases hw : O.blt (ky y) (ky x)
  case true =>
    simp only [if_true]
    refine wpS_bind (wpS_elem ex ?_)
    have hI' := hI.oneA X.sa h1 ex (fun z hz => by
      obtain ⟨m, m1, m2, m3⟩ := mem_t hz
      exact KeyOrd.kle_trans (X.sb.at (by omega) m3 e) (KeyOrd.kle_of_klt hw))
    have hN' : N + 1 ≤ (out.push x).size := by rw [Array.size_push]; omega
    by_cases c1 : na - 1 = 0
    · rw [if_pos (by simpa using c1)]
      exact wpS_pure (.inr ⟨_, _, rfl, hS, hI'.done X.sa X.sb (.inl c1)⟩)
    · rw [if_neg (by simpa using c1)]
      have hV : Jnv1 ky a b st₀ (N + 1) (none, na - 1, nb, out.push x, ac + 1, 0) st := ⟨_, _, _, _, _, rfl, hS, hI', by omega, h2, hN'⟩
      split
      · exact wpS_pure (.inl hV)
      · exact wpS_pure hV
  case false =>
    simp only [Bool.false_eq_true, if_false]
    refine wpS_bind (wpS_elem e ?_)
    have hI' := hI.oneB X.sb (by omega) e (fun z hz => by
      obtain ⟨m, m1, m2, m3⟩ := mem_t hz
      exact KeyOrd.kle_trans (X.sa.at (by omega) m3 ex) (show O.kle _ _ from hw))
    have hN' : N + 1 ≤ (out.push y).size := by rw [Array.size_push]; omega
    by_cases c1 : nb - 1 = 1
    · rw [if_pos (by simpa using c1)]
      exact wpS_pure (.inr ⟨_, _, rfl, hS, hI'.first X c1⟩)
    · rw [if_neg (by simpa using c1)]
      have hV : Jnv1 ky a b st₀ (N + 1) (none, na, nb - 1, out.push y, 0, bc + 1) st := ⟨_, _, _, _, _, rfl, hS, hI', h1, by omega, hN'⟩
      split
      · exact wpS_pure (.inl hV)
      · exact wpS_pure hV
theorem Jnv1.mono {N N' : Nat} {c : H1} {st : SortSt} (h : Jnv1 ky a b st₀ N c st) (hN : N' ≤ N) : Jnv1 ky a b st₀ N' c st := by
  obtain ⟨na, nb, out, ac, bc, e, h1, h2, h3, h4, h5⟩ := h
  exact ⟨na, nb, out, ac, bc, e, h1, h2, h3, h4, by omega⟩
theorem Qost1.mono {N N' : Nat} {c : H1} {st : SortSt} (h : Qost1 ky a b st₀ N c st) (hN : N' ≤ N) : Qost1 ky a b st₀ N' c st := h.imp (fun h => h.mono hN) id
abbrev H0 : Type := Option (Array Keyed) × Nat × Nat × Array Keyed × Nat
def Jnv0 (ky : Keyed → O.α) (a b : Array Keyed) (st₀ : SortSt) (N : Nat) (c : H0) (st' : SortSt) : Prop := ∃ na nb out mg, c = (none, na, nb, out, mg) ∧ Sm st₀ st' ∧ MH ky a b na nb out ∧ 1 ≤ na ∧ 2 ≤ nb ∧ N ≤ out.size
def Qost0 (ky : Keyed → O.α) (a b : Array Keyed) (st₀ : SortSt) (c : H0) (st' : SortSt) : Prop := ∃ r rest, c = (some r, rest) ∧ Sm st₀ st' ∧ Res ky a b r
theorem MH.start (ky : Keyed → O.α) (a b : Array Keyed) : MH ky a b a.size b.size #[] := ⟨Nat.le_refl _, Nat.le_refl _, by simp [List.take_of_length_le], List.Pairwise.nil, fun x _ y hy => by cases hy⟩
theorem wpS_mergeHi {st : SortSt} {Q : Array Keyed → SortSt → Prop} (hC : Cmp M A s O ky κ a₀) (hk : kindOf st = κ) (X : MC ky a₀ a b) (h : ∀ r st', Sm st st' → Res ky a b r → Q r st') : wpS M A E s (mergeHi' a b) Q st := by
  rw [mergeHi'_eq]
  refine wpS_bind (wpS_lift (wpAny_rule ⟨rfl, ?_⟩))
  have hna := X.na
  have hnb := X.nb
  obtain ⟨x, e, hm⟩ := at_lt (a := a) (i := a.size - 1) (by omega)
  refine wpS_bind (wpS_elem e ?_)
  dsimp only
  have hI := (MH.start ky a b).oneA X.sa hna e (fun y hy => X.hl y (List.mem_of_mem_take hy) x e)
  have hI : MH ky a b (a.size - 1) b.size #[x] := hI
  by_cases c1 : a.size - 1 = 0
  · rw [if_pos (by simpa using c1)]
    exact wpS_pure (h _ _ (Sm.refl _) (hI.done X.sa X.sb (.inl c1)))
  rw [if_neg (by simpa using c1)]
  by_cases c2 : b.size = 1
  · rw [if_pos (by simpa using c2)]
    exact wpS_pure (h _ _ (Sm.refl _) (hI.first X c2))
  rw [if_neg (by simpa using c2)]
  refine wpS_bind (wpS_get ?_)
  refine wpS_bind (wpS_mono (wpS_forRange (I := fun x c st' => Jnv0 ky a b st (x + 1) c st') (Q := Qost0 ky a b st) ?step ?fin ⟨_, _, _, _, rfl, Sm.refl _, hI, by omega, by omega, by simp⟩) ?post)
  case post =>
    rintro c st' ⟨r, rest, rfl, hS, hR⟩
    exact wpS_pure (h r st' hS hR)
  case fin =>
    rintro c st' ⟨na, nb, out, mg, rfl, hS, hI, h1, h2, hN⟩
    have := hI.size
    exact absurd hN (by omega)
  case step =>
    rintro x c st' _ hx ⟨na, nb, out, mg, rfl, hS, hI, h1, h2, hN⟩
    refine wpS_bind (wpS_mono (wpS_forRange (I := fun j c st' => Jnv1 ky a b st (x + 1 + j) c st') (Q := Qost1 ky a b st (x + 2)) ?s1 ?f1 ⟨_, _, _, _, _, rfl, hS, hI, h1, h2, by omega⟩) ?p1)
    case f1 =>
      intro c st' hc
      exact .inl (hc.mono (by omega))
    case s1 =>
      rintro j c st' _ hj ⟨na, nb, out, ac, bc, rfl, hS, hI, h1, h2, hN⟩
      refine wpS_mono (wpS_hiO (mg := mg) (ac := ac) (bc := bc) hC hk X hS hI h1 h2 hN) fun r st' hr => ?_
      cases r with
      | done c => exact Qost1.mono hr (by omega)
      | yield c => exact Jnv1.mono hr (by omega)
    case p1 =>
      rintro c st' (⟨na, nb, out, ac, bc, rfl, hS, hI, h1, h2, hN⟩ | ⟨r, rest, rfl, hS, hR⟩)
      · dsimp only
        refine wpS_bind (wpS_lift (wpAny_rule ⟨rfl, ?_⟩))
        refine wpS_bind (wpS_mono (wpS_forRange (I := fun _ c st' => Jnv2 ky a b st (x + 2) c st') (Q := Qost2 ky a b st (x + 2)) ?s2 ?f2 ⟨_, _, _, _, _, _, rfl, hS, hI, h1, h2, hN⟩) ?p2)
        case f2 => exact fun c st' hc => .inl hc
        case s2 =>
          rintro j c st' _ hj ⟨na, nb, out, mg, ac, bc, rfl, hS, hI, h1, h2, hN⟩
          by_cases c3 : mg > 1
          · dsimp only
            rw [if_pos c3]
            refine wpS_mono (wpS_hiP1 (mg := mg - 1) (ac := ac) (bc := bc) hC hk X hS hI h1 h2 hN) fun r st' hr => ?_
            cases r with
            | done c => exact hr
            | yield c => exact hr
          · dsimp only
            rw [if_neg c3]
            refine wpS_mono (wpS_hiP1 (mg := mg) (ac := ac) (bc := bc) hC hk X hS hI h1 h2 hN) fun r st' hr => ?_
            cases r with
            | done c => exact hr
            | yield c => exact hr
        case p2 =>
          rintro c st' (⟨na, nb, out, mg, ac, bc, rfl, hS, hI, h1, h2, hN⟩ | ⟨r, rest, rfl, hS, hR⟩)
          · dsimp only
            exact wpS_bind (wpS_smg fun st' hS1 => wpS_pure ⟨_, _, _, _, rfl, hS.trans hS1, hI, h1, h2, by omega⟩)
          · exact wpS_pure ⟨_, _, rfl, hS, hR⟩
      · exact wpS_pure ⟨_, _, rfl, hS, hR⟩
end
end SO
namespace SO
open PySem PyProof PyProof.Rows
section
variable {M : Model} {A : Around} {E : Value → Shared → Prop} {s : Shared} {O : KeyOrd} {ky : Keyed → O.α} {κ : SortKind} {a₀ : Array Keyed}
theorem mergeAt'_eq (i : Nat) : mergeAt' i = (do
  let s ← get
  let (some (sa, na, power), some (sb, nb, _)) := ((pendingOf s)[i]?, (pendingOf s)[i + 1]?) | unsupported "internal:list.sort.pending"
  set (setPending s (((pendingOf s).setIfInBounds i (sa, na + nb, power)).eraseIdxIfInBounds (i + 1)))
  let some k ← gallop' false (← elem' (arrOf s) sb) (arrOf s) sa na 0 | return false
  let (sa, na) := (sa + k, na - k)
  if na == 0 then return true
  let some nb ← gallop' true (← elem' (arrOf s) (sa + na - 1)) (arrOf s) sb nb (nb - 1) | return false
  if nb == 0 then return true
  let x := (arrOf s).extract sa sb
  let y := (arrOf s).extract sb (sb + nb)
  let merged ← if na ≤ nb then mergeLo' x y else mergeHi' x y
  modify fun s => setArr s (merged.toList.zipIdx.foldl (fun a (p, j) => a.setIfInBounds (sa + j) p) (arrOf s))
  return (failedOf (← get)).isNone) := rfl

def wb (xs : Array Keyed) (lo : Nat) (l : List Keyed) : Array Keyed := l.zipIdx.foldl (fun a (p, j) => a.setIfInBounds (lo + j) p) xs
theorem wb_at : ∀ (l : List Keyed) (n : Nat) (xs : Array Keyed) (lo : Nat), lo + n + l.length ≤ xs.size → ∀ k, ((l.zipIdx n).foldl (fun (a : Array Keyed) (q : Keyed × Nat) => a.setIfInBounds (lo + q.2) q.1) xs)[k]? = if lo + n ≤ k ∧ k < lo + n + l.length then l[k - (lo + n)]? else xs[k]?
  | [], n, xs, lo, _, k => by
    rw [List.zipIdx_nil, List.foldl_nil, if_neg (by simp)]
  | x :: l, n, xs, lo, h, k => by
    rw [List.zipIdx_cons, List.foldl_cons]
    rw [List.length_cons] at h ⊢
    rw [wb_at l (n + 1) _ lo (by rw [Array.size_setIfInBounds]; omega) k]
    by_cases c1 : lo + (n + 1) ≤ k ∧ k < lo + (n + 1) + l.length
    · rw [if_pos c1, if_pos (by omega), show k - (lo + n) = (k - (lo + (n + 1))) + 1 by omega, List.getElem?_cons_succ]
    · rw [if_neg c1]
      by_cases c2 : k = lo + n
      · subst c2
        rw [if_pos (by omega), Nat.sub_self, List.getElem?_cons_zero, Array.getElem?_setIfInBounds_self_of_lt (by omega)]
      · rw [if_neg (by omega), Array.getElem?_setIfInBounds_ne (by omega)]
theorem wb_get {l : List Keyed} {xs : Array Keyed} {lo : Nat} (h : lo + l.length ≤ xs.size) (k : Nat) : (wb xs lo l)[k]? = if lo ≤ k ∧ k < lo + l.length then l[k - lo]? else xs[k]? := by
  have := wb_at l 0 xs lo (by omega) k
  rw [Nat.add_zero] at this
  exact this
theorem wb_list {l : List Keyed} {xs : Array Keyed} {lo : Nat} (h : lo + l.length ≤ xs.size) : (wb xs lo l).toList = xs.toList.take lo ++ (l ++ xs.toList.drop (lo + l.length)) := by
  apply List.ext_getElem?
  intro k
  rw [Array.getElem?_toList, wb_get h]
  have hl : (xs.toList.take lo).length = lo := by simp; omega
  by_cases c1 : k < lo
  · rw [if_neg (by omega), List.getElem?_append_left (by omega), List.getElem?_take_of_lt c1, Array.getElem?_toList]
  · rw [List.getElem?_append_right (by omega), hl]
    by_cases c2 : k < lo + l.length
    · rw [if_pos (by omega), List.getElem?_append_left (by omega)]
    · rw [if_neg (by omega), List.getElem?_append_right (by omega), List.getElem?_drop, show lo + l.length + (k - lo - l.length) = k by omega, Array.getElem?_toList]
theorem seg_two {xs : Array Keyed} {lo n m : Nat} : (xs.toList.drop lo).take (n + m) = (xs.extract lo (lo + n)).toList ++ (xs.extract (lo + n) (lo + n + m)).toList := by
  rw [toList_ext, toList_ext, List.take_add, List.drop_drop]
theorem wb_perm {r xs : Array Keyed} {lo n m : Nat} (hm : lo + n + m ≤ xs.size) (h : r.toList.Perm ((xs.extract lo (lo + n)).toList ++ (xs.extract (lo + n) (lo + n + m)).toList)) : (wb xs lo r.toList).Perm xs := by
  have hl : r.toList.length = n + m := by
    rw [h.length_eq, ← seg_two]; simp; omega
  rw [Array.perm_iff_toList_perm, wb_list (by omega), hl]
  conv => rhs; rw [← List.take_append_drop lo xs.toList, ← List.take_append_drop (n + m) (xs.toList.drop lo)]
  refine List.Perm.append_left _ ?_
  rw [List.drop_drop]
  refine List.Perm.append_right _ ?_
  rw [seg_two]
  exact h
theorem up_kk {xs : Array Keyed} {lo n i j : Nat} (h : Up ky xs lo n) (h1 : lo ≤ i) (h2 : i ≤ j) (h3 : j < lo + n) : O.kle (kk ky xs i) (kk ky xs j) := by
  have := h (i - lo) (j - lo) (by omega) (by omega)
  rw [show lo + (i - lo) = i by omega, show lo + (j - lo) = j by omega] at this
  exact this
theorem mem_ext {xs : Array Keyed} {lo n : Nat} {x : Keyed} (h : x ∈ (xs.extract lo (lo + n)).toList) : ∃ j, lo ≤ j ∧ j < lo + n ∧ j < xs.size ∧ kk ky xs j = ky x := by
  rw [toList_ext] at h
  obtain ⟨j, j1, j2, j3, j4⟩ := mem_dt h
  exact ⟨j, j1, j2, j3, kk_some j4⟩

theorem wb_up {r xs : Array Keyed} {sa na nb k m : Nat} (hA : Up ky xs sa na) (hB : Up ky xs (sa + na) nb) (hsz : sa + na + nb ≤ xs.size) (hk : k < na) (hm : m ≤ nb) (hm0 : 1 ≤ nb)
    (k1 : ∀ i, i < k → O.kle (kk ky xs (sa + i)) (kk ky xs (sa + na))) (k2 : ∀ i, m ≤ i → i < nb → O.kle (kk ky xs (sa + na - 1)) (kk ky xs (sa + na + i)))
    (hp : r.toList.Perm ((xs.extract (sa + k) (sa + k + (na - k))).toList ++ (xs.extract (sa + k + (na - k)) (sa + k + (na - k) + m)).toList)) (hs : SL ky r.toList) : Up ky (wb xs (sa + k) r.toList) sa (na + nb) := by
  have hl : r.toList.length = (na - k) + m := by
    rw [hp.length_eq, ← seg_two]; simp; omega
  have hl' : r.size = (na - k) + m := by rw [← hl]; simp
  have hw := wb_get (l := r.toList) (xs := xs) (lo := sa + k) (by omega)
  have old : ∀ j, (j < sa + k ∨ sa + na + m ≤ j) → kk ky (wb xs (sa + k) r.toList) j = kk ky xs j := fun j hj => kk_congr (by rw [hw, if_neg (by omega)])
  have new : ∀ j, sa + k ≤ j → j < sa + na + m → ∃ x, kk ky (wb xs (sa + k) r.toList) j = ky x ∧ r[j - (sa + k)]? = some x := fun j h1 h2 => by
    obtain ⟨x, e, hx⟩ := at_lt (a := r) (i := j - (sa + k)) (by omega)
    refine ⟨x, kk_some ?_, e⟩
    rw [hw, if_pos (by omega), Array.getElem?_toList, e]
  have src : ∀ x ∈ r.toList, ∃ j, kk ky xs j = ky x ∧ ((sa + k ≤ j ∧ j < sa + na) ∨ (sa + na ≤ j ∧ j < sa + na + m)) := fun x hx => by
    rcases List.mem_append.mp (hp.mem_iff.mp hx) with h | h
    · obtain ⟨j, j1, j2, j3, j4⟩ := mem_ext (ky := ky) h
      exact ⟨j, j4, .inl ⟨j1, by omega⟩⟩
    · obtain ⟨j, j1, j2, j3, j4⟩ := mem_ext (ky := ky) h
      exact ⟨j, j4, .inr ⟨by omega, by omega⟩⟩
  intro i j hij hj
  by_cases ci : i < k
  · rw [old (sa + i) (by omega)]
    have toB : ∀ q, sa + na ≤ q → q < sa + na + nb → O.kle (kk ky xs (sa + i)) (kk ky xs q) := fun q h1 h2 => KeyOrd.kle_trans (k1 i ci) (up_kk hB (Nat.le_refl _) h1 h2)
    by_cases cj : j < k
    · rw [old (sa + j) (by omega)]
      exact up_kk hA (by omega) (by omega) (by omega)
    · by_cases cm : sa + j < sa + na + m
      · obtain ⟨x, e1, e2⟩ := new (sa + j) (by omega) cm
        rw [e1]
        obtain ⟨q, q1, q2 | q2⟩ := src x (mem_at e2)
        · rw [← q1]; exact up_kk hA (by omega) (by omega) (by omega)
        · rw [← q1]; exact toB q (by omega) (by omega)
      · rw [old (sa + j) (by omega)]
        exact toB _ (by omega) (by omega)
  · by_cases cmi : sa + i < sa + na + m
    · obtain ⟨x, e1, e2⟩ := new (sa + i) (by omega) cmi
      rw [e1]
      by_cases cm : sa + j < sa + na + m
      · obtain ⟨y, f1, f2⟩ := new (sa + j) (by omega) cm
        rw [f1]
        exact hs.at (by omega) e2 f2
      · rw [old (sa + j) (by omega)]
        obtain ⟨q, q1, q2 | q2⟩ := src x (mem_at e2)
        · rw [← q1]
          refine KeyOrd.kle_trans (up_kk hA (by omega) (show q ≤ sa + na - 1 by omega) (by omega)) ?_
          have := k2 (j - na) (by omega) (by omega)
          rw [show sa + na + (j - na) = sa + j by omega] at this
          exact this
        · rw [← q1]; exact up_kk hB (by omega) (by omega) (by omega)
    · rw [old (sa + i) (by omega), old (sa + j) (by omega)]
      exact up_kk hB (by omega) (by omega) (by omega)

theorem two_up {xs : Array Keyed} {sa na nb : Nat} (hA : Up ky xs sa na) (hB : Up ky xs (sa + na) nb) (ha : 1 ≤ na) (h : ∀ i, i < nb → O.kle (kk ky xs (sa + na - 1)) (kk ky xs (sa + na + i))) : Up ky xs sa (na + nb) := by
  intro i j hij hj
  by_cases cj : j < na
  · exact up_kk hA (by omega) (by omega) (by omega)
  · by_cases ci : i < na
    · refine KeyOrd.kle_trans (up_kk hA (by omega) (show sa + i ≤ sa + na - 1 by omega) (by omega)) ?_
      have := h (j - na) (by omega)
      rw [show sa + na + (j - na) = sa + j by omega] at this
      exact this
    · exact up_kk hB (by omega) (by omega) (by omega)

def Ch (ky : Keyed → O.α) (xs : Array Keyed) : List (Nat × Nat × Nat) → Nat → Nat → Prop
  | [], a, b => a = b
  | (s, n, _) :: r, a, b => s = a ∧ 1 ≤ n ∧ Up ky xs s n ∧ Ch ky xs r (a + n) b
theorem Ch.le {xs : Array Keyed} : ∀ {l : List (Nat × Nat × Nat)} {a b : Nat}, Ch ky xs l a b → a + l.length ≤ b
  | [], a, b, h => by cases h; simp
  | (s, n, w) :: r, a, b, h => by
    have := Ch.le h.2.2.2
    have := h.2.1
    rw [List.length_cons]; omega
theorem Ch.app {xs : Array Keyed} : ∀ {l r : List (Nat × Nat × Nat)} {a b : Nat}, Ch ky xs (l ++ r) a b ↔ ∃ m, Ch ky xs l a m ∧ Ch ky xs r m b
  | [], r, a, b => ⟨fun h => ⟨a, rfl, h⟩, fun ⟨m, e, h⟩ => by cases e; exact h⟩
  | (s, n, w) :: l, r, a, b => by
    constructor
    · rintro ⟨h1, h2, h3, h4⟩
      obtain ⟨m, m1, m2⟩ := Ch.app.mp h4
      exact ⟨m, ⟨h1, h2, h3, m1⟩, m2⟩
    · rintro ⟨m, ⟨h1, h2, h3, h4⟩, h5⟩
      exact ⟨h1, h2, h3, Ch.app.mpr ⟨m, h4, h5⟩⟩
theorem Up.ag {xs ys : Array Keyed} {lo hi a n : Nat} (h : Up ky xs a n) (g : Ag xs ys lo hi) (ho : a + n ≤ lo ∨ hi ≤ a) : Up ky ys a n := by
  intro i j hij hj
  rw [kk_congr (g (a + i) (by omega)), kk_congr (g (a + j) (by omega))]
  exact h i j hij hj
theorem Ch.ag {xs ys : Array Keyed} {lo hi : Nat} (g : Ag xs ys lo hi) : ∀ {l : List (Nat × Nat × Nat)} {a b : Nat}, Ch ky xs l a b → (b ≤ lo ∨ hi ≤ a) → Ch ky ys l a b
  | [], a, b, h, _ => h
  | (s, n, w) :: r, a, b, h, ho => by
    obtain ⟨rfl, h2, h3, h4⟩ := h
    have := h4.le
    exact ⟨rfl, h2, h3.ag g (by omega), Ch.ag g h4 (by omega)⟩
theorem Ch.third {xs : Array Keyed} {f : Nat × Nat × Nat → Nat × Nat × Nat} (hf : ∀ q, (f q).1 = q.1 ∧ (f q).2.1 = q.2.1) : ∀ {l : List (Nat × Nat × Nat)} {a b i : Nat}, Ch ky xs l a b → Ch ky xs (l.modify i f) a b
  | [], a, b, i, h => by rw [List.modify_nil]; exact h
  | (s, n, w) :: r, a, b, 0, h => by
    rw [List.modify_zero_cons]
    obtain ⟨e1, e2⟩ := hf (s, n, w)
    generalize hq : f (s, n, w) = q at e1 e2 ⊢
    obtain ⟨s', n', w'⟩ := q
    have e1 : s' = s := e1
    have e2 : n' = n := e2
    subst e1; subst e2
    exact h
  | (s, n, w) :: r, a, b, i + 1, h => by
    rw [List.modify_succ_cons]
    exact ⟨h.1, h.2.1, h.2.2.1, Ch.third hf h.2.2.2⟩
theorem pend_split {p : Array (Nat × Nat × Nat)} {i : Nat} (h : i + 1 < p.size) : ∃ l1 sa na pw sb nb w2 l2, p.toList = l1 ++ (sa, na, pw) :: (sb, nb, w2) :: l2 ∧ l1.length = i ∧ p[i]? = some (sa, na, pw) ∧ p[i + 1]? = some (sb, nb, w2) := by
  have e1 : p.toList.drop i = p.toList[i]'(by simp; omega) :: p.toList.drop (i + 1) := List.drop_eq_getElem_cons _
  have e2 : p.toList.drop (i + 1) = p.toList[i + 1]'(by simp; omega) :: p.toList.drop (i + 2) := List.drop_eq_getElem_cons _
  refine ⟨p.toList.take i, p[i].1, p[i].2.1, p[i].2.2, p[i + 1].1, p[i + 1].2.1, p[i + 1].2.2, p.toList.drop (i + 2), ?_, by simp; omega, getElem?_pos p i (by omega), getElem?_pos p (i + 1) h⟩
  conv => lhs; rw [← List.take_append_drop i p.toList, e1, e2]
  rfl
theorem pend_merge {p : Array (Nat × Nat × Nat)} {l1 l2 : List (Nat × Nat × Nat)} {u v x : Nat × Nat × Nat} {i : Nat} (e : p.toList = l1 ++ u :: v :: l2) (hl : l1.length = i) : ((p.setIfInBounds i x).eraseIdxIfInBounds (i + 1)).toList = l1 ++ x :: l2 := by
  have hs : p.size = l1.length + (l2.length + 2) := by rw [← Array.length_toList, e]; simp
  rw [Array.eraseIdxIfInBounds, dif_pos (by rw [Array.size_setIfInBounds]; omega), Array.toList_eraseIdx, Array.toList_setIfInBounds, e]
  subst hl
  rw [List.set_append_right _ _ (Nat.le_refl _), Nat.sub_self, List.set_cons_zero, List.eraseIdx_append_of_length_le (by omega), show l1.length + 1 - l1.length = 1 by omega]
  rfl
theorem wpS_set' {st st' : SortSt} {Q : PUnit → SortSt → Prop} (h : Q ⟨⟩ st') : wpS M A E s (set st' : StateT SortSt Sem PUnit) Q st := by
  unfold wpS; rw [StateT.run_set]; exact wpAny_pure ⟨rfl, h⟩
theorem wpS_mergeAt {st : SortSt} {i hi : Nat} {Q : Bool → SortSt → Prop} (hC : Cmp M A s O ky κ a₀) (hB : SB κ a₀ st) (hi1 : i + 1 < (pendingOf st).size) (hc : Ch ky (arrOf st) (pendingOf st).toList 0 hi) (hhi : hi ≤ a₀.size)
    (h : ∀ st', SB κ a₀ st' → (pendingOf st').size + 1 = (pendingOf st).size → Ch ky (arrOf st') (pendingOf st').toList 0 hi → Ag (arrOf st) (arrOf st') 0 hi → Q true st') : wpS M A E s (mergeAt' i) Q st := by
  obtain ⟨l1, sa, na, pw, sb, nb, w2, l2, ep, el, e1, e2⟩ := pend_split hi1
  rw [mergeAt'_eq]
  refine wpS_bind (wpS_get ?_)
  rw [e1, e2]
  rw [ep] at hc
  obtain ⟨m, c1, hsa, hna, uA, hsb, hnb, uB, c2⟩ := Ch.app.mp hc
  subst hsa
  subst hsb
  have hle := c2.le
  have hle1 := c1.le
  have hsz : (arrOf st).size = a₀.size := hB.size
  have hpe := pend_merge (x := (sa, na + nb, pw)) ep el
  have hps : (((pendingOf st).setIfInBounds i (sa, na + nb, pw)).eraseIdxIfInBounds (i + 1)).size + 1 = (pendingOf st).size := by
    rw [← Array.length_toList, hpe, ← Array.length_toList (xs := pendingOf st), ep]; simp; omega
  generalize hp' : ((pendingOf st).setIfInBounds i (sa, na + nb, pw)).eraseIdxIfInBounds (i + 1) = p' at hpe hps
  dsimp only
  rw [hp']
  have fin : ∀ st' : SortSt, SB κ a₀ st' → pendingOf st' = p' → Ag (arrOf st) (arrOf st') sa (sa + na + nb) → Up ky (arrOf st') sa (na + nb) → Q true st' := by
    intro st' hB' hP' hG hU
    refine h st' hB' (by rw [hP']; exact hps) ?_ (fun q hq => hG q (by omega))
    rw [hP', hpe]
    refine Ch.app.mpr ⟨sa, c1.ag hG (.inl (Nat.le_refl _)), rfl, by omega, hU, ?_⟩
    rw [← Nat.add_assoc]
    exact c2.ag hG (.inr (Nat.le_refl _))
  refine wpS_bind (wpS_set' ?_)
  have hBp : SB κ a₀ (setPending st p') := ⟨hB.perm, hB.kind, hB.failed⟩
  have inA : ∀ q, q < a₀.size → ∃ x, (arrOf st)[q]? = some x ∧ x ∈ a₀.toList := fun q hq => by
    obtain ⟨x, x1, x2, _⟩ := hB.at (ky := ky) hq
    exact ⟨x, x1, x2⟩
  obtain ⟨y0, ey0, hy0⟩ := inA (sa + na) (by omega)
  refine wpS_bind (wpS_elem ey0 ?_)
  refine wpS_bind (wpS_galR (ky := ky) hC hBp.kind hy0 (fun q hq => inA (sa + q) (by omega)) uA (by omega) fun k k1 k2 k3 => ?_)
  dsimp only
  rw [← kk_some (ky := ky) ey0] at k2 k3
  by_cases d1 : na - k = 0
  · rw [if_pos (by simpa using d1)]
    refine wpS_pure (fin _ hBp rfl (Ag.refl _ _ _) (two_up uA uB hna fun q hq => ?_))
    refine KeyOrd.kle_trans ?_ (up_kk uB (Nat.le_refl _) (by omega) (by omega))
    have := k2 (na - 1) (by omega)
    rw [show sa + (na - 1) = sa + na - 1 by omega] at this
    exact this
  rw [if_neg (by simpa using d1)]
  obtain ⟨x0, ex0, hx0⟩ := inA (sa + na - 1) (by omega)
  have ex0' : (arrOf st)[sa + k + (na - k) - 1]? = some x0 := by rw [show sa + k + (na - k) - 1 = sa + na - 1 by omega]; exact ex0
  refine wpS_bind (wpS_elem ex0' ?_)
  refine wpS_bind (wpS_galL (ky := ky) hC hBp.kind hx0 (fun q hq => inA (sa + na + q) (by omega)) uB (by omega) fun m m1 m2 m3 => ?_)
  dsimp only
  rw [← kk_some (ky := ky) ex0] at m2 m3
  by_cases d2 : m = 0
  · rw [if_pos (by simpa using d2)]
    subst d2
    exact wpS_pure (fin _ hBp rfl (Ag.refl _ _ _) (two_up uA uB hna fun q hq => m3 q (Nat.zero_le _) hq))
  rw [if_neg (by simpa using d2)]
  have exA : (arrOf st).extract (sa + k) (sa + na) = (arrOf st).extract (sa + k) (sa + k + (na - k)) := by congr 1; omega
  have exB : (arrOf st).extract (sa + na) (sa + na + m) = (arrOf st).extract (sa + k + (na - k)) (sa + k + (na - k) + m) := by congr 1 <;> omega
  have szA : ((arrOf st).extract (sa + k) (sa + na)).size = na - k := by rw [Array.size_extract]; omega
  have szB : ((arrOf st).extract (sa + na) (sa + na + m)).size = m := by rw [Array.size_extract]; omega
  have atA : ∀ q, q < na - k → ((arrOf st).extract (sa + k) (sa + na))[q]? = (arrOf st)[sa + k + q]? := fun q hq => by
    rw [Array.getElem?_extract, if_pos (by omega)]
  have atB : ∀ q, q < m → ((arrOf st).extract (sa + na) (sa + na + m))[q]? = (arrOf st)[sa + na + q]? := fun q hq => by
    rw [Array.getElem?_extract, if_pos (by omega)]
  have X : MC ky a₀ ((arrOf st).extract (sa + k) (sa + na)) ((arrOf st).extract (sa + na) (sa + na + m)) := by
    refine ⟨fun x hx => ?_, fun x hx => ?_, up_SL ?_, up_SL ?_, by omega, by omega, fun y hy x ex => ?_, fun x hx y ey => ?_⟩
    · rw [exA, toList_ext] at hx
      exact hB.mem (List.mem_of_mem_drop (List.mem_of_mem_take hx))
    · rw [toList_ext] at hx
      exact hB.mem (List.mem_of_mem_drop (List.mem_of_mem_take hx))
    · rw [szA]
      intro u v huv hv
      rw [Nat.zero_add, Nat.zero_add, kk_congr (atA u (by omega)), kk_congr (atA v hv)]
      exact up_kk uA (by omega) (by omega) (by omega)
    · rw [szB]
      intro u v huv hv
      rw [Nat.zero_add, Nat.zero_add, kk_congr (atB u (by omega)), kk_congr (atB v hv)]
      exact up_kk uB (by omega) (by omega) (by omega)
    · rw [szA, atA _ (by omega), show sa + k + (na - k - 1) = sa + na - 1 by omega, ex0] at ex
      cases ex
      obtain ⟨q, q1, q2, q3, q4⟩ := mem_ext (ky := ky) hy
      have := m2 (q - (sa + na)) (by omega)
      rw [show sa + na + (q - (sa + na)) = q by omega, q4, kk_some ex0] at this
      exact KeyOrd.kle_of_klt this
    · rw [atB 0 (by omega), Nat.add_zero, ey0] at ey
      cases ey
      rw [exA] at hx
      obtain ⟨q, q1, q2, q3, q4⟩ := mem_ext (ky := ky) hx
      have := k3 (q - sa) (by omega) (by omega)
      rw [show sa + (q - sa) = q by omega, q4, kk_some ey0] at this
      exact KeyOrd.kle_of_klt this
  have after : ∀ r (st' : SortSt), Sm (setPending st p') st' → Res ky ((arrOf st).extract (sa + k) (sa + na)) ((arrOf st).extract (sa + na) (sa + na + m)) r →
      wpS M A E s (do
        modify fun s => setArr s (r.toList.zipIdx.foldl (fun a (p, j) => a.setIfInBounds (sa + k + j) p) (arrOf s))
        return (failedOf (← get)).isNone) Q st' := by
    intro r st' hS hR
    have hR1 := hR.1
    rw [exA, exB] at hR1
    have hl : r.toList.length = (na - k) + m := by rw [hR1.length_eq, ← seg_two]; simp; omega
    refine wpS_bind (wpS_modify (wpS_bind (wpS_get (wpS_pure ?_))))
    have ea : arrOf st' = arrOf st := hS.arr
    have hf : failedOf st' = none := hS.failed.trans hB.failed
    have hf' : (failedOf (setArr st' (wb (arrOf st') (sa + k) r.toList))).isNone = true := by
      show (failedOf st').isNone = true
      rw [hf]; rfl
    show Q (failedOf (setArr st' (wb (arrOf st') (sa + k) r.toList))).isNone (setArr st' (wb (arrOf st') (sa + k) r.toList))
    rw [hf', ea]
    refine fin _ ⟨(wb_perm (by omega) hR1).trans hB.perm, hS.kind.trans hB.kind, hf⟩ hS.pend (fun q hq => ?_) (wb_up uA uB (by omega) (by omega) m1 hnb k2 m3 hR1 hR.2)
    show (wb (arrOf st) (sa + k) r.toList)[q]? = _
    rw [wb_get (by omega), if_neg (by omega)]
  by_cases d3 : na - k ≤ m
  · rw [if_pos d3]
    exact wpS_bind (wpS_mergeLo hC hBp.kind X after)
  · rw [if_neg d3]
    exact wpS_bind (wpS_mergeHi hC hBp.kind X after)
end
end SO
namespace SO
open PySem PyProof PyProof.Rows
section
variable {M : Model} {A : Around} {E : Value → Shared → Prop} {s : Shared} {O : KeyOrd} {ky : Keyed → O.α} {κ : SortKind} {a₀ : Array Keyed}
def runTail (size lo n : Nat) : StateT SortSt Sem (ForInStep (Option Unit × Nat)) := do
  let g ← get
  match (pendingOf g).back? with
  | some (s1, n1, _) => do
    let c ← forIn [0:size] ((none, ()) : Option Unit × Unit) fun _ _ => do
      let g ← get
      match (if (pendingOf g).size > 1 then (pendingOf g)[(pendingOf g).size - 2]? else none) with
      | some (_, _, older) =>
        if older ≤ power' size (2 * s1 + n1) (2 * s1 + n1 + n1 + n) size then pure (ForInStep.done (none, ()))
        else do
          let r ← mergeAt' ((pendingOf g).size - 2)
          if (!r) = true then pure (ForInStep.done (some (), ())) else pure (ForInStep.yield (none, ()))
      | _ => pure (ForInStep.done (none, ()))
    match c.fst with
    | some r => pure (ForInStep.done (some r, lo))
    | none => do
      modify fun s => setPending s ((pendingOf s).modify ((pendingOf s).size - 1) fun x => (x.fst, x.2.fst, power' size (2 * s1 + n1) (2 * s1 + n1 + n1 + n) size))
      modify fun s => setPending s ((pendingOf s).push (lo, n, 0))
      pure (ForInStep.yield (none, lo + n))
  | _ => do
    modify fun s => setPending s ((pendingOf s).push (lo, n, 0))
    pure (ForInStep.yield (none, lo + n))
structure RI (ky : Keyed → O.α) (κ : SortKind) (a₀ : Array Keyed) (lo : Nat) (st : SortSt) : Prop where
  sb : SB κ a₀ st
  ch : Ch ky (arrOf st) (pendingOf st).toList 0 lo
theorem RI.push {lo n : Nat} {st : SortSt} (h : RI ky κ a₀ lo st) (h1 : 1 ≤ n) (hu : Up ky (arrOf st) lo n) : RI ky κ a₀ (lo + n) (setPending st ((pendingOf st).push (lo, n, 0))) := by
  refine ⟨⟨h.sb.perm, h.sb.kind, h.sb.failed⟩, ?_⟩
  show Ch ky (arrOf st) ((pendingOf st).push (lo, n, 0)).toList 0 (lo + n)
  rw [Array.toList_push]
  exact Ch.app.mpr ⟨lo, h.ch, rfl, h1, hu, rfl⟩
theorem wpS_runTail {st : SortSt} {lo n : Nat} {Q : ForInStep (Option Unit × Nat) → SortSt → Prop} (hC : Cmp M A s O ky κ a₀) (hR : RI ky κ a₀ lo st) (h1 : 1 ≤ n) (hn : lo + n ≤ a₀.size) (hu : Up ky (arrOf st) lo n)
    (h : ∀ st', RI ky κ a₀ (lo + n) st' → Q (.yield (none, lo + n)) st') : wpS M A E s (runTail a₀.size lo n) Q st := by
  unfold runTail
  refine wpS_bind (wpS_get ?_)
  cases hb : (pendingOf st).back? with
  | none => exact wpS_bind (wpS_modify (wpS_pure (h _ (hR.push h1 hu))))
  | some q =>
    obtain ⟨s1, n1, w⟩ := q
    dsimp only
    refine wpS_bind (wpS_mono (wpS_forRange (I := fun _ c st' => c = (none, ()) ∧ RI ky κ a₀ lo st' ∧ Up ky (arrOf st') lo n) (Q := fun c st' => c = (none, ()) ∧ RI ky κ a₀ lo st' ∧ Up ky (arrOf st') lo n) ?step (fun _ _ hh => hh) ⟨rfl, hR, hu⟩) ?post)
    case step =>
      rintro x c st' _ hx ⟨rfl, hR', hu'⟩
      refine wpS_bind (wpS_get ?_)
      by_cases hs : (pendingOf st').size > 1
      · rw [if_pos hs]
        cases ho : (pendingOf st')[(pendingOf st').size - 2]? with
        | none => exact wpS_pure ⟨rfl, hR', hu'⟩
        | some q =>
          obtain ⟨z1, z2, older⟩ := q
          dsimp only
          split
          · exact wpS_pure ⟨rfl, hR', hu'⟩
          · refine wpS_bind (wpS_mergeAt hC hR'.sb (by omega) hR'.ch (by omega) fun st'' b1 b2 b3 b4 => ?_)
            exact wpS_pure ⟨rfl, ⟨b1, b3⟩, hu'.ag b4 (.inr (Nat.le_refl _))⟩
      · rw [if_neg hs]
        exact wpS_pure ⟨rfl, hR', hu'⟩
    case post =>
      rintro c st' ⟨rfl, hR', hu'⟩
      dsimp only
      refine wpS_bind (wpS_modify (wpS_bind (wpS_modify (wpS_pure (h _ (RI.push (st := setPending st' _) ⟨⟨hR'.sb.perm, hR'.sb.kind, hR'.sb.failed⟩, ?_⟩ h1 hu'))))))
      show Ch ky (arrOf st') ((pendingOf st').modify ((pendingOf st').size - 1) _).toList 0 lo
      rw [Array.toList_modify]
      exact Ch.third (f := fun x => (x.1, x.2.1, power' a₀.size (2 * s1 + n1) (2 * s1 + n1 + n1 + n) a₀.size)) (fun q => ⟨rfl, rfl⟩) hR'.ch
theorem cast_wp {α : Type} {m m' : StateT SortSt Sem α} {Q Q' : α → SortSt → Prop} {st : SortSt} (h : wpS M A E s m Q st) (hq : ∀ a st', Q a st' → Q' a st') (e : m = m') : wpS M A E s m' Q' st := e ▸ wpS_mono h hq
theorem wpS_sortAll {st : SortSt} {Q : Unit → SortSt → Prop} (hC : Cmp M A s O ky κ a₀) (hB : SB κ a₀ st) (hp : pendingOf st = #[]) (h2 : 2 ≤ a₀.size) (h : ∀ st', SB κ a₀ st' → Up ky (arrOf st') 0 a₀.size → Q () st') : wpS M A E s sortRuns' Q st := by
  rw [sortRuns'_eq]
  refine wpS_bind (wpS_get ?_)
  dsimp only
  simp only [hB.size]
  refine wpS_bind (wpS_mono (wpS_forRange
    (I := fun x c st' => ∃ lo, c = (none, lo) ∧ RI ky κ a₀ lo st' ∧ lo ≤ a₀.size ∧ x ≤ lo)
    (Q := fun c st' => c = (none, a₀.size) ∧ RI ky κ a₀ a₀.size st') ?step ?fin ⟨0, rfl, ⟨hB, by rw [hp]; rfl⟩, Nat.zero_le _, Nat.le_refl _⟩) ?post)
  case fin =>
    rintro c st' ⟨lo, rfl, hR, hlo, hx⟩
    have : lo = a₀.size := by omega
    subst this
    exact ⟨rfl, hR⟩
  case step =>
    rintro x c st' _ hx ⟨lo, rfl, hR, hlo, hxl⟩
    dsimp only
    by_cases hge : lo ≥ a₀.size
    · rw [if_pos hge]
      have : lo = a₀.size := by omega
      subst this
      exact wpS_pure ⟨rfl, hR⟩
    rw [if_neg hge]
    refine wpS_bind (wpS_count (ky := ky) hC (nrem := a₀.size - lo) (by omega) (by omega) hR.sb fun m st2 hK hm1 hm2 hu => ?_)
    dsimp only
    have keep : ∀ {hi : Nat} {st2 st3 : SortSt}, RI ky κ a₀ lo st2 → Kp κ a₀ lo hi st2 st3 → RI ky κ a₀ lo st3 := fun hR hK => ⟨hK.sb, by rw [hK.pend]; exact hR.ch.ag hK.ag (.inl (Nat.le_refl _))⟩
    have hR2 := keep hR hK
    have go : ∀ n st3, RI ky κ a₀ lo st3 → 1 ≤ n → lo + n ≤ a₀.size → Up ky (arrOf st3) lo n → wpS M A E s (runTail a₀.size lo n) (fun r st' => match r with
        | ForInStep.done c' => c' = (none, a₀.size) ∧ RI ky κ a₀ a₀.size st'
        | ForInStep.yield c' => ∃ lo, c' = (none, lo) ∧ RI ky κ a₀ lo st' ∧ lo ≤ a₀.size ∧ x + 1 ≤ lo) st3 := fun n st3 r1 r2 r3 r4 =>
      wpS_runTail hC r1 r2 r3 r4 fun st' hR' => ⟨lo + n, rfl, hR', r3, by omega⟩
    by_cases hlt : m < minRun' a₀.size a₀.size 0
    · rw [if_pos hlt]
      refine wpS_bind (wpS_lift (wpAny_rule ⟨rfl, ?_⟩))
      refine wpS_bind (wpS_bin hC (by omega) (by omega) hR2.sb hu fun st3 hK3 hu3 => ?_)
      rw [if_neg (by simp)]
      refine cast_wp (go _ st3 (keep hR2 hK3) (by omega) (by omega) hu3) (fun r st' hr => by cases r <;> exact hr) ?_
      {
        unfold runTail
        refine bcong rfl fun g => ?_
        cases (pendingOf g).back? with
        | none => rfl
        | some q =>
          obtain ⟨s1, n1, w⟩ := q
          refine bcong ?_ fun c => ?_
          · refine congrArg (forIn _ _) (funext fun _ => funext fun _ => bcong rfl fun g => ?_)
            generalize (if (pendingOf g).size > 1 then (pendingOf g)[(pendingOf g).size - 2]? else none) = o
            cases o with
            | none => rfl
            | some q => obtain ⟨z1, z2, z3⟩ := q; rfl
          · obtain ⟨r, u⟩ := c
            cases r <;> rfl }
    · rw [if_neg hlt]
      refine cast_wp (go m st2 hR2 hm1 (by omega) hu) (fun r st' hr => by cases r <;> exact hr) ?_
      {
        unfold runTail
        refine bcong rfl fun g => ?_
        cases (pendingOf g).back? with
        | none => rfl
        | some q =>
          obtain ⟨s1, n1, w⟩ := q
          refine bcong ?_ fun c => ?_
          · refine congrArg (forIn _ _) (funext fun _ => funext fun _ => bcong rfl fun g => ?_)
            generalize (if (pendingOf g).size > 1 then (pendingOf g)[(pendingOf g).size - 2]? else none) = o
            cases o with
            | none => rfl
            | some q => obtain ⟨z1, z2, z3⟩ := q; rfl
          · obtain ⟨r, u⟩ := c
            cases r <;> rfl }
  case post =>
    rintro c st' ⟨rfl, hR⟩
    dsimp only
    refine wpS_bind (wpS_mono (wpS_forRange (I := fun x c st' => c = (none, ()) ∧ RI ky κ a₀ a₀.size st' ∧ (pendingOf st').size + x ≤ a₀.size) (Q := fun c st' => c = (none, ()) ∧ RI ky κ a₀ a₀.size st' ∧ (pendingOf st').size ≤ 1) ?s2 ?f2 ⟨rfl, hR, ?i2⟩) ?p2)
    case i2 =>
      have := hR.ch.le
      rw [Array.length_toList] at this
      omega
    case f2 =>
      rintro c st' ⟨hc, hR', hs⟩
      exact ⟨hc, hR', by omega⟩
    case s2 =>
      rintro x c st' _ hx ⟨rfl, hR', hs⟩
      refine wpS_bind (wpS_get ?_)
      by_cases hle : (pendingOf st').size ≤ 1
      · rw [if_pos hle]
        exact wpS_pure ⟨rfl, hR', hle⟩
      rw [if_neg hle]
      refine wpS_bind (wpS_mergeAt hC hR'.sb ?_ hR'.ch (Nat.le_refl _) fun st'' b1 b2 b3 b4 => ?_)
      · (repeat' split) <;> omega
      · exact wpS_pure ⟨rfl, ⟨b1, b3⟩, by omega⟩
    case p2 =>
      rintro c st' ⟨rfl, hR', hs⟩
      refine wpS_pure (h st' hR'.sb ?_)
      have hc := hR'.ch
      generalize hl : (pendingOf st').toList = l at hc
      have hll : l.length ≤ 1 := by rw [← hl, Array.length_toList]; exact hs
      match l, hc, hll with
      | [], hc, _ => exact absurd hc (by show ¬ (0 = a₀.size); omega)
      | [(s', n, w)], hc, _ =>
        obtain ⟨rfl, q1, q2, q3⟩ := hc
        have : 0 + n = a₀.size := q3
        rw [Nat.zero_add] at this
        rw [← this]
        exact q2
      | _ :: _ :: _, _, hll => exact absurd hll (by simp)
end
end SO
namespace L2
open PySem PySem.Spec PyProof.Rows

section
variable {X : Cx}

end
end L2
namespace L2
open PySem PySem.Spec PyProof.Rows


end L2
namespace L2
open PySem PySem.Spec PyProof.Rows

section
variable {prog : Program} {w : World} {A : Around} {E : Value → Shared → Prop} {s : Shared}
end
section
variable {X : Cx} {pins : List (Addr × Obj)} {σ : St} {H : Hp} {s : Shared} {a : Addr} {kvs : List (Int × V)} {k : Int} {y v : V} {u r : Value} {A : Around} {E : Value → Shared → Prop}
variable {o i value : Expr} {pos pos' : Pos} {td ty tv : TE}
end
end L2
namespace SO
open PySem PyProof PyProof.Rows HT

theorem lex_irr : ∀ a : List Int, lexLt a a = false
  | [] => rfl
  | x :: xs => by rw [lexLt_cons, if_pos rfl]; exact lex_irr xs
theorem lex_neg : ∀ a b c : List Int, lexLt a c = true → lexLt a b = true ∨ lexLt b c = true
  | [], [], [], h => by cases h
  | [], [], _ :: _, _ => .inr rfl
  | [], _ :: _, _, _ => .inl rfl
  | _ :: _, _, [], h => by rw [lexLt_cons_nil] at h; cases h
  | _ :: _, [], _ :: _, _ => .inr rfl
  | x :: xs, y :: ys, z :: zs, h => by
    rw [lexLt_cons] at h
    rw [lexLt_cons, lexLt_cons]
    by_cases e1 : x = y
    · rw [if_pos e1]
      subst e1
      by_cases e2 : x = z
      · rw [if_pos e2] at h ⊢
        exact lex_neg xs ys zs h
      · rw [if_neg e2] at h ⊢
        exact .inr h
    · rw [if_neg e1]
      by_cases e2 : y = z
      · subst e2
        rw [if_neg e1] at h
        exact .inl h
      · rw [if_neg e2]
        by_cases e3 : x = z
        · subst e3
          rcases Int.lt_or_gt_of_ne e1 with q | q
          · exact .inl (by simpa using q)
          · exact .inr (by simpa using q)
        · rw [if_neg e3] at h
          have h : x < z := by simpa using h
          by_cases q : x < y
          · exact .inl (by simpa using q)
          · exact .inr (by simp; omega)
theorem lex_tot : ∀ a b : List Int, lexLt a b = false → lexLt b a = false → a = b
  | [], [], _, _ => rfl
  | [], _ :: _, h, _ => by cases h
  | _ :: _, [], _, h => by cases h
  | x :: xs, y :: ys, h1, h2 => by
    rw [lexLt_cons] at h1 h2
    by_cases e : x = y
    · subst e
      rw [if_pos rfl] at h1 h2
      rw [lex_tot xs ys h1 h2]
    · rw [if_neg e] at h1
      rw [if_neg (fun q => e q.symm)] at h2
      have := decide_eq_false_iff_not.mp h1
      have := decide_eq_false_iff_not.mp h2
      omega
theorem neg_asym {α : Type} {r : α → α → Bool} (irr : ∀ a, r a a = false) (neg : ∀ a b c, r a c = true → r a b = true ∨ r b c = true) (tot : ∀ a b, r a b = false → r b a = false → a = b) (h3 : ∀ a b, r a b = true → r b a = true → False) : ∀ a b c, r a b = true → r b c = true → r a c = true := by
  intro a b c h1 h2
  rcases neg a c b h1 with q | q
  · exact q
  · exact (h3 _ _ h2 q).elim
theorem lex_asym : ∀ a b : List Int, lexLt a b = true → lexLt b a = true → False
  | [], [], h, _ => by cases h
  | [], _ :: _, _, h => by cases h
  | _ :: _, [], h, _ => by cases h
  | x :: xs, y :: ys, h1, h2 => by
    rw [lexLt_cons] at h1 h2
    by_cases e : x = y
    · subst e
      rw [if_pos rfl] at h1 h2
      exact lex_asym xs ys h1 h2
    · rw [if_neg e] at h1
      rw [if_neg (fun q => e q.symm)] at h2
      have := of_decide_eq_true h1
      have := of_decide_eq_true h2
      omega
abbrev KP := Int × List Int

def PrK (h : Heap) (k : KP) (v : Value) : Prop := ∃ a b t items, v = .ref a ∧ IsTup h a #[.int k.1 t, .ref b] ∧ IsTup h b items ∧ IntsAre items.toList k.2
theorem ints_inj : ∀ {vs : List Value} {ns ms : List Int}, IntsAre vs ns → IntsAre vs ms → ns = ms
  | _, _, _, .nil, .nil => rfl
  | _, _, _, .cons _ _ r, .cons _ _ r' => by rw [ints_inj r r']
theorem tup_inj {h : Heap} {a : Addr} {x y : Array Value} (h1 : IsTup h a x) (h2 : IsTup h a y) : x = y := by
  obtain ⟨o, e1, _, n, d1⟩ := h1
  obtain ⟨o', e2, _, n', d2⟩ := h2
  rw [e1] at e2
  cases e2
  rw [d1] at d2
  injection d2
open Classical in
noncomputable def kyP (h : Heap) (x : Keyed) : KP := if e : ∃ k, PrK h k x.1 then e.choose else (0, [])
section
variable {prog : Program} {w : World} {A : Around} {E : Value → Shared → Prop} {s : Shared}
end
end SO
namespace SO
open PySem PyProof PyProof.Rows HT
section
variable {prog : Program} {w : World} {A : Around} {E : Value → Shared → Prop} {s : Shared}
theorem tup_kept {h h' : Heap} {a : Addr} {x : Array Value} (g : ∀ b o, h.get? b = some o → o.cls = .type "tuple" → h'.get? b = some o) (t : IsTup h a x) : IsTup h' a x := by
  obtain ⟨o, e1, e2, e3⟩ := t
  exact ⟨o, g a o e1 e2, e2, e3⟩
inductive PrKs (h : Heap) : List KP → List Value → Prop
  | nil : PrKs h [] []
  | cons {k : KP} {v : Value} {ks : List KP} {vs : List Value} : PrK h k v → PrKs h ks vs → PrKs h (k :: ks) (v :: vs)
theorem pairs_mem {vs : List Value} {x : Keyed} (h : x ∈ (pairsOf vs).toList) : x.1 ∈ vs ∧ x.2 = x.1 := by
  have : (pairsOf vs).toList = vs.zip vs := by simp [pairsOf]
  rw [this] at h
  obtain ⟨i, hi, e⟩ := List.mem_iff_getElem.mp h
  rw [List.getElem_zip] at e
  subst e
  exact ⟨List.getElem_mem _, rfl⟩
end
end SO
namespace L2
open PySem PySem.Spec PyProof.Rows

section
variable {prog : Program} {w : World} {A : Around} {E : Value → Shared → Prop} {s : Shared}
end
section
variable {prog : Program} {w : World} {K : Type} [DecidableEq K] {knd : HeapKind prog w K} {A : Around} {E : Value → Shared → Prop} {s : Shared}
end
end L2
namespace L2
open PySem PySem.Spec PyProof.Rows

abbrev KP := Int × List Int
section
variable {X : Cx} {pins : List (Addr × Obj)} {σ : St} {H : Hp} {s : Shared} {a : Addr} {xs : List (KP × Addr × V)}
end
end L2
namespace L2
open PySem PySem.Spec PyProof.Rows

section
variable {X : Cx} {pins : List (Addr × Obj)} {σ : St} {H : Hp} {s : Shared} {a : Addr} {xs : List (KTu × Addr × V)} {o : Obj}
end

section
variable {prog : Program} {w : World} {A : Around} {E : Value → Shared → Prop} {s : Shared}
theorem next_keys_item {it d : Addr} {i ep : Nat} {od : Obj} {es : Array DictEntry} {e : DictEntry} {Q : Option Value → Shared → Prop} (hit : s.heap.IsKeyIter it d i es.size ep)
    (hod : s.heap.get? d = some od) (hdd : od.data = .dict es ep) (hx : es[i]? = some e)
    (hQ : ∀ h', h'.IsKeyIter it d (i + 1) es.size ep → Heap.SameBut it s.heap h' → Q (some e.key) { s with heap := h' }) :
    wpAny (model prog w) A (pyNext (.ref it)) Q E s := by
  obtain ⟨o, ho, hc, hd⟩ := id hit
  unfold pyNext
  refine wpAny_bind (wpAny_attempt (wpAny_callSpecial?_slot (name := Str.ofString "__next__") hit.typeIs F.slot_dict_keyiterator_next
    (wpAny_call_entry F.slot_dict_keyiterator_next hit.typeIs F.entry_dict_keyiterator_next ?_ (F.args_dict_keyiterator_next_1 _))))
  refine wpAny_bind (wpAny_pure ?_)
  refine wpAny_bind ?_
  refine wpAny_bind ?_
  first | refine wpAny_bind (wpAny_typeNameOfWhole_keyiter hit.typeIs (wpAny_pure ?_)) | refine wpAny_bind (wpAny_typeNameOf_keyiter hit.typeIs (wpAny_pure ?_))
  refine wpAny_bind (wpAny_fieldsOf ho hd ?_)
  have hown : Builtin.Dict_items.ownsTuple "dict_keyiterator" = false := by decide
  simp only [hown, Bool.false_eq_true, if_false]
  show wpAny _ _ (if (Value.ref d == Value.none) = true then _ else _) _ _ s
  rw [if_neg (show ¬ ((Value.ref d == Value.none) = true) from Bool.false_ne_true)]
  refine wpAny_bind (wpAny_pure ?_)
  refine wpAny_bind (wpAny_dictEntries hod hdd ?_)
  rw [if_neg (by simp)]
  refine wpAny_bind (wpAny_pure ?_)
  refine wpAny_bind (wpAny_dictEpoch hod hdd ?_)
  rw [if_neg (by simp)]
  refine wpAny_pure ?_
  simp only [show ¬ ((i : Int) < 0) from by omega, if_false, Int.toNat_natCast, hx]
  refine wpAny_bind ?_
  first | refine wpAny_bind (wpAny_typeNameOfWhole_keyiter hit.typeIs (wpAny_pure ?_)) | refine wpAny_bind (wpAny_typeNameOf_keyiter hit.typeIs (wpAny_pure ?_))
  refine wpAny_bind (wpAny_isOneOf_keyiter hit.typeIs ?_)
  show wpAny _ _ (setField (.ref it) 1 (rawInt ((i : Int) + 1)) >>= _) _ _ s
  refine wpAny_bind (wpAny_setField ho hd (by simp) ?_)
  have hit' : (s.heap.update it (Obj.mapFields (·.setIfInBounds 1 (rawInt ((i : Int) + 1))))).IsKeyIter it d (i + 1) es.size ep :=
    ⟨_, Heap.get?_update_self _ ho (Obj.isFreed_of_fields (Obj.data_mapFields hd _)), (Obj.cls_mapFields ..).trans hc, by rw [Obj.data_mapFields hd]; simp [rawInt]⟩
  refine wpAny_bind (wpAny_holding ?_)
  refine wpAny_bind (wpAny_isOneOf_keyiter (s := { s with heap := s.heap.update it (Obj.mapFields (·.setIfInBounds 1 (rawInt ((i : Int) + 1)))) }) hit'.typeIs ?_)
  show wpAny _ _ (pure e.key) _ _ _
  exact wpAny_pure (wpAny_pure ⟨_, rfl, wpAny_pure (hQ _ hit' (Heap.SameBut.update ..))⟩)
theorem next_keys_end {it d : Addr} {i ep : Nat} {od : Obj} {es : Array DictEntry} {Q : Option Value → Shared → Prop} (hh : A.handled = none) (hit : s.heap.IsKeyIter it d i es.size ep)
    (hod : s.heap.get? d = some od) (hdd : od.data = .dict es ep) (hge : es.size ≤ i)
    (hQ : ∀ h', Heap.ExtBut it s.heap h' → Q none { s with heap := h' }) : wpAny (model prog w) A (pyNext (.ref it)) Q E s := by
  obtain ⟨o, ho, hc, hd⟩ := id hit
  unfold pyNext
  refine wpAny_bind (wpAny_attempt (wpAny_callSpecial?_slot (name := Str.ofString "__next__") hit.typeIs F.slot_dict_keyiterator_next
    (wpAny_call_entry F.slot_dict_keyiterator_next hit.typeIs F.entry_dict_keyiterator_next ?_ (F.args_dict_keyiterator_next_1 _))))
  refine wpAny_bind (wpAny_pure ?_)
  refine wpAny_bind ?_
  refine wpAny_bind ?_
  first | refine wpAny_bind (wpAny_typeNameOfWhole_keyiter hit.typeIs (wpAny_pure ?_)) | refine wpAny_bind (wpAny_typeNameOf_keyiter hit.typeIs (wpAny_pure ?_))
  refine wpAny_bind (wpAny_fieldsOf ho hd ?_)
  have hown : Builtin.Dict_items.ownsTuple "dict_keyiterator" = false := by decide
  simp only [hown, Bool.false_eq_true, if_false]
  show wpAny _ _ (if (Value.ref d == Value.none) = true then _ else _) _ _ s
  rw [if_neg (show ¬ ((Value.ref d == Value.none) = true) from Bool.false_ne_true)]
  refine wpAny_bind (wpAny_pure ?_)
  refine wpAny_bind (wpAny_dictEntries hod hdd ?_)
  rw [if_neg (by simp)]
  refine wpAny_bind (wpAny_pure ?_)
  refine wpAny_bind (wpAny_dictEpoch hod hdd ?_)
  rw [if_neg (by simp)]
  refine wpAny_pure ?_
  simp only [show ¬ ((i : Int) < 0) from by omega, if_false, Int.toNat_natCast, Array.getElem?_eq_none hge]
  refine wpAny_bind ?_
  first | refine wpAny_bind (wpAny_typeNameOfWhole_keyiter hit.typeIs (wpAny_pure ?_)) | refine wpAny_bind (wpAny_typeNameOf_keyiter hit.typeIs (wpAny_pure ?_))
  show wpAny _ _ (setField (.ref it) 0 .none >>= _) _ _ s
  refine wpAny_bind (wpAny_setField ho hd (by simp) ?_)
  show wpAny _ _ (newExc (.type "StopIteration") [] >>= _) _ _ _
  refine wpAny_bind ?_
  simp only [newExc, newTuple]
  refine wpAny_bind (wpAny_newObj_type ?_ (by size_fits))
  refine wpAny_bind (m := firstArgMember _ _) (wpAny_of_eq (a := Value.none) (by first | rfl | (simp only [firstArgMember]; rfl)) ?_)
  refine wpAny_newObj_type ?_ (by size_fits)
  simp only [raiseNew]
  refine wpAny_bind (wpAny_handled ?_)
  rw [show A.in1.handled = none from hh]
  refine wpAny_bind (wpAny_pure (wpAny_throw ?_))
  refine wpAny_bind (wpAny_isInstance (T := "StopIteration") (b := true) ⟨_, Heap.get?_push_size _ rfl, rfl⟩ isSubtype_stop ?_)
  exact wpAny_pure (hQ _ (((Heap.SameBut.update ..).extBut.push _).push _))
end

end L2

namespace HT
open PySem PyProof.Rows
section
open PySem.SeqAt
open PySem.AutoSeq1 (wpAny_loadPart')
open PySem.MeetsSeq PySem.MeetsSeq2 PySem.MeetsSeq3
end
end HT
namespace L2
open PySem PySem.Spec PyProof.Rows
section
variable {X : Cx}
end
end L2
namespace HT
open PySem PySem.Spec PyProof.Rows L2
section
open PySem.SeqAt
open PySem.AutoSeq1 (wpAny_loadPart')
open PySem.MeetsSeq PySem.MeetsSeq2 PySem.MeetsSeq3

end
end HT
namespace L2
open PySem PySem.Spec PyProof.Rows

section
variable {X : Cx}
end
end L2
namespace L2
open PySem PySem.Spec PyProof.Rows SO
section
variable {X : Cx}

def PrA (H : Hp) (z : Addr × KP) : Prop := ∃ b, H z.1 = some (.tup [.int z.2.1, .ref b]) ∧ H b = some (.tup (z.2.2.map V.int))
def adr : Value → Addr
  | .ref a => a
  | _ => 0
end
end L2
namespace SO
open PySem PyProof PyProof.Rows HT
section
variable {prog : Program} {w : World} {A : Around} {E : Value → Shared → Prop} {s : Shared}
end
end SO
namespace L2
open PySem PySem.Spec PyProof.Rows SO
section
variable {X : Cx}

structure Nw (X : Cx) (pins : List (Addr × Obj)) (it : Addr) : Prop where
  loc : it ≠ X.env.locals
  fs : it ∉ X.fs
  new : X.s₀.heap.objs.size ≤ it
  cel : ∀ x c, X.env.cells.lookup x = some c → c ≠ it
  pin : ∀ p ∈ X.pn ++ pins, p.1 ≠ it
theorem nw_of {pins : List (Addr × Obj)} {σ : St} {H : Hp} {s : Shared} (I : Inv X pins σ H s) {it : Addr} (h : s.heap.objs.size ≤ it) : Nw X pins it where
  loc := Nat.ne_of_gt (Nat.lt_of_lt_of_le I.lt h)
  fs := I.nofs h
  new := Nat.le_trans I.sz h
  cel := fun x c e => by
    obtain ⟨v, o, ho, _⟩ := I.cell x c e
    exact Nat.ne_of_lt (Nat.lt_of_lt_of_le (Heap.lt_size ho) h)
  pin := fun p hp => Nat.ne_of_lt (Nat.lt_of_lt_of_le (Heap.lt_size (I.pin p hp).1) h)

theorem Inv.pin2 {pins : List (Addr × Obj)} {σ : St} {H : Hp} {s : Shared} {a b : Addr} {oa ob : Obj} (I : Inv X pins σ H s) (na : Nw X pins a) (nb : Nw X pins b) (ea : s.heap.get? a = some oa) (eb : s.heap.get? b = some ob) (ha : H a = none) (hb : H b = none) (ca : ∀ v, oa.data ≠ .cell v) (cb : ∀ v, ob.data ≠ .cell v) : Inv X ((a, oa) :: (b, ob) :: pins) σ H s :=
  I.pins_of fun p hp => by
    rcases List.mem_cons.mp hp with rfl | hp
    · exact ⟨ea, ha, na.loc, na.fs, ca⟩
    · rcases List.mem_cons.mp hp with rfl | hp
      · exact ⟨eb, hb, nb.loc, nb.fs, cb⟩
      · exact I.pin p (List.mem_append_right _ hp)
theorem Inv.unpin2 {pins : List (Addr × Obj)} {σ : St} {H : Hp} {s : Shared} {x y : Addr × Obj} (I : Inv X (x :: y :: pins) σ H s) : Inv X pins σ H s :=
  I.pins_of fun p hp => I.pin p (List.mem_append_right _ (List.mem_cons_of_mem _ (List.mem_cons_of_mem _ hp)))

structure KJ (X : Cx) (pins : List (Addr × Obj)) (σ : St) (H : Hp) (kS a : Addr) (e1 : Nat) (zs : List (Addr × KP)) (i : Nat) (ks : List Value) (s : Shared) : Prop where
  ex : ∃ (H' : Hp) (c : Nat) (qs : List (Addr × KP)), Inv X pins σ H' s ∧ Same H H' ∧ H' kS = none ∧ H' a = none ∧ s.heap.get? kS = some (seqObj "list" ks.toArray c) ∧ s.heap.get? a = some (seqObj "list" #[] e1) ∧ ks = qs.map (fun q : Addr × KP => Value.ref q.1) ∧ (∀ q ∈ qs, PrA H' q) ∧ qs.map (·.2) = (zs.take i).map (·.2)
end
end L2
namespace L2
open PySem PySem.Spec PyProof.Rows SO
section
variable {X : Cx}
end
end L2
namespace L2
open PySem PySem.Spec PyProof.Rows SO
section
variable {X : Cx} {k : Nat} {f : Addr} {fd : FuncData} {ps : List Str} {sp : Sp} {p pos kpos : Pos} {e ke : Expr} {t : TA} {tk : TE}
def oneV (R : V → Hp → Prop) : List V → Hp → Prop
  | [w], H => R w H
  | _, _ => False

end
end L2
namespace SO
open PySem PyProof PyProof.Rows HT PySem.W
section
variable {prog : Program} {w : World} {A : Around} {E : Value → Shared → Prop} {s : Shared}
theorem iter_dictE {d : Addr} {o : Obj} {es : Array DictEntry} {ep : Nat} {Q : Value → Shared → Prop} (hd : (d == sysModules) = false) (ho : s.heap.get? d = some o) (hx : o.ExactDict) (hdat : o.data = .dict es ep)
    (hQ : Q (.ref s.heap.objs.size) { s with heap := s.heap.push { cls := .type "dict_keyiterator", data := .fields #[.ref d, .int 0 0, .int es.size 0, .int ep 0] } }) :
    wpAny (model prog w) A (pyIter (.ref d)) Q E s := by
  have hT : s.TypeIs (.ref d) "dict" := ⟨o, ho, hx.1⟩
  refine wpAny_pyIter_slot hT F.slot_dict_iter (wpAny_call_entry F.slot_dict_iter hT F.entry_dict_iter ?_ (F.args_dict_iter_1 _))
  unfold Builtin.«dict.__iter__»
  refine wpAny_bind ?_
  unfold Builtin.Dict.dictSlotNone
  refine wpAny_bind (wpAny_notOrdered_dict hT ?_)
  show wpAny _ _ (pure (Value.ref d)) _ _ s
  refine wpAny_pure ?_
  show wpAny _ _ (Builtin.Dict.showsAll d >>= _) _ _ s
  unfold Builtin.Dict.showsAll
  rw [if_neg (by rw [hd]; exact Bool.false_ne_true)]
  refine wpAny_bind (wpAny_pure ?_)
  refine wpAny_bind (wpAny_dictEntries ho hdat ?_)
  refine wpAny_bind (wpAny_dictEpoch ho hdat ?_)
  refine wpAny_bind (wpAny_newObj_type (wpAny_pure ⟨_, rfl, "dict_keyiterator", _, ⟨_, Heap.get?_push_size _ rfl, rfl⟩, F.slot_dict_keyiterator_next.lookup, ?_⟩))
  simpa [rawInt] using hQ
end
end SO
namespace L2
open PySem PySem.Spec PyProof.Rows SO
section
variable {X : Cx}
end
end L2
namespace L2
open PySem PySem.Spec PyProof.Rows

section
variable {X : Cx}
end
end L2
namespace L2
open PySem PySem.Spec PyProof.Rows SO

section
variable {X : Cx}
end
end L2
namespace L2
open PySem PySem.Spec PyProof.Rows

def IOk (P : Program) (w : World) (kvs : List (Key × V)) (o : Obj) : Prop := kvs.length ≤ sizeLine ∧ o.ExactDict ∧ ∃ (vs : List (Key × Value)) (es : Array DictEntry) (ep : Nat), KV kvs vs ∧ o.data = .dict es ep ∧ KeysOf (mixKind P w) es ∧ Pairs (mixKind P w) es.toList vs ∧ (vs.map (·.1)).Nodup
def ID (P : Program) (w : World) (a : Addr) (kvs : List (Key × V)) (o : Obj) : HO := .ext fun h => h.get? a = some o ∧ (a == sysModules) = false ∧ IOk P w kvs o
section
variable {X : Cx} {pins : List (Addr × Obj)} {σ : St} {H : Hp} {s : Shared} {a : Addr} {kvs : List (Key × V)} {o : Obj}
theorem id_at (I : Inv X pins σ H s) (e : H a = some (ID X.prog X.w a kvs o)) : s.heap.get? a = some o ∧ (a == sysModules) = false ∧ IOk X.prog X.w kvs o :=
  (show ObjOk X.prog X.w H s.heap a (ID X.prog X.w a kvs o) from I.hok _ _ e).1
theorem id_of (I : Inv X pins σ H s) (e : H a = some (ID X.prog X.w a kvs o)) : kvs.length ≤ sizeLine ∧ (a == sysModules) = false ∧ ∃ vs, KV kvs vs ∧ s.heap.DictOf (mixKind X.prog X.w) a vs := by
  obtain ⟨g1, hd, z, g2, vs, es, ep, r, g3, g4, g5, g6⟩ := id_at I e
  exact ⟨z, hd, vs, r, o, es, ep, g1, g2, g3, g4, g5, g6⟩
theorem id_new {P : Program} {w : World} {h : Heap} {vs : List (Key × Value)} (z : kvs.length ≤ sizeLine) (hd : (a == sysModules) = false) (r : KV kvs vs) (dd : h.DictOf (mixKind P w) a vs) : ∃ o, ∀ H, ObjOk P w H h a (ID P w a kvs o) := by
  obtain ⟨o, es, ep, g1, g2, g3, g4, g5, g6⟩ := dd
  exact ⟨o, fun H => ⟨⟨g1, hd, z, g2, vs, es, ep, r, g3, g4, g5, g6⟩, ⟨o, g1⟩, fun h1 h2 ⟨e, m⟩ k => ⟨k o e, m⟩⟩⟩
def tINew (P : Program) (w : World) : TE := fun _ H Q => ∀ p o, H p = none → Q (.ref p) (upd H p (ID P w p [] o))
theorem pe_inewW {P : Program} {w : World} (hP : X.prog = P) (hw : X.w = w) {pos : Pos} : PE X (.Dict [] [] pos) (tINew P w) := by
  subst hP hw
  intro pins s σ H Q I h
  obtain ⟨o, ho⟩ := id_new (P := X.prog) (w := X.w) (kvs := []) (Nat.zero_le _) (beq_eq_false_iff_ne.mpr (Ne.symm (Nat.ne_of_lt I.big))) .nil (Heap.DictOf.new s.heap)
  exact wpAny_Dict_empty ⟨.ref s.heap.objs.size, _, I.laid (a := s.heap.objs.size) (o := ID X.prog X.w s.heap.objs.size [] o) (t' := s.toks) (fun _ _ q => Heap.get?_push_of_some _ q) (Nat.le_refl _) (ho _), rfl, h _ _ (I.hok.fresh (Nat.le_refl _))⟩
def sIPut (P : Program) (w : World) (td ty tv : TE) : TS := fun D σ H => tv σ H fun v H1 => td σ H1 fun x H2 => ty σ H2 fun y H3 => ∃ a kvs o k, x = .ref a ∧ H3 a = some (ID P w a kvs o) ∧ y = kV k ∧ kvs.length < sizeLine ∧
  ∀ o', D.nx σ (upd H3 a (ID P w a (putK kvs k v) o'))
theorem ps_iputW {P : Program} {w : World} (hP : X.prog = P) (hw : X.w = w) {o i value : Expr} {pos pos' : Pos} {td ty tv : TE} (ho : PE X o td) (hi : PE X i ty) (hv : PE X value tv) (hs : swapsWith value (some (.Subscript o i pos')) pos.line X.env = pure false) :
    PS X (.Assign [.Subscript o i pos'] value pos) (sIPut P w td ty tv) := by
  subst hP hw
  intro pins s σ H D I h
  refine wpAny_Assign_Subscript (thn (hv pins s σ H _ I h) fun r s1 ⟨v, H1, I1, rv, q1⟩ => thn (ho pins s1 σ H1 _ I1 q1) fun u s2 ⟨x, H2, I2, rx, q2⟩ => thn (hi pins s2 σ H2 _ I2 q2) fun iv s3 ⟨y, H3, I3, ry, a, kvs, ob, k, ex, e, ey, l, q3⟩ => ?_) hs
  subst ex ey
  obtain rfl : u = Value.ref a := rx
  obtain ⟨z, hd, vs, rel, dd⟩ := id_of I3 e
  have hl : (putK kvs k v).length ≤ sizeLine := by have := length_putK kvs k v; omega
  refine wpAny_setItem_pairs (hsz := by rw [← rel.length]; exact z) (kV_is ry) dd fun h' dd' hs' => ?_
  obtain ⟨o', ho'⟩ := id_new (P := X.prog) (w := X.w) (kvs := putK kvs k v) hl hd (rel.put k rv) dd'
  have he : ∃ q, h'.get? a = some q := let ⟨q, _, _, hq, _⟩ := dd'; ⟨q, hq⟩
  exact ⟨σ, _, d_write I3 (by rw [e]; exact True.intro) hs' he (ho' _), q3 o'⟩
def tIIn (P : Program) (w : World) (ty td : TE) : TE := fun σ H Q => ty σ H fun y H1 => td σ H1 fun x H2 => ∃ a kvs o k, x = .ref a ∧ H2 a = some (ID P w a kvs o) ∧ y = kV k ∧ Q (.bl (valV kvs k).isSome) H2
theorem pc_iinW {P : Program} {w : World} (hP : X.prog = P) (hw : X.w = w) {i o : Expr} {ty td : TE} (hi : PE X i ty) (ho : PE X o td) : PC X .In i o (tIIn P w ty td) := by
  subst hP hw
  intro pins s σ H Q I h
  refine thn (hi pins s σ H _ I h) fun iv s1 ⟨y, H1, I1, ry, q1⟩ => thn (ho pins s1 σ H1 _ I1 q1) fun u s2 ⟨x, H2, I2, rx, a, kvs, ob, k, ex, g, ey, q2⟩ => ?_
  subst ex ey
  obtain rfl : u = Value.ref a := rx
  obtain ⟨z, hd, vs, rel, dd⟩ := id_of I2 g
  refine wpAny_in_of (kV_is ry) hd dd.mapOf ?_
  rw [← (rel.val k).isSome_eq]
  exact ⟨.bl _, H2, I2.tok _, rfl, q2⟩
end

def Iti (P : Program) (w : World) (a : Addr) (kvs : List (Key × V)) (o : Obj) : It :=
  ⟨fun i H => H a = some (ID P w a kvs o) ∧ i < kvs.length, fun i H x H' => H' = H ∧ ∃ p, kvs[i]? = some p ∧ x = kV p.1, fun i H => H a = some (ID P w a kvs o) ∧ kvs.length ≤ i⟩
theorem pairs_at {P : Program} {w : World} : ∀ {es : List DictEntry} {vs : List (Key × Value)}, Pairs (mixKind P w) es vs → ∀ {i : Nat} {p : Key × Value}, vs[i]? = some p → ∃ e, es[i]? = some e ∧ (mixKind P w).is p.1 e.key = true
  | _, _, .nil, i, p, h => by simp at h
  | _, _, .cons h1 h2 t, 0, p, h => by
    cases h
    exact ⟨_, rfl, h1⟩
  | _, _, .cons h1 h2 t, i + 1, p, h => pairs_at t (i := i) h
theorem pairs_len {P : Program} {w : World} : ∀ {es : List DictEntry} {vs : List (Key × Value)}, Pairs (mixKind P w) es vs → es.length = vs.length
  | _, _, .nil => rfl
  | _, _, .cons _ _ t => by rw [List.length_cons, List.length_cons, pairs_len t]
theorem kv_get {κ : Type} {xs : List (κ × V)} {us : List (κ × Value)} (r : KV xs us) : ∀ {i : Nat} {p : κ × V}, xs[i]? = some p → ∃ q, us[i]? = some q ∧ p.1 = q.1 := by
  induction r with
  | nil => intro i p h; simp at h
  | @cons x y xs ys h t ih =>
    intro i p e
    cases i with
    | zero => cases e; exact ⟨y, rfl, h.1⟩
    | succ j => exact ih e
theorem kV_of {P : Program} {w : World} {k : Key} {u : Value} (h : (mixKind P w).is k u = true) : RelV (kV k) u := by
  rcases keyIs_shape h with ⟨i, t, rfl, rfl⟩ | ⟨x, t, rfl, rfl⟩
  · exact ⟨t, rfl⟩
  · exact ⟨t, rfl⟩
theorem turn_ikeys {P : Program} {w : World} {K : PySem.W.Frag} {tg : Expr} (a it : Addr) (kvs : List (Key × V)) (o : Obj) {es : Array DictEntry} {ep : Nat} (hdat : o.data = .dict es ep) : Turn P w K tg (Iti P w a kvs o) [it] it (fun i h => h.IsKeyIter it a i es.size ep) where
  mem := by simp
  obj := fun i h st b hb => by
    have e : b = it := by simpa using hb
    subst e
    obtain ⟨o, e, c, d⟩ := st
    exact ⟨o, e, fun v z => by rw [d] at z; cases z⟩
  keep := fun i h h' st k => let ⟨o, ho, r⟩ := st; ⟨o, k it (by simp) o ho, r⟩
  item := by
    intro X hP hw hK hc i pins s σ H E I hf st hg
    subst hP hw hK
    obtain ⟨hq, hx⟩ := hg
    obtain ⟨g1, _, z, g2, vs, es', ep', r, g3, g4, g5, g6⟩ := id_at I hq
    rw [hdat] at g3
    cases g3
    obtain ⟨f0, f1, f2, f3, f4, f5⟩ := hf it (by simp)
    obtain ⟨q, hq1, hq2⟩ := kv_get r (i := i) (p := kvs[i]) (by simp [hx])
    obtain ⟨e, he, hk⟩ := pairs_at g5 hq1
    have he : es[i]? = some e := by rw [← Array.getElem?_toList]; exact he
    refine next_keys_item st g1 hdat he fun h' st' sb => ?_
    have I1 : Inv X pins σ H { s with heap := h' } := I.turned (t' := s.toks) (fun b o hb e => (sb.2 b hb).trans e) f0 f1 f3 f4 f5
    obtain ⟨o', e', c, d⟩ := id st'
    refine ⟨_, rfl, go_of (s := { s with heap := h' }) e' c d (by decide) ⟨kV kvs[i].1, H, I1, ?_, ⟨rfl, kvs[i], by simp [hx], rfl⟩, st', fun b hb => (hf b hb).1⟩⟩
    rw [hq2]
    exact kV_of hk
  done := by
    intro X hP hw hK hc i pins s σ H E I hf st hg
    subst hP hw hK
    obtain ⟨hq, hx⟩ := hg
    obtain ⟨g1, _, z, g2, vs, es', ep', r, g3, g4, g5, g6⟩ := id_at I hq
    rw [hdat] at g3
    cases g3
    obtain ⟨f0, f1, f2, f3, f4, f5⟩ := hf it (by simp)
    have hl : es.size = kvs.length := by rw [← Array.length_toList, pairs_len g5, r.length]
    exact next_keys_end (I.ok.hd hc) st g1 hdat (by omega) fun h' eb => ⟨rfl, I.turned (t' := s.toks) (fun b o hb e => eb b o hb e) f0 f1 f3 f4 f5⟩
  self := fun _ _ _ _ _ st h => wpAny_pyIter_keyiter st h
def iIDic (P : Program) (w : World) (td : TE) : TI := fun σ H R => td σ H fun x H1 => ∃ a kvs o, x = .ref a ∧ H1 a = some (ID P w a kvs o) ∧ R (Iti P w a kvs o) H1
theorem pi_idicW {X : Cx} {P : Program} {w : World} (hP : X.prog = P) (hw : X.w = w) {tg o : Expr} {td : TE} (ho : PE X o td) : PI X tg o (iIDic P w td) := by
  subst hP hw
  intro pins s σ H R I h
  refine thn (ho pins s σ H _ I h) fun v s1 ⟨x, H1, I1, r1, a, kvs, ob, ex, e, q⟩ => ?_
  subst ex
  obtain rfl : v = Value.ref a := r1
  obtain ⟨g1, hd, z, g2, vs, es, ep, r, g3, g4, g5⟩ := id_at I1 e
  refine SO.iter_dictE hd g1 g2 g3 ?_
  refine ⟨s1.heap.objs.size, [s1.heap.objs.size], _, _, H1, rfl, I1.kept (t' := s1.toks) fun b o e => Heap.get?_push_of_some _ e, turn_ikeys a _ kvs ob g3, ⟨_, Heap.get?_push_size _ rfl, rfl, rfl⟩, fun b hb => ?_, q⟩
  have e : b = s1.heap.objs.size := by simpa using hb
  subst e
  exact I1.fpOk (Nat.le_refl _) (I1.hok.fresh (Nat.le_refl _))
theorem lc_idic {P : Program} {w : World} {a : Addr} {kvs : List (Key × V)} {o : Obj} {caps : St} {tt : TT} {te : TE} {D : Addr} {Q : Hp → Prop} {H1 : Hp} (Pv : Nat → List V → Hp → Prop) (hz : kvs.length ≤ sizeLine) (h0 : Pv 0 [] (upd H1 D (.lst []))) (hl : ∀ i ys H, Pv i ys H → ys.length ≤ i) (hq : ∀ i ys H, Pv i ys H → H a = some (ID P w a kvs o))
    (hs : ∀ i ys H (p : Key × V) (N : VK) (M : Hp → Prop), kvs[i]? = some p → Pv i ys H → (∀ y H4, H4 D = some (.lst ys) → Pv (i + 1) (ys ++ [y]) (upd H4 D (.lst (ys ++ [y]))) → N y H4) → (∀ H3, Pv (i + 1) ys H3 → M H3) →
      tt (some (kV p.1) :: caps) H fun ok H3 => if ok = true then te (some (kV p.1) :: caps) H3 N else M H3)
    (hd : ∀ ys H, Pv kvs.length ys H → Q H) : ∃ W : Nat → Nat → St → Hp → Prop, (∃ m, W 0 m (none :: caps) (upd H1 D (.lst []))) ∧ LcW (Iti P w a kvs o) (gName 0) tt te D Q W := by
  refine ⟨fun i m σ H => m = kvs.length - i ∧ i ≤ kvs.length ∧ (∃ v, σ = v :: caps) ∧ ∃ ys, Pv i ys H, ⟨kvs.length, by simp, Nat.zero_le _, ⟨none, rfl⟩, [], h0⟩, ?_⟩
  rintro i m σ H ⟨rfl, hi, ⟨v, rfl⟩, ys, p⟩
  have hy := hl i ys H p
  by_cases hlt : i < kvs.length
  · refine .inr ⟨⟨hq i ys H p, hlt⟩, fun x H1 y => ?_⟩
    obtain ⟨e, p', hp', y⟩ := y
    subst e y
    exact hs i ys _ p' _ _ hp' p (fun y H4 a c => ⟨ys, a, by omega, kvs.length - (i + 1), by omega, rfl, hlt, ⟨_, rfl⟩, _, c⟩) (fun H3 c => ⟨kvs.length - (i + 1), by omega, rfl, hlt, ⟨_, rfl⟩, ys, c⟩)
  · have e : i = kvs.length := by omega
    subst e
    exact .inl ⟨⟨hq _ ys H p, Nat.le_refl _⟩, hd ys H p⟩
end L2
namespace SO
open PySem PyProof PyProof.Rows HT
section
open PySem.SeqAt
open PySem.AutoSeq1 (wpAny_loadPart')
open PySem.MeetsSeq PySem.MeetsSeq2 PySem.MeetsSeq3
end
section
variable {prog : Program} {w : World} {A : Around} {E : Value → Shared → Prop} {s : Shared}
end
end SO
namespace L2
open PySem PySem.Spec PyProof.Rows SO

structure MKey (X : Cx) (O : KeyOrd) (KA : Hp → O.α → V → Prop) : Prop where
  same : ∀ {H H' : Hp} {k : O.α} {v : V}, Same H H' → KA H k v → KA H' k v
  cmp : ∀ {pins : List (Addr × Obj)} {σ : St} {H : Hp} {s : Shared}, Inv X pins σ H s → ∀ {k k' : O.α} {v v' : V} {u u' : Value}, KA H k v → KA H k' v' → RelV v u → RelV v' u' → ∀ (Q E : Value → Shared → Prop), Q (.bool (O.blt k k')) s → wpAny (model X.prog X.w) X.A.in1 (richCompare .Lt u u') Q E s

def Bst (O : KeyOrd) (zs : List (Addr × O.α)) (j : Nat) (z : Addr × O.α) : Prop := ∃ i, i < j ∧ zs[i]? = some z ∧ ∀ j' y, j' < j → zs[j']? = some y → O.blt y.2 z.2 = false ∧ (j' < i → O.blt z.2 y.2 = true)
theorem bst_one {O : KeyOrd} {zs : List (Addr × O.α)} {z : Addr × O.α} (h : zs[0]? = some z) : Bst O zs 1 z := ⟨0, by omega, h, fun j' y hj e => by
  have : j' = 0 := by omega
  subst this
  rw [h] at e
  cases e
  exact ⟨O.irrefl _, fun q => by omega⟩⟩
theorem bst_new {O : KeyOrd} {zs : List (Addr × O.α)} {z y : Addr × O.α} {j : Nat} (b : Bst O zs j z) (h : zs[j]? = some y) (lt : O.blt y.2 z.2 = true) : Bst O zs (j + 1) y := by
  obtain ⟨i, hi, ei, hb⟩ := b
  refine ⟨j, by omega, h, fun j' x hj e => ?_⟩
  by_cases q : j' = j
  · subst q
    rw [h] at e
    cases e
    exact ⟨O.irrefl _, fun q => by omega⟩
  · obtain ⟨b1, b2⟩ := hb j' x (by omega) e
    constructor
    · cases c : O.blt x.2 y.2 with
      | false => rfl
      | true => rw [O.trans _ _ _ c lt] at b1; cases b1
    · intro _
      rcases O.negTrans _ x.2 _ lt with c | c
      · exact c
      · rw [b1] at c; cases c
theorem bst_old {O : KeyOrd} {zs : List (Addr × O.α)} {z y : Addr × O.α} {j : Nat} (b : Bst O zs j z) (h : zs[j]? = some y) (lt : O.blt y.2 z.2 = false) : Bst O zs (j + 1) z := by
  obtain ⟨i, hi, ei, hb⟩ := b
  refine ⟨i, by omega, ei, fun j' x hj e => ?_⟩
  by_cases q : j' = j
  · subst q
    rw [h] at e
    cases e
    exact ⟨lt, fun q => by omega⟩
  · exact hb j' x (by omega) e
section
variable {X : Cx} {O : KeyOrd} {KA : Hp → O.α → V → Prop} {pins : List (Addr × Obj)} {σ : St} {H : Hp} {S I l f : Addr} {k : Nat} {fd : FuncData} {ps : List Str} {sp : Sp} {zs : List (Addr × O.α)}
theorem mk_call {H1 : Hp} {s : Shared} {oS oI : Obj} {z : Addr × O.α} (F : FnOk X.prog X.w X.K X.mg X.base CX0 k f fd ps sp) (hr : Room k X.A.in1) (hb : Binds X.K fd ps []) (nS : Nw X pins S) (nI : Nw X pins I)
    (I1 : Inv X pins σ H1 s) (hS0 : H1 S = none) (hI0 : H1 I = none) (hS : s.heap.get? S = some oS) (hI : s.heap.get? I = some oI) (cS : ∀ v, oS.data ≠ .cell v) (cI : ∀ v, oI.data ≠ .cell v)
    (hsp : ∀ (Q : VK) (E : XK), (∀ v H2, Same H1 H2 → KA H2 z.2 v → Q v H2) → sp [.ref z.1] H1 Q E) :
    wpAny (model X.prog X.w) X.A.in1 (call (.ref f) [.ref z.1]) (fun u s'' => ∃ H2 kv, Inv X pins σ H2 s'' ∧ Same H1 H2 ∧ H2 S = none ∧ H2 I = none ∧ s''.heap.get? S = some oS ∧ s''.heap.get? I = some oI ∧ KA H2 z.2 kv ∧ RelV kv u) (fun _ _ => False) s := by
  have I2 := I1.pin2 nS nI hS hI hS0 hI0 cS cI
  have hpost : sp [.ref z.1] H1 (fun v H2 => Same H1 H2 ∧ KA H2 z.2 v) (fun _ _ _ => False) := hsp _ _ fun v H2 s2 p2 => ⟨s2, p2⟩
  have hl : ([Value.ref z.1] ++ ([] : List Value)).length = ps.length := F.len _ _ _ _ hpost
  have hbt := hb s [.ref z.1] I2.kIn hl
  rw [List.append_nil] at hbt
  refine wpAny_call (codeAny_mono (F.run X.A.in1 X.stack s H1 ⟨[.ref z.1], []⟩ [.ref z.1] [.ref z.1] _ _ hr I2.env0.in1 hbt (.cons rfl .nil) hpost) fun r s' hc => ?_)
  cases r with
  | error e => exact hc
  | ok fl =>
    cases fl with
    | next => exact False.elim hc
    | brk => exact False.elim hc
    | cont => exact False.elim hc
    | ret u =>
      obtain ⟨v, H2, I3, rv, s2, p2⟩ := I2.after hc
      have pS := I3.pin (S, _) (List.mem_append_right _ List.mem_cons_self)
      have pI := I3.pin (I, _) (List.mem_append_right _ (List.mem_cons_of_mem _ List.mem_cons_self))
      exact ⟨H2, v, I3.unpin2, s2, pS.2.1, pI.2.1, pS.1, pI.1, p2, rv⟩
variable (M : MKey X O KA) (F : FnOk X.prog X.w X.K X.mg X.base CX0 k f fd ps sp) (hr : Room k X.A.in1) (hb : Binds X.K fd ps []) (hh : X.A.handled = none) (nS : Nw X pins S) (nI : Nw X pins I) (hSI : S ≠ I) (hlI : l ≠ I)
  (hl : ∀ H' s', Same H H' → Inv X pins σ H' s' → s'.heap.IsList l (zs.map fun z => Value.ref z.1).toArray)
  (hsp : ∀ z ∈ zs, ∀ H1, Same H H1 → ∀ (Q : VK) (E : XK), (∀ v H2, Same H1 H2 → KA H2 z.2 v → Q v H2) → sp [.ref z.1] H1 Q E)
include M F hr hb hh nS nI hSI hlI hl hsp
theorem min_loop {kw : List (Str × Value)} {R : Result → Shared → Prop}
    (hR : ∀ z H' s', Bst O zs zs.length z → Same H H' → Inv X pins σ H' s' → R (.ok (.ret (.ref z.1))) s') :
    ∀ (r j : Nat) (s : Shared) (H1 : Hp) (z : Addr × O.α) (kb : V) (ub : Value) (c : Nat) (oI : Obj), zs.length - j = r → j ≤ zs.length → Inv X pins σ H1 s → Same H H1 → H1 S = none → H1 I = none →
      s.heap.get? S = some (seqObj "list" #[.ref z.1, ub] c) → s.heap.get? I = some oI → oI.cls = .type "list_iterator" → s.heap.IsListIter I l j → KA H1 z.2 kb → RelV kb ub → Bst O zs j z →
      codeAny (model X.prog X.w) X.A (.builtin "min.loop" ⟨[.ref I, .ref f, .ref S], kw⟩) R s := by
  have hname : (toString "min" ++ toString ".loop" : String) = "min.loop" := by decide
  have W := Walks.list (prog := X.prog) (w := X.w) (A := X.A.in1) hh I l hlI (zs.map fun z => Value.ref z.1).toArray
  have hsz : (zs.map fun z => Value.ref z.1).toArray.size = zs.length := by simp
  intro r
  induction r with
  | zero =>
    intro j s H1 z kb ub c oI hr' hj I1 s1 hS0 hI0 hS hI hoc hit hk rk hB
    have hin : j = zs.length := by omega
    refine codeAny_builtin PySem.F.entry_min_loop ?_
    rw [Around.under_plainId PySem.F.plain_min_loop _]
    show wpAny _ X.A.in1 (seqItems? (.ref S) >>= _) _ _ _
    refine wpAny_bind (wpAny_seqItems hS rfl ?_)
    show wpAny _ X.A.in1 (tryCatch (pyNext (.ref I)) _ >>= _) _ _ _
    refine wpAny_bind (wpAny_tryCatch (W.done _ _ _ ⟨by rw [hsz, ← hin]; exact hit, hl H1 s s1 I1⟩ fun h' tk' hk' => ?_))
    have I2 : Inv X pins σ H1 { s with heap := h', toks := tk' } := I1.turned (fun b o hb e => hk' b o (by simpa using hb) e) hI0 nI.loc (.inr nI.new) nI.cel nI.pin
    have hS' := hk' S _ (by simpa using hSI) hS
    have sb := Heap.SameBut.update h' S (Obj.mapSeq fun _ => (#[] : Array Value))
    show wpAny _ X.A.in1 (updateSeq S (fun _ => #[]) >>= _) _ _ _
    refine wpAny_bind ?_
    refine wpAny_updateSeq hS' rfl (wpAny_bind (wpAny_letGo (wpAny_pure ?_)))
    have I3 := I2.turned (t' := tk') (h' := h'.update S (Obj.mapSeq fun _ => (#[] : Array Value))) (fun b o hb e => (sb.2 b hb).trans e) hS0 nS.loc (.inr nS.new) nS.cel nS.pin
    exact hR z H1 _ (by rw [← hin]; exact hB) s1 I3
  | succ r ih =>
    intro j s H1 z kb ub c oI hr' hj I1 s1 hS0 hI0 hS hI hoc hit hk rk hB
    have hlt : j < zs.length := by omega
    refine codeAny_builtin PySem.F.entry_min_loop ?_
    rw [Around.under_plainId PySem.F.plain_min_loop _]
    show wpAny _ X.A.in1 (seqItems? (.ref S) >>= _) _ _ _
    refine wpAny_bind (wpAny_seqItems hS rfl ?_)
    show wpAny _ X.A.in1 (tryCatch (pyNext (.ref I)) _ >>= _) _ _ _
    refine wpAny_bind (wpAny_tryCatch (W.item j _ _ _ (by rw [hsz]; exact hlt) ⟨hit, hl H1 s s1 I1⟩ fun v h' tk' hP hst' hk' => ?_))
    have I2 : Inv X pins σ H1 { s with heap := h', toks := tk' } := I1.turned (fun b o hb e => hk' b o (by simpa using hb) e) hI0 nI.loc (.inr nI.new) nI.cel nI.pin
    have hS' := hk' S _ (by simpa using hSI) hS
    obtain ⟨oI', hoI', hoc', hod'⟩ := id hst'.1
    have hv : (zs.map fun z => Value.ref z.1)[j]? = some v := by simpa using hP
    rw [List.getElem?_map] at hv
    obtain ⟨y, ey, rfl⟩ := Option.map_eq_some_iff.mp hv
    show wpAny _ X.A.in1 (tryCatch (holding [.ref y.1] (call (.ref f) [.ref y.1])) _ >>= _) _ _ _
    refine wpAny_bind (wpAny_tryCatch (wpAny_holding (wpAny_mono (mk_call F hr hb nS nI I2 hS0 hI0 hS' hoI' (fun v => nofun) (fun v => by rw [hod']; nofun) (hsp y (List.mem_of_getElem? ey) H1 s1)) (fun u s'' he => ?_) fun _ _ hF => hF.elim)))
    obtain ⟨H2, kv, I3, s2, hS2, hI2, gS2, gI2, hky, rky⟩ := he
    have hkb2 := M.same s2 hk
    have hit2 : s''.heap.IsListIter I l (j + 1) := ⟨oI', gI2, hoc', hod'⟩
    show wpAny _ X.A.in1 (tryCatch (holding [.ref y.1, u] (richCompare .Lt u ub >>= _)) _ >>= _) _ _ _
    refine wpAny_bind (wpAny_tryCatch (wpAny_holding (wpAny_bind (M.cmp I3 hky hkb2 rky rk _ _ ?_))))
    refine wpAny_bind (wpAny_holding (wpAny_truthy_bool ?_))
    refine wpAny_bind (wpAny_letGo (wpAny_pure ?_))
    cases hb' : O.blt y.2 z.2 with
    | true =>
      have sb := Heap.SameBut.update s''.heap S (Obj.mapSeq fun _ => #[.ref y.1, u])
      obtain ⟨c2, hc2⟩ : ∃ c2, (s''.heap.update S (Obj.mapSeq fun _ => #[.ref y.1, u])).get? S = some (seqObj "list" #[.ref y.1, u] c2) := ⟨_, get?_update_seq gS2 fun _ => #[.ref y.1, u]⟩
      simp only [if_true]
      refine wpAny_bind ?_
      refine wpAny_updateSeq gS2 rfl (wpAny_bind (wpAny_letGo ?_))
      rw [hname]
      have I4 := I3.turned (t' := s''.toks) (h' := s''.heap.update S (Obj.mapSeq fun _ => #[.ref y.1, u])) (fun b o hb e => (sb.2 b hb).trans e) hS2 nS.loc (.inr nS.new) nS.cel nS.pin
      exact wpAny_pure ⟨plainId_quiet PySem.F.plain_min_loop _, ih (j + 1) _ H2 y kv u c2 oI' (by omega) hlt I4 (s1.trans s2) hS2 hI2 hc2 ((sb.2 I hSI.symm).trans gI2) hoc' ⟨oI', (sb.2 I hSI.symm).trans gI2, hoc', hod'⟩ hky rky (bst_new hB ey hb')⟩
    | false =>
      simp only [Bool.false_eq_true, if_false]
      refine wpAny_bind (wpAny_letGo ?_)
      rw [hname]
      exact wpAny_pure ⟨plainId_quiet PySem.F.plain_min_loop _, ih (j + 1) _ H2 z kb ub c oI' (by omega) hlt I3 (s1.trans s2) hS2 hI2 gS2 gI2 hoc' hit2 hkb2 rk (bst_old hB ey hb')⟩
end
end L2
namespace L2
open PySem PySem.Spec PyProof.Rows SO
section
variable {X : Cx} {O : KeyOrd} {KA : Hp → O.α → V → Prop} {pins : List (Addr × Obj)} {σ : St} {H : Hp} {S I l f : Addr} {k : Nat} {fd : FuncData} {ps : List Str} {sp : Sp} {zs : List (Addr × O.α)}
variable (M : MKey X O KA) (F : FnOk X.prog X.w X.K X.mg X.base CX0 k f fd ps sp) (hr : Room k X.A.in1) (hb : Binds X.K fd ps []) (hh : X.A.handled = none) (nS : Nw X pins S) (nI : Nw X pins I) (hSI : S ≠ I) (hlI : l ≠ I)
  (hl : ∀ H' s', Same H H' → Inv X pins σ H' s' → s'.heap.IsList l (zs.map fun z => Value.ref z.1).toArray)
  (hsp : ∀ z ∈ zs, ∀ H1, Same H H1 → ∀ (Q : VK) (E : XK), (∀ v H2, Same H1 H2 → KA H2 z.2 v → Q v H2) → sp [.ref z.1] H1 Q E)
include M F hr hb hh nS nI hSI hlI hl hsp
theorem min_first {kw : List (Str × Value)} {R : Result → Shared → Prop} {s : Shared} {oI : Obj} {z : Addr × O.α} (ez : zs[0]? = some z)
    (hR : ∀ z H' s', Bst O zs zs.length z → Same H H' → Inv X pins σ H' s' → R (.ok (.ret (.ref z.1))) s')
    (I1 : Inv X pins σ H s) (hS0 : H S = none) (hI0 : H I = none) (hS : s.heap.get? S = some (seqObj "list" #[] 0)) (hI : s.heap.get? I = some oI) (hit : s.heap.IsListIter I l 0) :
    codeAny (model X.prog X.w) X.A (.builtin "min.loop" ⟨[.ref I, .ref f, .ref S], kw⟩) R s := by
  have hname : (toString "min" ++ toString ".loop" : String) = "min.loop" := by decide
  have W := Walks.list (prog := X.prog) (w := X.w) (A := X.A.in1) hh I l hlI (zs.map fun z => Value.ref z.1).toArray
  have hsz : (zs.map fun z => Value.ref z.1).toArray.size = zs.length := by simp
  have hlt : 0 < zs.length := (List.getElem?_eq_some_iff.mp ez).1
  refine codeAny_builtin PySem.F.entry_min_loop ?_
  rw [Around.under_plainId PySem.F.plain_min_loop _]
  show wpAny _ X.A.in1 (seqItems? (.ref S) >>= _) _ _ _
  refine wpAny_bind (wpAny_seqItems hS rfl ?_)
  show wpAny _ X.A.in1 (tryCatch (pyNext (.ref I)) _ >>= _) _ _ _
  refine wpAny_bind (wpAny_tryCatch (W.item 0 _ _ _ (by rw [hsz]; exact hlt) ⟨hit, hl H s (Same.refl H) I1⟩ fun v h' tk' hP hst' hk' => ?_))
  have I2 : Inv X pins σ H { s with heap := h', toks := tk' } := I1.turned (fun b o hb e => hk' b o (by simpa using hb) e) hI0 nI.loc (.inr nI.new) nI.cel nI.pin
  have hS' := hk' S _ (by simpa using hSI) hS
  obtain ⟨oI', hoI', hoc', hod'⟩ := id hst'.1
  have hv : (zs.map fun z => Value.ref z.1)[0]? = some v := by simpa using hP
  rw [List.getElem?_map, ez] at hv
  cases hv
  show wpAny _ X.A.in1 (tryCatch (holding [.ref z.1] (call (.ref f) [.ref z.1])) _ >>= _) _ _ _
  refine wpAny_bind (wpAny_tryCatch (wpAny_holding (wpAny_mono (mk_call F hr hb nS nI I2 hS0 hI0 hS' hoI' (fun v => nofun) (fun v => by rw [hod']; nofun) (hsp z (List.mem_of_getElem? ez) H (Same.refl H))) (fun u s'' he => ?_) fun _ _ hF => hF.elim)))
  obtain ⟨H2, kv, I3, s2, hS2, hI2, gS2, gI2, hky, rky⟩ := he
  have sb := Heap.SameBut.update s''.heap S (Obj.mapSeq fun _ => #[.ref z.1, u])
  obtain ⟨c2, hc2⟩ : ∃ c2, (s''.heap.update S (Obj.mapSeq fun _ => #[.ref z.1, u])).get? S = some (seqObj "list" #[.ref z.1, u] c2) := ⟨_, get?_update_seq gS2 fun _ => #[.ref z.1, u]⟩
  show wpAny _ X.A.in1 (updateSeq S (fun _ => #[.ref z.1, u]) >>= _) _ _ _
  refine wpAny_bind ?_
  refine wpAny_updateSeq gS2 rfl ?_
  rw [hname]
  have I4 := I3.turned (t' := s''.toks) (h' := s''.heap.update S (Obj.mapSeq fun _ => #[.ref z.1, u])) (fun b o hb e => (sb.2 b hb).trans e) hS2 nS.loc (.inr nS.new) nS.cel nS.pin
  exact wpAny_pure ⟨plainId_quiet PySem.F.plain_min_loop _, min_loop M F hr hb hh nS nI hSI hlI hl hsp hR _ 1 _ H2 z kv u c2 oI' rfl hlt I4 s2 hS2 hI2 hc2 ((sb.2 I hSI.symm).trans gI2) hoc' ⟨oI', (sb.2 I hSI.symm).trans gI2, hoc', hod'⟩ hky rky (bst_one ez)⟩
omit M F hr hb hsp in
theorem min_none {x : Str} {R : Result → Shared → Prop} {s : Shared} {oI : Obj} (ez : zs = [])
    (hR : ∀ s', Inv X pins σ H s' → R (.ok (.ret .none)) s')
    (I1 : Inv X pins σ H s) (hI0 : H I = none) (hS : s.heap.get? S = some (seqObj "list" #[] 0)) (hI : s.heap.get? I = some oI) (hit : s.heap.IsListIter I l 0) :
    codeAny (model X.prog X.w) X.A (.builtin "min.loop" ⟨[.ref I, .ref f, .ref S], [(x, .none)]⟩) R s := by
  have W := Walks.list (prog := X.prog) (w := X.w) (A := X.A.in1) hh I l hlI (zs.map fun z => Value.ref z.1).toArray
  have hsz : (zs.map fun z => Value.ref z.1).toArray.size = 0 := by rw [ez]; rfl
  refine codeAny_builtin PySem.F.entry_min_loop ?_
  rw [Around.under_plainId PySem.F.plain_min_loop _]
  show wpAny _ X.A.in1 (seqItems? (.ref S) >>= _) _ _ _
  refine wpAny_bind (wpAny_seqItems hS rfl ?_)
  show wpAny _ X.A.in1 (tryCatch (pyNext (.ref I)) _ >>= _) _ _ _
  refine wpAny_bind (wpAny_tryCatch (W.done _ _ _ ⟨by rw [hsz]; exact hit, hl H s (Same.refl H) I1⟩ fun h' tk' hk' => ?_))
  have I2 : Inv X pins σ H { s with heap := h', toks := tk' } := I1.turned (fun b o hb e => hk' b o (by simpa using hb) e) hI0 nI.loc (.inr nI.new) nI.cel nI.pin
  refine wpAny_bind (wpAny_rule ?_)
  exact wpAny_pure (hR _ I2)
end
section
variable {X : Cx} {O : KeyOrd} {KA : Hp → O.α → V → Prop} {pins : List (Addr × Obj)} {σ : St} {H : Hp} {f : Addr} {k : Nat} {fd : FuncData} {ps : List Str} {sp : Sp} {zs : List (Addr × O.α)} {p : Addr} {s : Shared} {Q : VK}

theorem min_run {kws kwl : List (Str × Value)} (M : MKey X O KA) (F : FnOk X.prog X.w X.K X.mg X.base CX0 k f fd ps sp) (hr : Room k X.A.in1) (hb : Binds X.K fd ps []) (hh : X.A.handled = none)
    (ha : argsOk "min" ⟨[.ref p], kws⟩) (hbp : ∃ d : Option Value, Builtin.Builtins.bindParams "min" ["key", "default"] 0 ⟨[], kws⟩ = pure [some (.ref f), d] ∧ kwl = d.toList.map fun d => (Str.ofString "default", d))
    (hd : zs = [] → kwl = [(Str.ofString "default", .none)])
    (I0 : Inv X pins σ H s) (hq : SqL X.K H p (zs.map fun z => V.ref z.1)) (hz : zs.length ≤ 1000)
    (hsp : ∀ z ∈ zs, ∀ H1, Same H H1 → ∀ (Q : VK) (E : XK), (∀ v H2, Same H1 H2 → KA H2 z.2 v → Q v H2) → sp [.ref z.1] H1 Q E)
    (q1 : zs = [] → Q .non H) (q2 : ∀ z H', Bst O zs zs.length z → Same H H' → Q (.ref z.1) H') :
    wpAny (model X.prog X.w) X.A (call (.builtin "min") [.ref p] kws) (EP X pins σ Q) X.xe s := by
  have hname : (toString "min" ++ toString ".loop" : String) = "min.loop" := by decide
  have vr : ∀ {us : List Value}, Vals (zs.map fun z => V.ref z.1) us → us = zs.map fun z => Value.ref z.1 := by
    clear hsp hz hq q1 q2 hd
    induction zs with
    | nil => intro us r; cases r; rfl
    | cons z zs ih =>
      intro us r
      cases r with
      | cons h r =>
        cases h
        rw [ih r]
        rfl
  have hl : ∀ H' s', Same H H' → Inv X pins σ H' s' → s'.heap.IsList p (zs.map fun z => Value.ref z.1).toArray := fun H' s' s1 I' => by
    obtain ⟨its, r', pl, _⟩ := I'.list (s1.seq hq)
    obtain rfl := vr r'
    exact pl.isList
  have hls := hl H s (Same.refl H) I0
  obtain ⟨ol, hol, _⟩ := id hls
  have hll : p < s.heap.objs.size := Heap.lt_size hol
  refine kmk_tree PySem.F.kind_min PySem.F.plain_min PySem.F.entry_min ha ?_
  obtain ⟨d, hbp, rfl⟩ := hbp
  show wpAny _ X.A.in1 (Builtin.Builtins.bindParams "min" ["key", "default"] 0 ⟨[], kws⟩ >>= _) _ _ s
  refine wpAny_bind (wpAny_of_eq hbp ?_)
  refine wpAny_bind (wpAny_pure ?_)
  refine wpAny_bind (wpAny_pyIter_list hls ?_)
  refine wpAny_bind (wpAny_newList ?_ (Nat.zero_le _))
  rw [hname]
  have hS : (s.heap.push { cls := .type "list_iterator", data := .fields #[.ref p, .int 0 0] }).objs.size = s.heap.objs.size + 1 := size_push' ..
  have gI : ((s.heap.push { cls := .type "list_iterator", data := .fields #[.ref p, .int 0 0] }).push (seqObj "list" #[] 0)).get? s.heap.objs.size = some { cls := .type "list_iterator", data := .fields #[.ref p, .int 0 0] } :=
    Heap.get?_push_of_some _ (Heap.get?_push_size _ rfl)
  have gS : ((s.heap.push { cls := .type "list_iterator", data := .fields #[.ref p, .int 0 0] }).push (seqObj "list" #[] 0)).get? (s.heap.push { cls := .type "list_iterator", data := .fields #[.ref p, .int 0 0] }).objs.size = some (seqObj "list" #[] 0) := Heap.get?_push_size _ rfl
  have I1 : Inv X pins σ H { s with heap := (s.heap.push { cls := .type "list_iterator", data := .fields #[.ref p, .int 0 0] }).push (seqObj "list" #[] 0) } := I0.kept (t' := s.toks) fun b o e => Heap.get?_push_of_some _ (Heap.get?_push_of_some _ e)
  rw [hS] at gS
  refine wpAny_pure ⟨plainId_quiet PySem.F.plain_min_loop _, ?_⟩
  rw [hS]
  have hI0 := I0.hok.fresh (Nat.le_refl s.heap.objs.size)
  have hS0 := I0.hok.fresh (Nat.le_succ s.heap.objs.size)
  have nI := nw_of I0 (Nat.le_refl s.heap.objs.size)
  have nS := nw_of I0 (Nat.le_succ s.heap.objs.size)
  have hSI : s.heap.objs.size + 1 ≠ s.heap.objs.size := by omega
  have hlI : p ≠ s.heap.objs.size := Nat.ne_of_lt hll
  cases ez : zs[0]? with
  | none =>
    have e0 : zs = [] := by
      cases zs with
      | nil => rfl
      | cons z zs => simp at ez
    have ed := hd e0
    simp only [Option.getD_some, ed]
    exact min_none hh nS nI hSI hlI hl e0 (fun s' I' => ⟨.non, H, I', rfl, q1 e0⟩) I1 hI0 gS gI ⟨_, gI, rfl, rfl⟩
  | some z =>
    exact min_first M F hr hb hh nS nI hSI hlI hl hsp ez (fun z H' s' b s1 I' => ⟨.ref z.1, H', I', rfl, q2 z H' b s1⟩) I1 hS0 hI0 gS gI ⟨_, gI, rfl, rfl⟩
def tMinK (K : PySem.W.Frag) (O : KeyOrd) (KA : Hp → O.α → V → Prop) (f : Addr) (sp : Sp) (t : TA) (tk : TE) : TE := fun σ H Q => t σ H fun vs H1 => tk σ H1 fun w H2 => ∃ (p : Addr) (zs : List (Addr × O.α)), vs = [.ref p] ∧ w = .ref f ∧ SqL K H2 p (zs.map fun z => V.ref z.1) ∧ zs.length ≤ 1000 ∧ zs ≠ [] ∧
  (∀ z ∈ zs, ∀ H4, Same H2 H4 → ∀ (Q : VK) (E : XK), (∀ v H5, Same H4 H5 → KA H5 z.2 v → Q v H5) → sp [.ref z.1] H4 Q E) ∧ ∀ z H', Bst O zs zs.length z → Same H2 H' → Q (.ref z.1) H'
theorem pe_minK {p' pos kpos : Pos} {e ke : Expr} {t : TA} {tk : TE} (M : MKey X O KA) (F : FnOk X.prog X.w X.K X.mg X.base CX0 k f fd ps sp) (hr : Room k X.A.in1) (hc : X.calm = true) (hb : Binds X.K fd ps []) (hg : Gl X "min") (hm : X.mg "min" = none) (hv : bootBuiltins "min" = some (.builtin "min"))
    (ha : PA X [e] t) (hk : PE X ke tk) (he : backTo pos (starEach [e] X.env) = (false, eval e X.env) :: backTo pos (starEach [] X.env) := by rfl) (hplain : (backTo pos (starEach [e] X.env)).any (·.1) = false := by rfl)
    (hall : (backToKw pos (keywordEach [⟨some "key", ke, kpos⟩] X.env)).all (·.1.isSome) = true := by rfl) (hkw : (backToKw pos (keywordEach [⟨some "key", ke, kpos⟩] X.env)).any (·.1.isNone) = false := by rfl)
    (hks : (backToKw pos (keywordEach [⟨some "key", ke, kpos⟩] X.env)).filterMap (·.1) = [Str.ofString "key"] := by rfl) : PE X (.Call (.Name "min" p') [e] [⟨some "key", ke, kpos⟩] pos) (tMinK X.K O KA f sp t tk) := by
  intro pins s σ H Q I h
  refine wpAny_Call_Name_kw (ld_blt I hg hm hv ?_ (by decide) (by decide))
  refine callWith_kw (thn (ha pos pins s σ H _ I h) fun us s1 ⟨vs, H1, I1, r1, q1⟩ => ?_) he hplain hall hkw
  have q1' : tCons tk tNil σ H1 (oneV _) := q1
  refine thn (pk_cons (kpos := kpos) (nm := some "key") hk pk_nil pos pins s1 σ H1 _ I1 q1') fun ws s2 ⟨xs, H2, I2, rz, q2⟩ => ?_
  rw [hks]
  obtain ⟨w, rfl⟩ : ∃ w, xs = [w] := by
    match xs, q2 with
    | [w], _ => exact ⟨w, rfl⟩
  obtain ⟨u, rfl, ru⟩ := vals1 rz
  obtain ⟨p', zs, rfl, rfl, hq, hz, hne, hsp, q4⟩ := q2
  obtain ⟨u', rfl, rx⟩ := vals1 r1
  obtain rfl : u' = .ref p' := rx
  obtain rfl : u = .ref f := ru
  have fin := min_run (Q := Q) (kwl := []) M F hr hb (I2.ok.hd hc) (kmk_min_key _ _) ⟨none, rfl, rfl⟩ (fun e => absurd e hne) I2 hq hz hsp (fun e => absurd e hne) q4
  rw [show [Str.ofString "key"].zip [Value.ref f] = [(Str.ofString "key", Value.ref f)] by rfl]
  exact fin

def intOrd : KeyOrd where
  α := Int
  blt := fun a b => decide (a < b)
  irrefl := fun a => decide_eq_false (by omega)
  trans := fun a b c h1 h2 => decide_eq_true (by have := of_decide_eq_true h1; have := of_decide_eq_true h2; omega)
  negTrans := fun a b c h => by
    have := of_decide_eq_true h
    by_cases q : a < b
    · exact .inl (decide_eq_true q)
    · exact .inr (decide_eq_true (by omega))
  total := fun a b h1 h2 => by
    have := of_decide_eq_false h1
    have := of_decide_eq_false h2
    omega
def KaI : Hp → intOrd.α → V → Prop := fun _ k v => v = .int k
theorem mkey_int : MKey X intOrd KaI where
  same := fun _ h => h
  cmp := by
    intro pins σ H s I k k' v v' u u' h h' r r' Q E hq
    cases h
    cases h'
    obtain ⟨t, rfl⟩ := r
    obtain ⟨t', rfl⟩ := r'
    exact HT.rcLt_int _ _ _ _ _ _ _ _ _ _ hq
end
end L2
namespace L2
open PySem PySem.Spec PyProof.Rows

theorem below_go (xs : Array Nat) (j : Nat) (hr : xs.toList.Pairwise (· < ·)) : ∀ (fuel lo hi : Nat), lo ≤ hi → hi ≤ xs.size → hi - lo ≤ fuel → (∀ i x, i < lo → xs[i]? = some x → x < j) → (∀ i x, hi ≤ i → xs[i]? = some x → j ≤ x) →
    SetTable.below.go xs j fuel lo hi ≤ xs.size ∧ (∀ i x, i < SetTable.below.go xs j fuel lo hi → xs[i]? = some x → x < j) ∧ ∀ i x, SetTable.below.go xs j fuel lo hi ≤ i → xs[i]? = some x → j ≤ x := by
  have up : ∀ {i k x y : Nat}, i ≤ k → xs[i]? = some x → xs[k]? = some y → x ≤ y := fun {i k x y} h hx hy => by
    by_cases e : i = k
    · subst e
      rw [hx] at hy
      cases hy
      exact Nat.le_refl _
    · obtain ⟨h1, g1⟩ := Array.getElem?_eq_some_iff.mp hx
      obtain ⟨h2, g2⟩ := Array.getElem?_eq_some_iff.mp hy
      have := List.pairwise_iff_getElem.mp hr i k (by simpa using h1) (by simpa using h2) (by omega)
      rw [Array.getElem_toList, Array.getElem_toList, g1, g2] at this
      exact Nat.le_of_lt this
  intro fuel
  induction fuel with
  | zero =>
    intro lo hi h1 h2 h3 ha hb
    have : hi = lo := by omega
    subst this
    unfold SetTable.below.go
    exact ⟨h2, ha, hb⟩
  | succ fuel ih =>
    intro lo hi h1 h2 h3 ha hb
    unfold SetTable.below.go
    by_cases hl : lo < hi
    · rw [if_pos hl]
      dsimp only
      have hm : (lo + hi) / 2 < xs.size := by omega
      obtain ⟨x, hx⟩ : ∃ x, xs[(lo + hi) / 2]? = some x := ⟨xs[(lo + hi) / 2], by simp [hm]⟩
      have eg : xs.getD ((lo + hi) / 2) j = x := by simp [Array.getD_eq_getD_getElem?, hx]
      rw [eg]
      by_cases hc : x < j
      · rw [if_pos hc]
        refine ih _ _ (by omega) h2 (by omega) (fun i y hi' hy => ?_) hb
        exact Nat.lt_of_le_of_lt (up (by omega) hy hx) hc
      · rw [if_neg hc]
        refine ih _ _ (by omega) (by omega) (by omega) ha fun i y hi' hy => ?_
        exact Nat.le_trans (Nat.le_of_not_lt hc) (up hi' hx hy)
    · rw [if_neg hl]
      have : hi = lo := by omega
      subst this
      exact ⟨h2, ha, hb⟩
theorem below_ok (xs : Array Nat) (j : Nat) (hr : xs.toList.Pairwise (· < ·)) : SetTable.below xs j ≤ xs.size ∧ (∀ i x, i < SetTable.below xs j → xs[i]? = some x → x < j) ∧ ∀ i x, SetTable.below xs j ≤ i → xs[i]? = some x → j ≤ x :=
  below_go xs j hr xs.size 0 xs.size (Nat.zero_le _) (Nat.le_refl _) (by omega) (fun i x h => by omega) (fun i x h e => by
    have := (Array.getElem?_eq_some_iff.mp e).1
    omega)
theorem put_rise {xs : Array Nat} {j : Nat} (hr : xs.toList.Pairwise (· < ·)) (hn : xs[SetTable.below xs j]? ≠ some j) : (SetTable.insertAt xs (SetTable.below xs j) j).toList.Pairwise (· < ·) := by
  obtain ⟨h1, h2, h3⟩ := below_ok xs j hr
  rw [SetTable.toList_insertAt]
  generalize hp : SetTable.below xs j = p at *
  rw [List.pairwise_append, List.pairwise_cons]
  refine ⟨hr.sublist (List.take_sublist _ _), ⟨fun y hy => ?_, hr.sublist (List.drop_sublist _ _)⟩, fun x hx y hy => ?_⟩
  · obtain ⟨i, hi⟩ := List.getElem?_of_mem hy
    rw [List.getElem?_drop, Array.getElem?_toList] at hi
    have hle := h3 _ _ (Nat.le_add_right p i) hi
    by_cases e : j = y
    · subst e
      exfalso
      -- the one at p is j itself
      have hps : p < xs.size := by
        have := (Array.getElem?_eq_some_iff.mp hi).1
        omega
      obtain ⟨z, hz⟩ : ∃ z, xs[p]? = some z := ⟨xs[p], by simp [hps]⟩
      have hz1 := h3 p z (Nat.le_refl _) hz
      by_cases e0 : i = 0
      · subst e0
        exact hn hi
      · obtain ⟨g1, k1⟩ := Array.getElem?_eq_some_iff.mp hz
        obtain ⟨g2, k2⟩ := Array.getElem?_eq_some_iff.mp hi
        have := List.pairwise_iff_getElem.mp hr p (p + i) (by simpa using g1) (by simpa using g2) (by omega)
        rw [Array.getElem_toList, Array.getElem_toList, k1, k2] at this
        omega
    · omega
  · obtain ⟨i, hi⟩ := List.getElem?_of_mem hx
    have hil := (List.getElem?_eq_some_iff.mp hi).1
    rw [List.length_take] at hil
    rw [List.getElem?_take_of_lt (by omega), Array.getElem?_toList] at hi
    have hlt := h2 i x (by omega) hi
    rcases List.mem_cons.mp hy with e | hy
    · subst e
      exact hlt
    · obtain ⟨k, hk⟩ := List.getElem?_of_mem hy
      rw [List.getElem?_drop, Array.getElem?_toList] at hk
      have := h3 _ _ (Nat.le_add_right p k) hk
      omega

structure Rise (t : SetTable) : Prop where
  pl : t.place.toList.Pairwise (· < ·)
  du : t.dummies = #[]
theorem has_nil (j : Nat) : SetTable.has #[] j = false := by
  unfold SetTable.has
  simp
theorem slot_free {t : SetTable} (h : t.dummies = #[]) (j : Nat) : (t.slot j = .empty ∧ t.place[SetTable.below t.place j]? ≠ some j) ∨ ∃ i, t.slot j = .live i := by
  unfold SetTable.slot
  dsimp only
  by_cases e : t.place[SetTable.below t.place j]? = some j
  · rw [if_pos (by rw [e]; simp)]
    exact .inr ⟨_, rfl⟩
  · rw [if_neg (by simpa using e), h, has_nil]
    exact .inl ⟨rfl, e⟩
theorem probe_free {t : SetTable} (h : t.dummies = #[]) {f : Nat → Int} {x : Int} (hf : ∀ i, (f i == x) = false) : ∀ (fuel : Nat) (p : SetTable.Probe) (j : Nat) (d : Option Nat), p.dummy = none → SetTable.probe.go t f x fuel p = some (.empty j d) → d = none ∧ t.place[SetTable.below t.place j]? ≠ some j
  | 0, p, j, d, _, e => by simp [SetTable.probe.go] at e
  | fuel + 1, p, j, d, hd, e => by
    rw [SetTable.probe.go] at e
    rcases slot_free h p.j with ⟨e1, e2⟩ | ⟨i, e1⟩
    · rw [e1] at e
      dsimp only at e
      cases e
      exact ⟨hd, e2⟩
    · rw [e1] at e
      dsimp only at e
      rw [hf i] at e
      simp only [Bool.false_eq_true, if_false] at e
      refine probe_free h hf fuel _ j d ?_ e
      unfold SetTable.advance
      split
      · exact hd
      · exact hd
theorem freeSlot_ok {t : SetTable} (h : t.dummies = #[]) {x : Int} {j : Nat} {d : Bool} (e : t.freeSlot x = some (j, d)) : t.place[SetTable.below t.place j]? ≠ some j := by
  unfold SetTable.freeSlot at e
  split at e
  · rename_i j' dm hp
    obtain ⟨e1, e2⟩ := probe_free h (f := fun _ => x + 1) (x := x) (fun i => by rw [beq_eq_false_iff_ne]; omega) _ _ _ _ rfl hp
    subst e1
    cases e
    exact e2
  · cases e
theorem standIn_rise (t : SetTable) (n : Nat) : Rise (t.standIn n) := by
  refine ⟨?_, rfl⟩
  show (Array.range n).toList.Pairwise (· < ·)
  rw [Array.toList_range]
  exact List.pairwise_lt_range
theorem layNew_rise {t : SetTable} {es : Array (Int × Value)} {h : Int} {x : Value} (R : Rise t) : Rise (layNew t es h x).2.1 ∧ (layNew t es h x).2.1.led = t.led := by
  unfold layNew
  split
  · rename_i slot wd hf
    have hn := freeSlot_ok R.du hf
    dsimp only
    unfold SetTable.orStandIn
    split
    · refine ⟨⟨put_rise R.pl hn, ?_⟩, rfl⟩
      show (if SetTable.has t.dummies slot = true then _ else t.dummies) = #[]
      rw [R.du, has_nil]
      rfl
    · exact ⟨standIn_rise _ _, rfl⟩
  · exact ⟨standIn_rise _ _, rfl⟩
theorem laid_rise {mask fi mo : Nat} {led plain : Bool} {hs : Array Int} {t : SetTable} {o : Array Nat} (e : SetTable.laid mask fi mo led plain hs = some (t, o)) : Rise t ∧ t.led = led := by
  unfold SetTable.laid at e
  cases ho : SetTable.layClean mask hs with
  | none => rw [ho] at e; cases e
  | some owner =>
    rw [ho] at e
    cases e
    refine ⟨⟨?_, rfl⟩, rfl⟩
    show ((((List.range (mask + 1)).filterMap fun j => (owner.getD j none).map (j, ·)).map (·.1)).toArray).toList.Pairwise (· < ·)
    rw [List.map_filterMap]
    have q : ∀ l : List Nat, List.Sublist (l.filterMap fun j => ((owner.getD j none).map (j, ·)).map (·.1)) l := fun l => by
      induction l with
      | nil => exact .slnil
      | cons a l ih =>
        rw [List.filterMap_cons]
        cases hz : owner.getD a none with
        | none => exact ih.cons a
        | some v => exact ih.cons_cons a
    exact List.pairwise_lt_range.sublist (q _)
theorem relayAll_rise {t : SetTable} {es : Array (Int × Value)} {n : Nat} : Rise (relayAll t es n).2.1 ∧ (relayAll t es n).2.1.led = t.led := by
  unfold relayAll
  split
  · rename_i t' o hr
    obtain ⟨r1, r2⟩ := laid_rise hr
    dsimp only
    split
    · exact ⟨r1, r2⟩
    · exact ⟨standIn_rise _ _, rfl⟩
  · exact ⟨standIn_rise _ _, rfl⟩
end L2
namespace L2
open PySem PySem.Spec PyProof.Rows

def kvI (e : Int × Value) : Int := match e.2 with | .int k _ => k | _ => 0
section
variable {prog : Program} {w : World}
theorem intIs {k : Int} {v : Value} (h : (intKind prog w).is k v = true) : ∃ t, v = .int k t := by
  cases v with
  | int i t =>
    refine ⟨t, ?_⟩
    have : i = k := by simpa [intKind, Value.isInt] using h
    rw [this]
  | _ => simp [intKind, Value.isInt] at h
def SR (prog : Program) (w : World) (h : Heap) (a : Addr) (σ : List Int) (led : Bool) : Prop :=
  ∃ o es ep t, h.get? a = some o ∧ o.ExactSet ∧ o.data = .set es ep t ∧ ElemsOf (intKind prog w) es.toList ∧ (es.toList.map kvI).Perm σ ∧ es.size < scanBound ∧ t.fits es.size = true ∧ Rise t ∧ t.led = led
theorem elem_kv {es : List (Int × Value)} (h : ElemsOf (intKind prog w) es) (k : Int) : k ∈ es.map kvI ↔ ∃ e ∈ es, (intKind prog w).is k e.2 = true := by
  rw [List.mem_map]
  constructor
  · rintro ⟨e, he, rfl⟩
    obtain ⟨⟨k', hk, _⟩, _⟩ := h e he
    obtain ⟨t, ht⟩ := intIs hk
    refine ⟨e, he, ?_⟩
    have : kvI e = k' := by unfold kvI; rw [ht]
    rw [this]
    exact hk
  · rintro ⟨e, he, hk⟩
    obtain ⟨t, ht⟩ := intIs hk
    exact ⟨e, he, by unfold kvI; rw [ht]⟩
theorem SR.keep {h h' : Heap} {a : Addr} {σ : List Int} {led : Bool} (S : SR prog w h a σ led) (k : ∀ o, h.get? a = some o → h'.get? a = some o) : SR prog w h' a σ led := by
  obtain ⟨o, es, ep, t, ho, r⟩ := S
  exact ⟨o, es, ep, t, k o ho, r⟩
theorem SR.len {h : Heap} {a : Addr} {σ : List Int} {led : Bool} (S : SR prog w h a σ led) : σ.length < scanBound := by
  obtain ⟨o, es, ep, t, ho, hex, hd, hel, hp, hb, _⟩ := S
  rw [← hp.length_eq, List.length_map, Array.length_toList]
  exact hb
variable {A : Around} {E : Value → Shared → Prop} {s : Shared}
theorem SR_store {h : Heap} {a : Addr} {o : Obj} {es : Array (Int × Value)} {ep : Nat} {t : SetTable} (ho : h.get? a = some o) (hex : o.ExactSet) (hd : o.data = .set es ep t)
    {es' : Array (Int × Value)} {t' : SetTable} {σ : List Int} {led : Bool} (hel : ElemsOf (intKind prog w) es'.toList) (hp : (es'.toList.map kvI).Perm σ) (hb : es'.size < scanBound) (hf : t'.fits es'.size = true) (R : Rise t') (hl : t'.led = led) :
    (h.update a (Obj.putSet es' t')).get? a = some { o with data := .set es' (ep + 1) t' } ∧ SR prog w (h.update a (Obj.putSet es' t')) a σ led := by
  have hg : (h.update a (Obj.putSet es' t')).get? a = some { o with data := .set es' (ep + 1) t' } := by
    have := Heap.get?_update_self (Obj.putSet es' t') ho (by rw [putSet_of es' t' hd]; rfl)
    rw [putSet_of es' t' hd] at this
    exact this
  exact ⟨hg, _, es', ep + 1, t', hg, hex, rfl, hel, hp, hb, hf, R, hl⟩
theorem sr_tail {g : Bool → Sem Unit} (hg : ∀ (b : Bool) (s₁ : Shared) (Q' : Unit → Shared → Prop), Q' () s₁ → wpAny (model prog w) A (g b) Q' E s₁)
    {a : Addr} {o : Obj} {es : Array (Int × Value)} {ep : Nat} {t : SetTable} (ho : s.heap.get? a = some o) (hex : o.ExactSet) (hd : o.data = .set es ep t)
    {es1 : Array (Int × Value)} {t2 : SetTable} {σ : List Int} {led : Bool} (hel1 : ElemsOf (intKind prog w) es1.toList) (hp1 : (es1.toList.map kvI).Perm σ)
    (hb1 : es1.size < scanBound) (hf2 : t2.fits es1.size = true) (R2 : Rise t2) (hl2 : t2.led = led) {wasDummy : Bool} {R : Option Bool → Shared → Prop}
    (h : ∀ h', Heap.SameBut a s.heap h' → SR prog w h' a σ led → R (some true) { s with heap := h' }) :
    wpAny (model prog w) A (do
        storeSet a es1 t2
        if (!wasDummy && t2.tooFull) = true then do
            g (relayAll t2 es1 (SetTable.grown es1.size)).2.2
            storeSet a (relayAll t2 es1 (SetTable.grown es1.size)).1 (relayAll t2 es1 (SetTable.grown es1.size)).2.1
            pure (some true)
          else pure (some true)) R E s := by
  refine wpAny_bind (wpAny_storeSet_of ho hd ?_ (fits_of_scanBound hb1))
  obtain ⟨ho1, hS1⟩ := SR_store (prog := prog) (w := w) ho hex hd hel1 hp1 hb1 hf2 R2 hl2
  have hsb1 := Heap.SameBut.update s.heap a (Obj.putSet es1 t2)
  split
  · have hp := relayAll_perm t2 es1 (SetTable.grown es1.size)
    have hfr := relayAll_fits t2 es1 (SetTable.grown es1.size)
    have hri := relayAll_rise (t := t2) (es := es1) (n := SetTable.grown es1.size)
    generalize hRl : relayAll t2 es1 (SetTable.grown es1.size) = Rl at hp hfr hri ⊢
    obtain ⟨es2, t3, gave2⟩ := Rl
    dsimp only at hp hfr hri ⊢
    have hsz : es2.size = es1.size := by rw [← Array.length_toList, hp.length_eq, Array.length_toList]
    have hb2 : es2.size < scanBound := by rw [hsz]; exact hb1
    refine wpAny_bind (hg _ _ _ ?_)
    refine wpAny_bind (wpAny_storeSet_of ho1 rfl ?_ (fits_of_scanBound hb2))
    obtain ⟨_, hS2⟩ := SR_store (prog := prog) (w := w) ho1 hex rfl (hel1.perm hp) ((hp.map kvI).trans hp1) hb2 hfr hri.1 (hri.2.trans hl2)
    exact wpAny_pure (h _ (hsb1.trans (Heap.SameBut.update _ a _)) hS2)
  · exact wpAny_pure (h _ hsb1 hS1)
theorem sr_add {a : Addr} {σ : List Int} {led : Bool} {k : Int} {tk : Tok} {Q : Bool → Shared → Prop} (hS : SR prog w s.heap a σ led) (hroom : σ.length + 1 < scanBound)
    (h : ∀ h' b, Heap.SameBut a s.heap h' → SR prog w h' a (step_dedup σ k) led → Q b { s with heap := h' }) :
    wpAny (model prog w) A (setAddHashed a (.int k tk) ((intKind prog w).hash k)) Q E s := by
  obtain ⟨o, es, ep, t, ho, hex, hd, hel, hp, hb, hf, R, hl⟩ := hS
  have hkey : (intKind prog w).is k (.int k tk) = true := intKind_is _ _ _ _
  have hsc : (Value.int k tk).scannable = true := rfl
  have hn : es.size = σ.length := by rw [← hp.length_eq, List.length_map, Array.length_toList]
  have hb1 : es.size + 1 < scanBound := by rw [hn]; exact hroom
  have hmem : ∀ k', σ.any (· == k') = true ↔ ∃ e ∈ es.toList, (intKind prog w).is k' e.2 = true := fun k' => by
    rw [← elem_kv hel, hp.mem_iff, List.any_eq_true]
    exact ⟨fun ⟨x, hx, e⟩ => by rw [beq_iff_eq] at e; rw [← e]; exact hx, fun hx => ⟨k', hx, by simp⟩⟩
  unfold setAddHashed setAddHashedIn
  refine wpAny_holding (wpAny_bind (wpAny_setState_of ho hd hf ?_))
  dsimp only
  rw [byScan_of hsc hb hel]
  simp only [↓reduceIte]
  unfold setAddByScan
  refine wpAny_bind ?_
  refine wpAny_bind (wpAny_rule ?_)
  refine wpAny_bind (wpAny_setScan_of hkey ho hd hf hel ?_)
  cases hr : List.findIdx? (fun e => (intKind prog w).is k e.2) es.toList with
  | some j =>
    dsimp only
    obtain ⟨hj, hpj, _⟩ := List.findIdx?_eq_some_iff_getElem.mp hr
    have hSk : σ.any (· == k) = true := (hmem k).mpr ⟨es.toList[j], List.getElem_mem hj, hpj⟩
    refine wpAny_pure (wpAny_pure ?_)
    have e : s = { s with heap := s.heap } := by cases s; rfl
    have := h s.heap false (Heap.SameBut.refl a s.heap) ⟨o, es, ep, t, ho, hex, hd, hel, by unfold step_dedup; rw [if_pos hSk]; exact hp, hb, hf, R, hl⟩
    rw [e]
    exact this
  | none =>
    dsimp only
    have hSk : ¬ σ.any (· == k) = true := fun hk => by
      obtain ⟨e, he, hpe⟩ := (hmem k).mp hk
      have := List.findIdx?_eq_none_iff.mp hr e he
      rw [hpe] at this
      exact Bool.noConfusion this
    have hgw : ∀ (b : Bool) {s₁ : Shared} {Q' : Unit → Shared → Prop}, Q' () s₁ → wpAny (model prog w) A (match b with | true => rule "set.scan.the-table-gave-way" | false => pure ()) Q' E s₁ :=
      fun b s₁ Q' hq => by cases b <;> first | exact wpAny_pure hq | exact wpAny_rule hq
    have hperm := layNew_perm t es ((intKind prog w).hash k) (.int k tk)
    have hfits := layNew_fits t es ((intKind prog w).hash k) (.int k tk)
    have hrise := layNew_rise (es := es) (h := (intKind prog w).hash k) (x := .int k tk) R
    generalize hL : layNew t es ((intKind prog w).hash k) (.int k tk) = L at hperm hfits hrise ⊢
    obtain ⟨es1, t1, wasDummy, gave⟩ := L
    dsimp only at hperm hfits hrise ⊢
    rw [Array.toList_push] at hperm
    have hel1 : ElemsOf (intKind prog w) es1.toList := (hel.push hkey hsc).perm hperm
    have hp1 : (es1.toList.map kvI).Perm (step_dedup σ k) := by
      unfold step_dedup
      rw [if_neg hSk]
      refine (hperm.map kvI).trans ?_
      rw [List.map_append]
      exact hp.append_right _
    have hb1' : es1.size < scanBound := by rw [← Array.length_toList, hperm.length_eq, List.length_append, Array.length_toList]; simpa using hb1
    refine wpAny_bind (hgw _ ?_)
    split
    · refine wpAny_bind ?_
      rw [hashByValue_scannable 8 hsc]
      refine wpAny_pure ?_
      refine sr_tail ?_ ho hex hd hel1 hp1 hb1' ?_ ?_ ?_ ?_ (led := led)
      · intro b s₁ Q' hq; cases b <;> first | exact wpAny_pure hq | exact wpAny_rule hq
      · split
        · exact hfits
        · exact SetTable.fits_plain_off hfits
      · split
        · exact hrise.1
        · exact ⟨hrise.1.pl, hrise.1.du⟩
      · split
        · exact hrise.2.trans hl
        · exact hrise.2.trans hl
      · intro h' hsb hS'; dsimp only; exact wpAny_pure (h h' true hsb hS')
    · refine wpAny_bind (wpAny_pure ?_)
      simp only [↓reduceIte]
      refine sr_tail ?_ ho hex hd hel1 hp1 hb1' hfits hrise.1 (hrise.2.trans hl) ?_
      · intro b s₁ Q' hq; cases b <;> first | exact wpAny_pure hq | exact wpAny_rule hq
      · intro h' hsb hS'; dsimp only; exact wpAny_pure (h h' true hsb hS')
end
end L2
namespace L2
open PySem PySem.Spec PyProof.Rows

section
variable {prog : Program} {w : World} {A : Around} {R : Result → Shared → Prop} {I : Addr} {fp wr : List Addr} {G : Array GenState → Array GenState → Prop} {n : Nat} {P : Nat → Value → Prop} {Sx : Nat → Shared → Prop}
end
section
variable {prog : Program} {w : World} {A : Around} {E : Value → Shared → Prop} {s : Shared}
abbrev newSet (led : Bool) : Obj := { cls := .type "set", dict := none, data := .set #[] 0 (.fresh 0 0 led) }
end

section
variable {X : Cx}
end
end L2
namespace L2
open PySem PySem.Spec PyProof.Rows


structure Src (prog : Program) (w : World) (it l : Addr) (J : Nat → Heap → Prop) (C : Array Value → Heap → Prop) : Prop where
  item : ∀ (A : Around) (E : Value → Shared → Prop) (s : Shared) (k : Nat) (xs : Array Value) (x : Value) (Q : Value → Shared → Prop), J k s.heap → C xs s.heap → xs[k]? = some x → (∀ h', J (k + 1) h' → Heap.SameBut it s.heap h' → Q x { s with heap := h' }) → wpAny (model prog w) A (Builtin.SmallTypes.nextOf (.ref it)) Q E s
  stop : ∀ (A : Around) (E : Value → Shared → Prop) (s : Shared) (k : Nat) (xs : Array Value) (Q : Value → Shared → Prop), A.handled = none → J k s.heap → C xs s.heap → xs[k]? = none → (∀ h' e, Heap.ExtBut it s.heap h' → (∃ o, h'.get? e = some o ∧ o.cls = .type "StopIteration") → E (.ref e) { s with heap := h' }) → wpAny (model prog w) A (Builtin.SmallTypes.nextOf (.ref it)) Q E s
  keep : ∀ k h h', J k h → (∀ o, h.get? it = some o → h'.get? it = some o) → J k h'
  seq : ∀ xs h h', C xs h → (∀ o, h.get? l = some o → h'.get? l = some o) → C xs h'
  obj : ∀ k h, J k h → ∃ o vs, h.get? it = some o ∧ o.data = .fields vs
section
variable {prog : Program} {w : World} {A : Around} {E : Value → Shared → Prop} {s : Shared}
end
end L2
namespace L2
open PySem PySem.Spec PyProof.Rows
section
variable {prog : Program} {w : World} {A : Around} {E : Value → Shared → Prop} {s : Shared}
variable {z TI TO i1 i2 l1 l2 : Addr} {J1 J2 : Nat → Heap → Prop} {C1 C2 : Array Value → Heap → Prop} {k1 k2 : Nat} {xs ys : Array Value} {x y a b : Value}
end
section
variable {prog : Program} {w : World} {A : Around} {E : Value → Shared → Prop} {s : Shared}
end
end L2
namespace L2
open PySem PySem.Spec PyProof.Rows

def cX (t : Bool) (l : Addr) (xs : Array Value) (h : Heap) : Prop := if t = true then h.IsTuple l xs else h.IsList l xs
def tX (t : Bool) : String := if t = true then "tuple_iterator" else "list_iterator"
theorem cX_lt {t : Bool} {l : Addr} {h : Heap} {xs : Array Value} (g : cX t l xs h) : l < h.objs.size := by
  cases t
  · obtain ⟨o, g, _⟩ := (show h.IsList l xs from g); exact Heap.lt_size g
  · obtain ⟨o, g, _⟩ := (show h.IsTuple l xs from g); exact Heap.lt_size g
section
variable {X : Cx} {pins : List (Addr × Obj)} {σ : St} {H : Hp} {s : Shared} {a : Addr} {xs ys : List V} {t : Bool}
end

end L2
namespace L2
open PySem PySem.Spec PyProof.Rows

section
variable {prog : Program} {w : World} {A : Around} {R : Result → Shared → Prop} {I : Addr} {fp wr : List Addr} {G : Array GenState → Array GenState → Prop} {n : Nat} {P : Nat → Value → Prop} {Sx : Nat → Shared → Prop}
theorem sr_loop (W : WalksS prog w A.in1 I fp wr G n P Sx) (S : Addr) (nf : S ∉ fp) {led : Bool} (val : Nat → Int) (hv : ∀ i v, P i v → ∃ t, v = .int (val i) t) (hb : n + 1 < scanBound) :
    ∀ (k i : Nat) (s : Shared), n - i = k → i ≤ n → Sx i s → SR prog w s.heap S (firstMet val i) led →
      (∀ s', Moved (S :: wr) G s s' → SR prog w s'.heap S (firstMet val n) led → R (.ok (.ret .none)) s') →
      codeAny (model prog w) A (.builtin "set.update.loop" ⟨[.ref S, .ref I], []⟩) R s := by
  have nw : S ∉ wr := fun h => nf (W.sub _ h)
  have sub : ∀ b ∈ wr, b ∈ S :: wr := fun b hb => List.mem_cons_of_mem _ hb
  intro k
  induction k with
  | zero =>
    intro i s hk hi hst hS hR
    have ein : i = n := by omega
    subst ein
    refine codeAny_builtin PyProof.Rows.F.entry_set_update_loop ?_
    rw [Around.under_plainId PyProof.Rows.F.plain_set_update_loop _]
    show wpAny _ A.in1 (pyNext (.ref I) >>= _) _ _ _
    refine wpAny_bind (W.done s _ _ hst fun s' hm => ?_)
    show wpAny _ A.in1 (ret Value.none) _ _ _
    exact wpAny_pure (hR s' (hm.mono sub) (hS.keep fun o e => hm.heap S _ nw e))
  | succ k ih =>
    intro i s hk hi hst hS hR
    have hlt : i < n := by omega
    refine codeAny_builtin PyProof.Rows.F.entry_set_update_loop ?_
    rw [Around.under_plainId PyProof.Rows.F.plain_set_update_loop _]
    show wpAny _ A.in1 (pyNext (.ref I) >>= _) _ _ _
    refine wpAny_bind (W.item i s _ _ hlt hst fun v s' hP hst' hm => ?_)
    obtain ⟨t, rfl⟩ := hv i v hP
    have hS' : SR prog w s'.heap S (firstMet val i) led := hS.keep fun o e => hm.heap S _ nw e
    show wpAny _ A.in1 (holding [Value.int (val i) t] (setAdd S (.int (val i) t)) >>= _) _ _ _
    refine wpAny_bind (wpAny_holding ?_)
    unfold setAdd
    refine wpAny_holding (wpAny_bind ((intKind prog w).pyHash (k := val i) (intKind_is _ _ _ _) ?_))
    have room : (firstMet val i).length + 1 < scanBound := by have := firstMet_length_le val i; omega
    refine sr_add (s := { s' with toks := s'.toks + 1 }) hS' room fun h' b hsb hS2 => ?_
    rw [← firstMet_succ] at hS2
    refine wpAny_pure ⟨plainId_quiet PyProof.Rows.F.plain_set_update_loop _, ih (i + 1) _ (by omega) hlt (W.frame _ s' _ _ hst' (Nat.le_succ _) fun b hb o e => ?_) hS2 fun s'' hm'' hS'' => ?_⟩
    · rw [hsb.2 b (fun h : b = S => nf (by rw [← h]; exact hb))]
      exact e
    · refine hR s'' (Moved.trans W.gtrans ((hm.mono sub).then_heap (Nat.le_succ _) fun b o hb e => ?_) hm'') hS''
      rw [hsb.2 b (fun h : b = S => hb (by rw [h]; exact List.mem_cons_self))]
      exact e
end
section
variable {prog : Program} {w : World} {A : Around} {E : Value → Shared → Prop} {s : Shared}
abbrev ledOf (w : World) : Bool := !w.params.followText "set-order"
theorem code_set_led (a : Value) {Q₁ : Value → Shared → Prop} (h : Q₁ (.ref s.heap.objs.size) { s with heap := s.heap.push (newSet (ledOf w)) }) :
    codeAny (model prog w) A (.call (.builtin "set.__new__") ⟨[.type "set", a], []⟩) (wants Q₁ E) s := by
  refine codeAny_of_tree ?_
  show wpAny _ A.in1 (do checkBuiltinCall "set.__new__" ⟨[.type "set", a], []⟩; again (.builtin "set.__new__" ⟨[.type "set", a], []⟩)) _ _ s
  refine wpAny_bind (wpAny_of_eq (PySem.F.newCall_set_1 a) (wpAny_pure ⟨plainId_quiet PySem.F.plain_set_new _, codeAny_builtin PySem.F.entry_set_new ?_⟩))
  rw [Around.under_plainId PySem.F.plain_set_new _]
  unfold Builtin.«set.__new__» Builtin.Frozenset.newClass
  have hsub := sub_set_self
  obtain ⟨hp, g, d, tk, os⟩ := s
  dsimp only
  wp_walk
  refine wpAny_askSetting (wpAny_pure ?_)
  dsimp only
  simp only [newObj]
  refine wpAny_bind (wpAny_alloc (wpAny_pure ?_))
  exact wpAny_pure h

set_option maxRecDepth 100000 in
set_option maxHeartbeats 3200000 in
theorem set_seqI (t : Bool) {l : Addr} {its : Array Value} {ns : List Int} {Q : Value → Shared → Prop} (hh : A.handled = none) (hl : cX t l its s.heap) (hi : ∀ (i : Nat) (v : Value), its[i]? = some v → ∃ tk, v = .int (ns.getD i 0) tk) (hb : its.size + 1 < scanBound)
    (h : ∀ (h' : Heap) (tk : Nat), SR prog w h' s.heap.objs.size (firstMet (fun i => ns.getD i 0) its.size) (ledOf w) →
      (∀ b o, b < s.heap.objs.size → s.heap.get? b = some o → h'.get? b = some o) → Q (.ref s.heap.objs.size) { s with heap := h', toks := tk }) :
    wpAny (model prog w) A (call (.type "set") [.ref l]) Q E s := by
  obtain ⟨c, tl, hmro⟩ := PySem.F.called_set.mro
  have hmade := PySem.F.called_set.made
  have hsub := PySem.F.called_set.sub
  refine wpAny_call (codeAny_of_tree ?_)
  show wpAny _ _ (callAny (.type "set") _) _ _ s
  refine wpAny_pure ⟨Code.quiet_builtin _ (by decide +kernel), codeAny_builtin PySem.F.entry_type_call ?_⟩
  rw [Around.under_plain (weight_type_call_type "set" [.ref l] []) rfl]
  have h1 := PySem.F.called_set.notType
  have h2 := PySem.F.called_set.canCreate
  have hct := PySem.F.typeCall_set_1 (.ref l)
  repeat (any_goals (first | assumption | wp_step))
  refine codeAny_mono (code_set_led (.ref l) (E := E) (Q₁ := fun obj s₁ => obj = .ref s.heap.objs.size ∧ s₁ = { s with heap := s.heap.push (newSet (ledOf w)) }) ⟨rfl, rfl⟩) fun r s₁ hr => ?_
  cases r with
  | error e => exact hr
  | ok fl =>
    cases fl with
    | ret obj =>
      obtain ⟨rfl, rfl⟩ := hr
      generalize hled : ledOf w = led at *
      have gS : (s.heap.push (newSet led)).get? s.heap.objs.size = some (newSet led) := Heap.get?_push_size _ rfl
      have tS : Shared.TypeIs { s with heap := s.heap.push (newSet led) } (.ref s.heap.objs.size) "set" := ⟨_, gS, rfl⟩
      have hli := PySem.F.called_set.init.lookup
      have hbi := PySem.F.called_set.init.bind (.ref s.heap.objs.size)
      repeat (any_goals (first | assumption | wp_step))
      refine codeAny_mono (codeAny_call_builtin (R := wants (fun r s₂ => r = .none ∧ ∃ h' tk, s₂ = { s with heap := h', toks := tk } ∧
          SR prog w h' s.heap.objs.size (firstMet (fun i => ns.getD i 0) its.size) led ∧
          (∀ b o, b < s.heap.objs.size → s.heap.get? b = some o → h'.get? b = some o)) E) PySem.F.called_set.init.plain PySem.F.entry_set_init (check_set_init_1 tS ?_)) fun r₂ s₂ hr₂ => ?_
      · have ll : l < s.heap.objs.size := cX_lt hl
        have nI : l ≠ (s.heap.push (newSet led)).objs.size := by rw [Heap.size_push]; exact Nat.ne_of_lt (Nat.lt_succ_of_lt ll)
        have nS : s.heap.objs.size ∉ [(s.heap.push (newSet led)).objs.size, l] := by
          rw [Heap.size_push]
          simp only [List.mem_cons, List.mem_singleton, List.not_mem_nil, or_false, not_or]
          exact ⟨Nat.ne_of_lt (Nat.lt_succ_self _), Nat.ne_of_gt ll⟩
        have r0 : SR prog w (s.heap.push (newSet led)) s.heap.objs.size [] led := ⟨_, #[], 0, _, gS, ⟨rfl, rfl, rfl⟩, rfl, fun e he => by simp at he, .nil, by decide, rfl, ⟨.nil, rfl⟩, rfl⟩
        have h3 : A.in1.in1.in1.handled = none := by simp [hh]
        have last : ∀ (s' : Shared) (wr : List Addr), (∀ b ∈ wr, b = (s.heap.push (newSet led)).objs.size) → Moved (s.heap.objs.size :: wr) (fun a b => b = a) { s with heap := (s.heap.push (newSet led)).push { cls := .type (tX t), data := .fields #[.ref l, .int 0 0] } } s' → SR prog w s'.heap s.heap.objs.size (firstMet (fun i => ns.getD i 0) its.size) led →
            ∃ h' tk, s' = { s with heap := h', toks := tk } ∧ SR prog w h' s.heap.objs.size (firstMet (fun i => ns.getD i 0) its.size) led ∧ (∀ b o, b < s.heap.objs.size → s.heap.get? b = some o → h'.get? b = some o) := fun s' wr hwr hm hS' => by
          obtain ⟨h', g', d', tk', os'⟩ := s'
          have eg : g' = s.gens := hm.gens
          have ed : d' = s.drawn := hm.drawn
          have eo : os' = s.os := hm.os
          subst eg; subst ed; subst eo
          refine ⟨h', tk', rfl, hS', fun b o hb e => ?_⟩
          have n1 : b ≠ s.heap.objs.size := Nat.ne_of_lt hb
          have n2 : b ≠ (s.heap.push (newSet led)).objs.size := by rw [Heap.size_push]; exact Nat.ne_of_lt (Nat.lt_succ_of_lt hb)
          refine hm.heap b o (fun hmem => ?_) (Heap.get?_push_of_some _ (Heap.get?_push_of_some _ e))
          rcases List.mem_cons.mp hmem with z | z
          · exact n1 z
          · exact n2 (hwr b z)
        cases t with
        | false =>
          obtain ⟨ol, hol, hcl, nl, hdl⟩ := (show s.heap.IsList l its from hl)
          obtain ⟨ocls, odict, odata, oslots⟩ := ol
          simp only at hcl hdl
          subst hcl; subst hdl
          have gl : (s.heap.push (newSet led)).get? l = some { cls := .type "list", dict := odict, data := .seq its nl, slots := oslots } := Heap.get?_push_of_some _ hol
          have hsls := PySem.F.sub_list_set
          have hslf := PySem.F.sub_list_frozenset
          have hne : (Value.type "list" == Value.type "dict") = false := by decide
          have il : (s.heap.push (newSet led)).IsList l its := ⟨_, gl, rfl, nl, rfl⟩
          unfold Builtin.«set.__init__» noKeywords Builtin.Frozenset.updateFrom
          generalize hPI : pyIter = PI
          wp_walk
          subst hPI
          refine wpAny_pyIter_list il (wpAny_bind (wpAny_runValue ?_))
          refine sr_loop ((Walks.list h3 _ l nI its).toS) s.heap.objs.size nS (fun i => ns.getD i 0) hi hb (its.size - 0) 0 _ (by omega) (Nat.zero_le _) ⟨⟨_, Heap.get?_push_size _ rfl, rfl, rfl⟩, (il.push _)⟩ (r0.keep fun o e => Heap.get?_push_of_some _ e) ?_
          intro s' hm hS'
          obtain ⟨h', tk', e1, e2, e3⟩ := last s' _ (fun b hb => List.mem_singleton.mp hb) hm hS'
          subst e1
          refine wpAny_pure ?_
          show wpAny _ _ (ret Value.none) _ _ _
          exact wpAny_pure ⟨rfl, h', tk', rfl, e2, e3⟩
        | true =>
          obtain ⟨ol, hol, hcl, nl, hdl⟩ := (show s.heap.IsTuple l its from hl)
          obtain ⟨ocls, odict, odata, oslots⟩ := ol
          simp only at hcl hdl
          subst hcl; subst hdl
          have gl : (s.heap.push (newSet led)).get? l = some { cls := .type "tuple", dict := odict, data := .seq its nl, slots := oslots } := Heap.get?_push_of_some _ hol
          have hsls := PySem.F.sub_tuple_set
          have hslf := PySem.F.sub_tuple_frozenset
          have hne : (Value.type "tuple" == Value.type "dict") = false := by decide
          have il : (s.heap.push (newSet led)).IsTuple l its := ⟨_, gl, rfl, nl, rfl⟩
          unfold Builtin.«set.__init__» noKeywords Builtin.Frozenset.updateFrom
          generalize hPI : pyIter = PI
          wp_walk
          subst hPI
          refine wpAny_pyIter_tuple il (wpAny_bind (wpAny_runValue ?_))
          refine sr_loop ((Walks.tuple h3 _ l nI its).toS) s.heap.objs.size nS (fun i => ns.getD i 0) hi hb (its.size - 0) 0 _ (by omega) (Nat.zero_le _) ⟨⟨_, Heap.get?_push_size _ rfl, rfl, rfl⟩, (il.push _)⟩ (r0.keep fun o e => Heap.get?_push_of_some _ e) ?_
          intro s' hm hS'
          obtain ⟨h', tk', e1, e2, e3⟩ := last s' _ (fun b hb => List.mem_singleton.mp hb) hm hS'
          subst e1
          refine wpAny_pure ?_
          show wpAny _ _ (ret Value.none) _ _ _
          exact wpAny_pure ⟨rfl, h', tk', rfl, e2, e3⟩
      · cases r₂ with
        | error e => exact hr₂
        | ok fl₂ =>
          cases fl₂ with
          | ret r =>
            obtain ⟨rfl, h', tk, rfl, hS', hk'⟩ := hr₂
            repeat (any_goals (first | assumption | wp_step))
            exact h _ _ hS' hk'
          | _ => exact hr₂.elim
    | _ => exact hr.elim
end
end L2
namespace L2
open PySem PySem.Spec PyProof.Rows

theorem erase_perm {α : Type} : ∀ (l : List α) (i : Nat) (h : i < l.length), (l[i] :: l.eraseIdx i).Perm l
  | [], i, h => by simp at h
  | a :: l, 0, h => .refl _
  | a :: l, i + 1, h => by
    show ((a :: l)[i + 1] :: a :: l.eraseIdx i).Perm (a :: l)
    exact (List.Perm.swap _ _ _).trans ((erase_perm l i (by simpa using h)).cons a)
theorem pick_go {α : Type} (next : Nat → Nat) : ∀ (fuel k : Nat) (left : List α) (out : Array α), left.length ≤ fuel → (pickOrder.go next fuel k left out).toList.Perm (out.toList ++ left)
  | 0, k, left, out, h => by
    have : left = [] := List.length_eq_zero_iff.mp (by omega)
    subst this
    unfold pickOrder.go
    rw [List.append_nil]
  | fuel + 1, k, left, out, h => by
    unfold pickOrder.go
    cases hx : left[next k % left.length]? with
    | none =>
      dsimp only
      have h0 : left = [] := by
        cases left with
        | nil => rfl
        | cons a l =>
          have := List.getElem?_eq_none_iff.mp hx
          have := Nat.mod_lt (next k) (show 0 < (a :: l).length by simp)
          omega
      subst h0
      rw [List.append_nil]
    | some x =>
      dsimp only
      have hl := (List.getElem?_eq_some_iff.mp hx).1
      refine (pick_go next fuel (k + 1) _ _ (by rw [List.length_eraseIdx_of_lt hl]; omega)).trans ?_
      rw [Array.toList_push, List.append_assoc]
      refine List.Perm.append_left _ ?_
      have e := (List.getElem?_eq_some_iff.mp hx).2
      rw [← e]
      exact erase_perm left _ hl
theorem pick_perm {α : Type} (next : Nat → Nat) (xs : Array α) : (pickOrder next xs).toList.Perm xs.toList := by
  unfold pickOrder
  have := pick_go next xs.size 0 xs.toList #[] (by simp)
  simpa using this
section
variable {prog : Program} {w : World} {A : Around} {E : Value → Shared → Prop}
theorem wp_choose1 {src : Source} {n : Nat} {s : Shared} {Q : Nat → Shared → Prop} (hn : n ≠ 0) (h : ∀ i d, i < n → Q i { s with drawn := d }) : wpAny (model prog w) A (choose src n) Q E s := fun Γ p hΓ => by
  show Sem.wp _ Γ (.choose src n _) _ _ _ _
  rw [Sem.wp_choose]
  exact ⟨hn, h _ _ (Nat.mod_lt _ (Nat.pos_of_ne_zero hn))⟩
theorem wp_draw {α : Type} : ∀ (n : Nat) (xs : List α) (s : Shared) (Q : List α → Shared → Prop), xs.length ≤ n → (∀ ys d, ys.Perm xs → Q ys { s with drawn := d }) → wpAny (model prog w) A (drawOrder n xs) Q E s
  | 0, xs, s, Q, h, q => by
    have : xs = [] := List.length_eq_zero_iff.mp (by omega)
    subst this
    unfold drawOrder
    exact wpAny_pure (q [] s.drawn (.refl _))
  | n + 1, [], s, Q, h, q => by
    unfold drawOrder
    exact wpAny_pure (q [] s.drawn (.refl _))
  | n + 1, x :: xs, s, Q, h, q => by
    unfold drawOrder
    refine wpAny_bind (wp_choose1 (by simp) fun i d hlt => ?_)
    have ei : (x :: xs)[i]? = some (x :: xs)[i] := by simp [hlt]
    rw [ei]
    dsimp only
    refine wpAny_bind (wp_draw n ((x :: xs).eraseIdx i) _ _ (by rw [List.length_eraseIdx_of_lt hlt]; simp at h ⊢; omega) fun ys d hy => wpAny_pure ?_)
    exact q _ d ((hy.cons _).trans (erase_perm _ i hlt))
end
end L2
namespace L2
open PySem PySem.Spec PyProof.Rows
namespace SF
theorem slot_next : Slot "set_iterator" "__next__" "set_iterator.__next__" :=
  .of (owner := "set_iterator") (n := "__next__") (by rw [typeLookup_type, builtinLookup_eq_fast]; kernel_rfl) (by decide +kernel) (by decide +kernel) (by decide +kernel)
    (by first | exact .inl (by decide +kernel) | exact .inr (by decide +kernel)) (by rw [isSubtype_type]; kernel_rfl)
theorem entry_next : entryFor table "set_iterator.__next__" = some Builtin.«set_iterator.__next__» := entryFor_of_tree (by kernel_rfl)
theorem owner_si : Manifest.owners.lookup (String.ofList ['r', 'o', 't', 'a', 'r', 'e', 't', 'i', '_', 't', 'e', 's'].reverse) = some Manifest.sig_set_iterator := by kernel_rfl
theorem args_next (a : Value) : argsOk "set_iterator.__next__" ⟨[a], []⟩ := by
  unfold argsOk; rw [PySem.signature?_of (id := "set_iterator.__next__") (n := ['_', '_', 't', 'x', 'e', 'n', '_', '_']) (o := ['r', 'o', 't', 'a', 'r', 'e', 't', 'i', '_', 't', 'e', 's']) (by kernel_rfl) owner_si]; kernel_rfl
theorem entry_iter : entryFor table "set.__iter__" = some Builtin.«frozenset.__iter__» :=
  entryFor_alias (id' := "frozenset.__iter__") (by kernel_rfl) (by first | rfl | decide +kernel | (unfold String.splitOn; simp +decide [String.splitOnAux])) (by decide +kernel) (by kernel_rfl)
end SF
section
variable {prog : Program} {w : World} {A : Around} {E : Value → Shared → Prop} {s : Shared}
variable {a : Addr} {o : Obj} {es : Array (Int × Value)} {ep : Nat} {t : SetTable}
abbrev byT (w : World) : Bool := w.params.followText "set-order"
theorem wp_byText {Q : Bool → Shared → Prop} (h : Q (byT w) s) : wpAny (model prog w) A setsByText Q E s := by
  unfold setsByText
  exact wpAny_bind (wpAny_askSetting (wpAny_pure h))
theorem wp_entries (ho : s.heap.get? a = some o) (hd : o.data = .set es ep t) (hf : t.fits es.size = true) {Q : Array (Int × Value) → Shared → Prop} (h : Q es s) : wpAny (model prog w) A (setEntries a) Q E s := by
  unfold setEntries
  exact wpAny_bind (wpAny_setState_of ho hd hf (wpAny_pure h))
theorem next_text {slot given : Nat} {Q : Option (Value × Nat) → Shared → Prop} (ho : s.heap.get? a = some o) (hd : o.data = .set es ep t) (hf : t.fits es.size = true) (hb : byT w = true)
    (h : Q (((pickOrder (w.params.setOrder a ep) es)[given]?).map fun e => (e.2, slot)) s) : wpAny (model prog w) A (setNext a slot given ep) Q E s := by
  unfold setNext
  refine wpAny_bind (wpAny_setState_of ho hd hf ?_)
  dsimp only
  refine wpAny_bind (wp_byText ?_)
  rw [hb]
  simp only [bne_self_eq_false, Bool.false_eq_true, if_false, if_true]
  unfold setWalk
  refine wpAny_bind (wpAny_bind (wpAny_setState_of ho hd hf ?_))
  dsimp only
  refine wpAny_bind (wp_byText ?_)
  rw [hb]
  simp only [if_true]
  exact wpAny_bind (wpAny_askSetting (wpAny_pure (wpAny_pure h)))
theorem next_plain {slot given : Nat} {Q : Option (Value × Nat) → Shared → Prop} (ho : s.heap.get? a = some o) (hd : o.data = .set es ep t) (hf : t.fits es.size = true) (hb : byT w = false) (hn : ¬ (!t.plain && decide (es.size > 1)) = true) (hl : t.led = true)
    (h : Q (match es[SetTable.below t.place slot]?, t.place[SetTable.below t.place slot]? with | some (_, x), some j => some (x, j + 1) | _, _ => none) s) : wpAny (model prog w) A (setNext a slot given ep) Q E s := by
  unfold setNext
  refine wpAny_bind (wpAny_setState_of ho hd hf ?_)
  dsimp only
  refine wpAny_bind (wp_byText ?_)
  rw [hb]
  simp only [Bool.false_eq_true, if_false]
  refine wpAny_ite_split (fun z => absurd z hn) (fun _ => ?_)
  refine wpAny_bind ?_
  refine wpAny_ite_split (fun z => ?_) (fun _ => wpAny_pure (wpAny_pure h))
  rw [hl] at z
  exact absurd z (by simp)
theorem next_drawn {place : Nat} {x : Int × Value} {Q : Value → Shared → Prop} (ho : s.heap.get? a = some o) (hd : o.data = .set es ep t) (hf : t.fits es.size = true) (hx : es[place]? = some x) (h : Q x.2 s) : wpAny (model prog w) A (setNextDrawn a place ep) Q E s := by
  unfold setNextDrawn
  refine wpAny_bind (wpAny_setState_of ho hd hf ?_)
  dsimp only
  simp only [bne_self_eq_false, Bool.false_eq_true, if_false]
  rw [hx]
  exact wpAny_pure h
end

def slotAt (xs : Array Nat) (i : Nat) : Nat := if i = 0 then 0 else xs.getD (i - 1) 0 + 1
theorem below_slot {xs : Array Nat} (hr : xs.toList.Pairwise (· < ·)) {i : Nat} (hi : i ≤ xs.size) : SetTable.below xs (slotAt xs i) = i := by
  obtain ⟨h1, h2, h3⟩ := below_ok xs (slotAt xs i) hr
  generalize hp : SetTable.below xs (slotAt xs i) = p at *
  have lt : ∀ {k l x y : Nat}, k < l → xs[k]? = some x → xs[l]? = some y → x < y := fun {k l x y} h hx hy => by
    obtain ⟨g1, k1⟩ := Array.getElem?_eq_some_iff.mp hx
    obtain ⟨g2, k2⟩ := Array.getElem?_eq_some_iff.mp hy
    have := List.pairwise_iff_getElem.mp hr k l (by simpa using g1) (by simpa using g2) h
    rwa [Array.getElem_toList, Array.getElem_toList, k1, k2] at this
  by_cases e0 : i = 0
  · subst e0
    by_cases hp0 : p = 0
    · exact hp0
    · obtain ⟨x, hx⟩ : ∃ x, xs[0]? = some x := ⟨xs[0]'(by omega), by simp⟩
      have := h2 0 x (by omega) hx
      simp [slotAt] at this
  · obtain ⟨y, hy⟩ : ∃ y, xs[i - 1]? = some y := ⟨xs[i - 1]'(by omega), by simp⟩
    have es : slotAt xs i = y + 1 := by
      unfold slotAt
      rw [if_neg e0]
      simp [Array.getD_eq_getD_getElem?, hy]
    rw [es] at h2 h3
    by_cases hlt : p < i
    · exfalso
      obtain ⟨x, hx⟩ : ∃ x, xs[p]? = some x := ⟨xs[p]'(by omega), by simp⟩
      have q := h3 p x (Nat.le_refl _) hx
      by_cases e : p = i - 1
      · rw [e, hy] at hx
        cases hx
        omega
      · have := lt (show p < i - 1 by omega) hx hy
        omega
    · by_cases hgt : i < p
      · exfalso
        obtain ⟨x, hx⟩ : ∃ x, xs[i]? = some x := ⟨xs[i]'(by omega), by simp⟩
        have q := h2 i x hgt hx
        have := lt (show i - 1 < i by omega) hy hx
        omega
      · omega
end L2
namespace L2
open PySem PySem.Spec PyProof.Rows

abbrev siO (first : Value) (i : Nat) (a : Addr) (n ep : Nat) : Obj := { cls := .type "set_iterator", dict := none, data := .fields #[first, rawInt i, .ref a, rawInt n, rawInt ep], slots := #[] }
section
variable {prog : Program} {w : World} {A : Around} {E : Value → Shared → Prop} {s : Shared}
variable {a it : Addr} {o : Obj} {es : Array (Int × Value)} {ep i : Nat} {t : SetTable}
theorem stop_new {s : Shared} {Q : Fin → Shared → Prop} (hh : A.handled = none) (q : ∀ h' e, (∀ c o, s.heap.get? c = some o → h'.get? c = some o) → (∃ o, h'.get? e = some o ∧ o.cls = .type "StopIteration") → E (.ref e) { s with heap := h' }) :
    wpAny (model prog w) A (newExc (.type "StopIteration") [] >>= fun e => raiseNew e) Q E s := by
  refine wpAny_bind ?_
  simp only [newExc, newTuple]
  refine wpAny_bind (wpAny_newObj_type (by skip; refine wpAny_bind (m := firstArgMember _ _) (wpAny_of_eq (a := Value.none) (by first | rfl | (simp only [firstArgMember]; rfl)) ?_); refine wpAny_newObj_type ?_ (by size_fits); simp only [raiseNew]; refine wpAny_bind (wpAny_handled ?_); rw [hh]; first | exact wpAny_throw (q _ _ (fun c o e => Heap.get?_push_of_some _ (Heap.get?_push_of_some _ e)) ⟨_, Heap.get?_push_size _ rfl, rfl⟩) | exact wpAny_bind (wpAny_pure (wpAny_throw (q _ _ (fun c o e => Heap.get?_push_of_some _ (Heap.get?_push_of_some _ e)) ⟨_, Heap.get?_push_size _ rfl, rfl⟩)))) (by size_fits))
theorem si_int {sl : Nat} {r : Option (Value × Nat)} {Q : Fin → Shared → Prop} (gi : s.heap.get? it = some (siO (rawInt sl) i a es.size ep)) (ho : s.heap.get? a = some o) (hd : o.data = .set es ep t) (hf : t.fits es.size = true)
    (hr : ∀ Q', Q' r s → wpAny (model prog w) A (setNext a sl i ep) Q' E s)
    (h1 : ∀ x nx, r = some (x, nx) → ∀ h', h'.get? it = some (siO (rawInt nx) (i + 1) a es.size ep) → Heap.SameBut it s.heap h' → Q (.done (.ret x)) { s with heap := h' })
    (h2 : r = none → ∀ h', Heap.SameBut it s.heap h' → wpAny (model prog w) A (newExc (.type "StopIteration") [] >>= fun e => raiseNew e) Q E { s with heap := h' }) :
    wpAny (model prog w) A (Builtin.«set_iterator.__next__» ⟨[.ref it], []⟩) Q E s := by
  show wpAny _ _ (fieldsOf (.ref it) >>= _) _ _ s
  refine wpAny_bind (wpAny_fieldsOf gi rfl ?_)
  show wpAny _ _ (setEntries a >>= _) _ _ s
  refine wpAny_bind (wp_entries ho hd hf ?_)
  show wpAny _ _ (if (((es.size : Nat) : Int) != ((es.size : Nat) : Int)) = true then _ else _) _ _ s
  rw [if_neg (by simp)]
  show wpAny _ _ (setNext a (((sl : Nat) : Int).toNat) (((i : Nat) : Int).toNat) (((ep : Nat) : Int).toNat) >>= _) _ _ s
  rw [Int.toNat_natCast, Int.toNat_natCast, Int.toNat_natCast]
  refine wpAny_bind (hr _ ?_)
  cases r with
  | some p =>
    obtain ⟨x, nx⟩ := p
    show wpAny _ _ (setField (.ref it) 0 (rawInt nx) >>= _) _ _ s
    refine wpAny_bind (wpAny_setField_rec gi (by simp) fun hA zA sA => ?_)
    replace zA : hA.get? it = some (siO (rawInt nx) i a es.size ep) := zA
    show wpAny _ _ (setField (.ref it) 1 (rawInt (((i : Nat) : Int) + 1)) >>= _) _ _ _
    refine wpAny_bind (wpAny_setField_rec zA (by simp) fun hB zB sB => ?_)
    replace zB : hB.get? it = some (siO (rawInt nx) (i + 1) a es.size ep) := zB
    exact wpAny_pure (h1 x nx rfl hB zB (sA.trans sB))
  | none =>
    show wpAny _ _ (setField (.ref it) 2 .none >>= _) _ _ s
    exact wpAny_bind (wpAny_setField_rec gi (by simp) fun hA zA sA => h2 rfl hA sA)
theorem si_ref {T : Addr} {ps : Array Value} {Q : Fin → Shared → Prop} (gi : s.heap.get? it = some (siO (.ref T) i a es.size ep)) (hT : s.heap.IsTuple T ps) (ho : s.heap.get? a = some o) (hd : o.data = .set es ep t) (hf : t.fits es.size = true)
    (h1 : ∀ v, ps[i]? = some v → ∃ (pl : Nat) (x : Int × Value), v = rawInt pl ∧ es[pl]? = some x ∧ ∀ h', h'.get? it = some (siO (.ref T) (i + 1) a es.size ep) → Heap.SameBut it s.heap h' → Q (.done (.ret x.2)) { s with heap := h' })
    (h2 : ps[i]? = none → ∀ h', Heap.SameBut it s.heap h' → wpAny (model prog w) A (newExc (.type "StopIteration") [] >>= fun e => raiseNew e) Q E { s with heap := h' }) :
    wpAny (model prog w) A (Builtin.«set_iterator.__next__» ⟨[.ref it], []⟩) Q E s := by
  obtain ⟨oT, gT, _, nT, dT⟩ := hT
  show wpAny _ _ (fieldsOf (.ref it) >>= _) _ _ s
  refine wpAny_bind (wpAny_fieldsOf gi rfl ?_)
  show wpAny _ _ (setEntries a >>= _) _ _ s
  refine wpAny_bind (wp_entries ho hd hf ?_)
  show wpAny _ _ (if (((es.size : Nat) : Int) != ((es.size : Nat) : Int)) = true then _ else _) _ _ s
  rw [if_neg (by simp)]
  show wpAny _ _ (seqItems? (.ref T) >>= _) _ _ s
  refine wpAny_bind (wpAny_seqItems gT dT ?_)
  dsimp only
  rw [Int.toNat_natCast]
  cases hp : ps[i]? with
  | some v =>
    obtain ⟨pl, x, rfl, hx, h⟩ := h1 v hp
    show wpAny _ _ (setNextDrawn a (((pl : Nat) : Int).toNat) (((ep : Nat) : Int).toNat) >>= _) _ _ s
    rw [Int.toNat_natCast, Int.toNat_natCast]
    refine wpAny_bind (next_drawn ho hd hf hx ?_)
    show wpAny _ _ (setField (.ref it) 1 (rawInt (((i : Nat) : Int) + 1)) >>= _) _ _ _
    refine wpAny_bind (wpAny_setField_rec gi (by simp) fun hB zB sB => ?_)
    replace zB : hB.get? it = some (siO (.ref T) (i + 1) a es.size ep) := zB
    exact wpAny_pure (h hB zB sB)
  | none =>
    show wpAny _ _ (setField (.ref it) 0 (rawInt 0) >>= _) _ _ s
    refine wpAny_bind (wpAny_setField_rec gi (by simp) fun hA zA sA => ?_)
    show wpAny _ _ (setField (.ref it) 2 .none >>= _) _ _ _
    exact wpAny_bind (wpAny_setField_rec zA (by simp) fun hB zB sB => h2 hp hB (sA.trans sB))
end

inductive SWay (w : World) (a T : Addr) (es : Array (Int × Value)) (ep : Nat) (t : SetTable) : (Nat → Value) → (Heap → Prop) → List (Int × Value) → Prop
  | text : byT w = true → SWay w a T es ep t (fun _ => rawInt 0) (fun _ => True) (pickOrder (w.params.setOrder a ep) es).toList
  | plain : byT w = false → ¬ (!t.plain && decide (es.size > 1)) = true → t.led = true → t.place.toList.Pairwise (· < ·) → SWay w a T es ep t (fun i => rawInt (slotAt t.place i)) (fun _ => True) es.toList
  | drawn (ps : List Nat) : ps.Perm (List.range es.size) → SWay w a T es ep t (fun _ => .ref T) (fun h => h.IsTuple T (ps.map fun (p : Nat) => rawInt p).toArray) (ps.filterMap fun p => es[p]?)
theorem SWay.perm {w : World} {a T : Addr} {es : Array (Int × Value)} {ep : Nat} {t : SetTable} {f : Nat → Value} {tc : Heap → Prop} {ord : List (Int × Value)} (W : SWay w a T es ep t f tc ord) : ord.Perm es.toList := by
  cases W with
  | text _ => exact pick_perm _ _
  | plain _ _ _ _ => exact .refl _
  | drawn ps hp => exact (hp.filterMap _).trans (by rw [filterMap_getElem?_range])
theorem fm_map {es : Array (Int × Value)} : ∀ ps : List Nat, (∀ p ∈ ps, p < es.size) → ps.filterMap (fun p => es[p]?) = ps.map fun p => es.getD p default
  | [], _ => rfl
  | p :: ps, h => by
    have hp := h p List.mem_cons_self
    rw [List.filterMap_cons, List.map_cons, fm_map ps fun q hq => h q (List.mem_cons_of_mem _ hq)]
    simp [Array.getD_eq_getD_getElem?, hp]
namespace SF
theorem slot_iter : Slot "set_iterator" "__iter__" "set_iterator.__iter__" :=
  .of (owner := "set_iterator") (n := "__iter__") (by rw [typeLookup_type, builtinLookup_eq_fast]; kernel_rfl) (by decide +kernel) (by decide +kernel) (by decide +kernel)
    (by first | exact .inl (by decide +kernel) | exact .inr (by decide +kernel)) (by rw [isSubtype_type]; kernel_rfl)
theorem entry_self : entryFor table "set_iterator.__iter__" = some Builtin.«dict_keyiterator.__iter__» :=
  entryFor_alias (id' := "dict_keyiterator.__iter__") (by kernel_rfl) (by first | rfl | decide +kernel | (unfold String.splitOn; simp +decide [String.splitOnAux])) (by decide +kernel) (by kernel_rfl)
theorem args_iter (a : Value) : argsOk "set_iterator.__iter__" ⟨[a], []⟩ := by
  unfold argsOk; rw [PySem.signature?_of (id := "set_iterator.__iter__") (n := ['_', '_', 'r', 'e', 't', 'i', '_', '_']) (o := ['r', 'o', 't', 'a', 'r', 'e', 't', 'i', '_', 't', 'e', 's']) (by kernel_rfl) owner_si]; kernel_rfl
end SF
section
variable {prog : Program} {w : World} {A : Around} {a it T : Addr} {es : Array (Int × Value)} {ep : Nat} {t : SetTable} {f : Nat → Value} {tc : Heap → Prop} {ord : List (Int × Value)}
theorem si_walk (hh : A.handled = none) (hit : it ≠ a) (hiT : it ≠ T) (hf : t.fits es.size = true) (W : SWay w a T es ep t f tc ord) :
    WalksS prog w A it [it, a, T] [it] (fun x y => y = x) ord.length (fun i v => ∃ e, ord[i]? = some e ∧ v = e.2) (fun i s => s.heap.get? it = some (siO (f i) i a es.size ep) ∧ (∃ o, s.heap.get? a = some o ∧ o.data = .set es ep t) ∧ tc s.heap) where
  sub := fun b hb => by simp at hb; simp [hb]
  grefl := fun _ => rfl
  gtrans := fun _ _ _ h1 h2 => h2.trans h1
  frame := fun i s h' tk st _ hk => by
    obtain ⟨g1, ⟨o, g2, g3⟩, g4⟩ := st
    refine ⟨hk it (by simp) _ g1, ⟨o, hk a (by simp) _ g2, g3⟩, ?_⟩
    cases W with
    | text _ => trivial
    | plain _ _ _ _ => trivial
    | drawn ps hp =>
      obtain ⟨o', k1, k2⟩ := g4
      exact ⟨o', hk T (by simp) _ k1, k2⟩
  item := fun i s Q E hi st hQ => by
    obtain ⟨g1, ⟨o, g2, g3⟩, g4⟩ := st
    have tI : s.TypeIs (.ref it) "set_iterator" := ⟨_, g1, rfl⟩
    obtain ⟨e, he⟩ : ∃ e, ord[i]? = some e := ⟨ord[i], by simp [hi]⟩
    unfold pyNext
    refine wpAny_bind (wpAny_attempt (wpAny_callSpecial?_slot (name := Str.ofString "__next__") tI SF.slot_next (wpAny_call_entry SF.slot_next tI SF.entry_next ?_ (SF.args_next _))))
    have fin : ∀ h', h'.get? it = some (siO (f (i + 1)) (i + 1) a es.size ep) → Heap.SameBut it s.heap h' → Q (some e.2) { s with heap := h' } := fun h' z sb => by
      refine hQ e.2 _ ⟨e, he, rfl⟩ ⟨z, ⟨o, sb.extBut _ _ (Ne.symm hit) g2, g3⟩, ?_⟩ ⟨fun b o hb q => sb.extBut _ _ (by simpa using hb) q, rfl, rfl, rfl, Nat.le_refl _⟩
      cases W with
      | text _ => trivial
      | plain _ _ _ _ => trivial
      | drawn ps hp =>
        obtain ⟨o', k1, k2⟩ := g4
        exact ⟨o', sb.extBut _ _ (Ne.symm hiT) k1, k2⟩
    cases W with
    | text hb =>
      rw [Array.getElem?_toList] at he
      refine si_int g1 g2 g3 hf (fun Q' q => next_text g2 g3 hf hb q) (fun x nx er h' z sb => ?_) (fun er => ?_)
      · rw [he] at er
        cases er
        exact ⟨_, rfl, wpAny_pure (fin h' z sb)⟩
      · rw [he] at er
        cases er
    | plain hb hn hl hr =>
      have hsz : t.place.size = es.size := by
        simp only [SetTable.fits, Bool.and_eq_true, beq_iff_eq] at hf
        exact hf.1
      have hi' : i < es.size := by simpa using hi
      rw [Array.getElem?_toList] at he
      have hpl : t.place[i]? = some (t.place.getD i 0) := by simp [Array.getD_eq_getD_getElem?, hsz, hi']
      have hbs := below_slot hr (show i ≤ t.place.size by omega)
      refine si_int g1 g2 g3 hf (fun Q' q => next_plain g2 g3 hf hb hn hl q) (fun x nx er h' z sb => ?_) (fun er => ?_)
      rotate_left
      · rw [hbs, he, hpl] at er
        cases er
      rw [hbs, he, hpl] at er
      cases er
      refine ⟨_, rfl, wpAny_pure (fin h' ?_ sb)⟩
      have : slotAt t.place (i + 1) = t.place.getD i 0 + 1 := by
        unfold slotAt
        rw [if_neg (by omega)]
        rfl
      show h'.get? it = some (siO (rawInt (slotAt t.place (i + 1))) (i + 1) a es.size ep)
      rw [this]
      exact z
    | drawn ps hp =>
      have hin : ∀ p ∈ ps, p < es.size := fun p h => by simpa using hp.mem_iff.mp h
      have hall : ps.filterMap (fun p => es[p]?) = ps.map fun p => es.getD p default := fm_map ps hin
      rw [hall, List.getElem?_map] at he
      cases hpi : ps[i]? with
      | none => rw [hpi] at he; cases he
      | some p =>
        rw [hpi] at he
        cases he
        have hpl := hin p (List.mem_of_getElem? hpi)
        have e1 : ((ps.map fun (p : Nat) => rawInt p).toArray)[i]? = some (rawInt p) := by simp [hpi]
        refine si_ref g1 g4 g2 g3 hf (fun v hv => ?_) (fun hv => ?_)
        · rw [e1] at hv
          cases hv
          exact ⟨p, es.getD p default, rfl, by simp [Array.getD_eq_getD_getElem?, hpl], fun h' z sb => ⟨_, rfl, wpAny_pure (fin h' z sb)⟩⟩
        · rw [e1] at hv
          cases hv
  done := fun s Q E st hQ => by
    obtain ⟨g1, ⟨o, g2, g3⟩, g4⟩ := st
    have tI : s.TypeIs (.ref it) "set_iterator" := ⟨_, g1, rfl⟩
    have hlen : ord.length = es.size := by rw [W.perm.length_eq, Array.length_toList]
    unfold pyNext
    refine wpAny_bind (wpAny_attempt (wpAny_callSpecial?_slot (name := Str.ofString "__next__") tI SF.slot_next (wpAny_call_entry SF.slot_next tI SF.entry_next ?_ (SF.args_next _))))
    have fin : ∀ (A' : Around) (Q' : Fin → Shared → Prop) (E' : Value → Shared → Prop) (h' : Heap), A'.handled = none → Heap.SameBut it s.heap h' → (∀ h'' e, (∀ c o, c ≠ it → s.heap.get? c = some o → h''.get? c = some o) → (∃ o, h''.get? e = some o ∧ o.cls = .type "StopIteration") → E' (.ref e) { s with heap := h'' }) →
        wpAny (model prog w) A' (newExc (.type "StopIteration") [] >>= fun e => raiseNew e) Q' E' { s with heap := h' } := fun A' Q' E' h' ha sb q => stop_new ha fun h'' e k he => q h'' e (fun c o hc z => k c o (sb.extBut _ _ hc z)) he
    have last : ∀ h'' e, (∀ c o, c ≠ it → s.heap.get? c = some o → h''.get? c = some o) → (∃ o, h''.get? e = some o ∧ o.cls = .type "StopIteration") →
        wpAny (model prog w) A (isInstance (.ref e) (.type "StopIteration") >>= fun b => if b = true then pure none else throw (.ref e)) Q E { s with heap := h'' } := fun h'' e k he => by
      obtain ⟨o, ho, hc⟩ := he
      exact wpAny_bind (wpAny_isInstance (T := "StopIteration") (b := true) ⟨o, ho, hc⟩ isSubtype_stop (wpAny_pure (hQ _ ⟨fun b o hb q => k b o (by simpa using hb) q, rfl, rfl, rfl, Nat.le_refl _⟩)))
    cases W with
    | text hb =>
      have e1 : (pickOrder (w.params.setOrder a ep) es)[(pickOrder (w.params.setOrder a ep) es).toList.length]? = none := by simp
      refine si_int g1 g2 g3 hf (fun Q' q => next_text g2 g3 hf hb q) (fun x nx er => ?_) (fun _ h' sb => fin _ _ _ h' hh sb last)
      rw [e1] at er
      cases er
    | plain hb hn hl hr =>
      have hsz : t.place.size = es.size := by
        simp only [SetTable.fits, Bool.and_eq_true, beq_iff_eq] at hf
        exact hf.1
      have hbs := below_slot hr (show es.toList.length ≤ t.place.size by rw [Array.length_toList]; omega)
      have e1 : es[es.toList.length]? = none := by simp
      refine si_int g1 g2 g3 hf (fun Q' q => next_plain g2 g3 hf hb hn hl q) (fun x nx er => ?_) (fun _ h' sb => fin _ _ _ h' hh sb last)
      rw [hbs, e1] at er
      cases er
    | drawn ps hp =>
      have hpl : ps.length = es.size := by rw [hp.length_eq, List.length_range]
      have e1 : ((ps.map fun (p : Nat) => rawInt p).toArray)[(ps.filterMap fun p => es[p]?).length]? = none := by rw [hlen]; simp [hpl]
      refine si_ref g1 g4 g2 g3 hf (fun v hv => ?_) (fun _ h' sb => fin _ _ _ h' hh sb last)
      rw [e1] at hv
      cases hv
  self := fun i s Q E st h => by
    obtain ⟨g1, _, _⟩ := st
    have tI : s.TypeIs (.ref it) "set_iterator" := ⟨_, g1, rfl⟩
    refine wpAny_pyIter_slot tI SF.slot_iter (wpAny_call_entry SF.slot_iter tI SF.entry_self ?_ (SF.args_iter _))
    show wpAny _ _ (ret (.ref it)) _ _ s
    exact wpAny_pure ⟨_, rfl, "set_iterator", _, tI, SF.slot_next.lookup, h⟩
end
end L2
namespace L2
open PySem PySem.Spec PyProof.Rows
section
variable {prog : Program} {w : World} {A : Around} {E : Value → Shared → Prop} {s : Shared} {a : Addr} {σ : List Int}
theorem iter_set {Q : Value → Shared → Prop} (S : SR prog w s.heap a σ (ledOf w))
    (h : ∀ (h' : Heap) (d : Drawn) (it T : Addr) (es : Array (Int × Value)) (ep : Nat) (t : SetTable) (f : Nat → Value) (tc : Heap → Prop) (ord : List (Int × Value)), s.heap.objs.size ≤ it → (T = a ∨ s.heap.objs.size ≤ T) → it ≠ T → (∀ b o, s.heap.get? b = some o → h'.get? b = some o) →
      h'.get? it = some (siO (f 0) 0 a es.size ep) → (∃ o, h'.get? a = some o ∧ o.data = .set es ep t) → tc h' → SWay w a T es ep t f tc ord → t.fits es.size = true → ElemsOf (intKind prog w) es.toList → (es.toList.map kvI).Perm σ → Q (.ref it) { s with heap := h', drawn := d }) :
    wpAny (model prog w) A (pyIter (.ref a)) Q E s := by
  obtain ⟨o, es, ep, t, ho, hex, hd, hel, hp, hb, hf, R, hl⟩ := S
  have tS : s.TypeIs (.ref a) "set" := ⟨o, ho, hex.1⟩
  have alt : a < s.heap.objs.size := Heap.lt_size ho
  refine wpAny_pyIter_slot tS PySem.F.slot_set_iter (wpAny_call_entry PySem.F.slot_set_iter tS SF.entry_iter ?_ (PySem.F.args_set_iter_1 _))
  show wpAny _ _ (Builtin.Frozenset.sizeOf a >>= _) _ _ s
  unfold Builtin.Frozenset.sizeOf
  refine wpAny_bind (wpAny_bind (wp_entries ho hd hf (wpAny_pure ?_)))
  unfold setDrawn
  refine wpAny_bind (wpAny_bind (wpAny_setState_of ho hd hf ?_))
  dsimp only
  refine wpAny_bind (wp_byText (wpAny_pure ?_))
  have last : ∀ (s1 : Shared) (first : Value) (Q' : Fin → Shared → Prop), s1.heap.get? a = some o → Q' (.done (.ret (.ref s1.heap.objs.size))) { s1 with heap := s1.heap.push (siO first 0 a es.size ep) } →
      wpAny (model prog w) A.in1 (setEpoch a >>= fun e => newFields "set_iterator" [first, rawInt 0, .ref a, rawInt es.size, rawInt e] >>= fun v => ret v) Q' (fun e s' => E e s') s1 := fun s1 first Q' g q => by
    refine wpAny_bind (wpAny_setEpoch_of g hd hf ?_)
    unfold newFields
    exact wpAny_bind (wpAny_newObj_type (wpAny_pure q) (by size_fits))
  by_cases hbt : byT w = true
  · rw [hbt]
    simp only [Bool.not_true, Bool.false_and, Bool.false_eq_true, if_false]
    refine wpAny_bind (wpAny_pure ?_)
    refine last s (rawInt 0) _ ho ⟨_, rfl, "set_iterator", _, ⟨_, Heap.get?_push_size _ rfl, rfl⟩, SF.slot_next.lookup, ?_⟩
    exact h _ s.drawn _ a es ep t (fun _ => rawInt 0) (fun _ => True) _ (Nat.le_refl _) (.inl rfl) (Nat.ne_of_gt alt) (fun b o e => Heap.get?_push_of_some _ e) (Heap.get?_push_size _ rfl) ⟨o, Heap.get?_push_of_some _ ho, hd⟩ trivial (.text hbt) hf hel hp
  · have hbf : byT w = false := by simpa using hbt
    have hld : t.led = true := by rw [hl]; show (!byT w) = true; rw [hbf]; rfl
    rw [hbf]
    simp only [Bool.not_false, Bool.true_and]
    refine wpAny_ite_split (fun hdr => ?_) (fun hdr => wpAny_bind (wpAny_pure ?_))
    · refine wpAny_bind (wp_draw _ _ _ _ (by rw [List.length_range]; exact Nat.le_refl _) fun ps d hps => ?_)
      have hpl : ps.length = es.size := by rw [hps.length_eq, List.length_range]
      refine wpAny_bind (wpAny_newTuple ?_ (by rw [List.length_map, hpl]; exact fits_of_scanBound hb))
      refine last _ (.ref s.heap.objs.size) _ (Heap.get?_push_of_some _ ho) ⟨_, rfl, "set_iterator", _, ⟨_, Heap.get?_push_size _ rfl, rfl⟩, SF.slot_next.lookup, ?_⟩
      refine h _ d _ s.heap.objs.size es ep t (fun _ => .ref s.heap.objs.size) _ _ ?_ (.inr (Nat.le_refl _)) ?_ (fun b o e => Heap.get?_push_of_some _ (Heap.get?_push_of_some _ e)) (Heap.get?_push_size _ rfl) ⟨o, Heap.get?_push_of_some _ (Heap.get?_push_of_some _ ho), hd⟩ ?_ (.drawn ps hps) hf hel hp
      · rw [Heap.size_push]
        exact Nat.le_succ _
      · rw [Heap.size_push]
        exact Nat.succ_ne_self _
      · exact ⟨_, Heap.get?_push_of_some _ (Heap.get?_push_size _ rfl), rfl, 0, rfl⟩
    · refine last s (rawInt 0) _ ho ⟨_, rfl, "set_iterator", _, ⟨_, Heap.get?_push_size _ rfl, rfl⟩, SF.slot_next.lookup, ?_⟩
      exact h _ s.drawn _ a es ep t (fun i => rawInt (slotAt t.place i)) (fun _ => True) _ (Nat.le_refl _) (.inl rfl) (Nat.ne_of_gt alt) (fun b o e => Heap.get?_push_of_some _ e) (Heap.get?_push_size _ rfl) ⟨o, Heap.get?_push_of_some _ ho, hd⟩ trivial (.plain hbf hdr hld R.pl) hf hel hp
end
end L2
namespace L2
open PySem PySem.Spec PyProof.Rows
namespace SF
theorem set_len_look : typeLookup (.type "set") "__len__" = pure (some (.builtin "set.__len__")) := PySem.F.slot_set_len.lookup
theorem split_set_len : splitId "set.__len__" = some ("set", "__len__") := by decide +kernel
theorem sub_set_set : isSubtype (.type "set") (.type "set") = pure true := by rw [isSubtype_type]; kernel_rfl
end SF
section
variable {prog : Program} {w : World} {A : Around} {E : Value → Shared → Prop} {s : Shared} {a : Addr} {σ : List Int}
theorem hint_set {Q : Bool → Shared → Prop} (tS : s.TypeIs (.ref a) "set") (h : Q false s) : wpAny (model prog w) A (Builtin.List.listLengthHint (.ref a)) Q E s := by
  unfold Builtin.List.listLengthHint
  refine wpAny_bind (wpAny_specialOf tS SF.set_len_look ?_)
  simp only [SF.split_set_len]
  refine wpAny_bind (wpAny_isInstance tS SF.sub_set_set ?_)
  simp only [Bool.not_true, Bool.false_eq_true, if_false]
  rw [if_pos (by decide +kernel)]
  exact wpAny_bind (wpAny_typeOf tS (wpAny_pure h))
theorem ints_of {es : List (Int × Value)} : ∀ {ord : List (Int × Value)}, ElemsOf (intKind prog w) es → (∀ e ∈ ord, e ∈ es) → IntsAre (ord.map (·.2)) (ord.map kvI)
  | [], _, _ => .nil
  | e :: ord, h, hs => by
    obtain ⟨⟨k, hk, _⟩, _⟩ := h e (hs e List.mem_cons_self)
    obtain ⟨t, ht⟩ := intIs hk
    have : kvI e = k := by unfold kvI; rw [ht]
    rw [List.map_cons, List.map_cons, ht, this]
    exact .cons k t (ints_of h fun x hx => hs x (List.mem_cons_of_mem _ hx))
theorem collect_set {Q : List Value → Shared → Prop} (hh : A.handled = none) (S : SR prog w s.heap a σ (ledOf w))
    (hQ : ∀ (h' : Heap) (d : Drawn) (tk : Nat) (vs : List Value) (ns : List Int), (∀ b o, s.heap.get? b = some o → h'.get? b = some o) → s.heap.objs.size ≤ h'.objs.size → IntsAre vs ns → ns.Perm σ → Q vs { s with heap := h', drawn := d, toks := tk }) :
    wpAny (model prog w) A (collect (.ref a)) Q E s := by
  have S0 := S
  obtain ⟨o0, _, _, _, ho0, hex0, _⟩ := S0
  have alt : a < s.heap.objs.size := Heap.lt_size ho0
  unfold collect
  refine wpAny_bind (wpAny_runValue (codeAny_builtin PySem.F.entry_proto_collect ?_))
  rw [Around.under_plainId PySem.F.plain_proto_collect _]
  show wpAny _ A.in1 (newList [] >>= fun l => again (.builtin "list.__iadd__" ⟨[l, .ref a], []⟩)) _ _ s
  refine wpAny_bind (wpAny_newObj_type ?_)
  refine wpAny_pure ⟨plainId_quiet PySem.F.plain_list_iadd _, codeAny_builtin PySem.F.entry_list_iadd ?_⟩
  rw [Around.under_plainId PySem.F.plain_list_iadd _]
  have keep1 : ∀ b o, s.heap.get? b = some o → (s.heap.push { cls := .type "list", data := .seq ([] : List Value).toArray }).get? b = some o := fun b o e => Heap.get?_push_of_some _ e
  have S1 : SR prog w (s.heap.push { cls := .type "list", data := .seq ([] : List Value).toArray }) a σ (ledOf w) := S.keep fun o e => keep1 _ _ e
  have tS : Shared.TypeIs { s with heap := s.heap.push { cls := .type "list", data := .seq ([] : List Value).toArray } } (.ref a) "set" := ⟨o0, keep1 _ _ ho0, hex0.1⟩
  show wpAny _ A.in1 (Builtin.List.listExtendWith (.ref s.heap.objs.size) (.ref a) (.ref s.heap.objs.size)) _ _ _
  unfold Builtin.List.listExtendWith
  refine wpAny_bind (wpAny_typeOf tS ?_)
  have h1 : Builtin.List.listSameRef (.ref s.heap.objs.size) (.ref a) = false := by simp [Builtin.List.listSameRef, Nat.ne_of_gt alt]
  have h2 : (Value.type "set" == Value.type "list") = false := by decide
  have h3 : (Value.type "set" == Value.type "tuple") = false := by decide
  simp only [h1, h2, h3, Bool.or_false, Bool.false_eq_true, if_false]
  have hS₁ : (s.heap.push { cls := .type "list", data := .seq ([] : List Value).toArray }).get? s.heap.objs.size = some { cls := .type "list", data := .seq ([] : List Value).toArray } := Heap.get?_push_size _ rfl
  have sz1 : (s.heap.push { cls := .type "list", data := .seq ([] : List Value).toArray }).objs.size = s.heap.objs.size + 1 := Heap.size_push ..
  generalize s.heap.push { cls := .type "list", data := .seq ([] : List Value).toArray } = hp at *
  refine wpAny_bind (iter_set S1 fun h' d it T es ep t f tc ord hit hT hiT keep gi ga gt W hf hel hp' => ?_)
  have hit' : s.heap.objs.size < it := by have : hp.objs.size ≤ it := hit; omega
  have hT' : s.heap.objs.size ≠ T := by
    rcases hT with e | e
    · subst e
      exact Nat.ne_of_gt alt
    · have : hp.objs.size ≤ T := e
      omega
  have hSf : s.heap.objs.size ∉ [it, a, T] := by
    simp only [List.mem_cons, List.mem_singleton, List.not_mem_nil, or_false, not_or]
    exact ⟨Nat.ne_of_lt hit', Nat.ne_of_gt alt, hT'⟩
  have hlen : ord.length = es.size := by rw [W.perm.length_eq, Array.length_toList]
  have hsz : es.size < scanBound := by
    have := S.len
    rw [← hp'.length_eq, List.length_map, Array.length_toList] at this
    exact this
  refine wpAny_bind (wpAny_holding (hint_set ⟨o0, keep _ _ (keep1 _ _ ho0), hex0.1⟩ ?_))
  rw [if_pos (by decide +kernel)]
  refine wpAny_bind (wpAny_rule ?_)
  have hS₂' := keep _ _ hS₁
  refine wpAny_bind ?_
  show wpAny _ A.in1 (updateSeq s.heap.objs.size (·.push .none) >>= fun _ => updateSeq s.heap.objs.size (·.pop)) _ _ _
  refine wpAny_bind (wpAny_updateSeq hS₂' rfl ?_)
  have hS₂ := Heap.get?_update_self (Obj.mapSeq (·.push Value.none)) hS₂' rfl
  refine wpAny_updateSeq hS₂ rfl ?_
  have hS₃ := Heap.get?_update_self (Obj.mapSeq (·.pop)) hS₂ rfl
  have oth : ∀ b o, b ≠ s.heap.objs.size → h'.get? b = some o → ((h'.update s.heap.objs.size (Obj.mapSeq (·.push Value.none))).update s.heap.objs.size (Obj.mapSeq (·.pop))).get? b = some o :=
    fun b o hb e => (Heap.get?_update_other _ _ (Ne.symm hb)).trans ((Heap.get?_update_other _ _ (Ne.symm hb)).trans e)
  have W' := si_walk (prog := prog) (A := A.in1) (by simp [hh]) (Nat.ne_of_gt (Nat.lt_trans alt hit')) hiT hf W
  obtain ⟨oa, ga1, ga2⟩ := ga
  have W0 := W'.frame 0 ({ s with heap := h', drawn := d } : Shared) _ s.toks ⟨gi, ⟨oa, ga1, ga2⟩, gt⟩ (Nat.le_refl _) fun b hb o e => oth b o (fun h => hSf (h ▸ hb)) e
  refine wpAny_pure ⟨plainId_quiet PySem.F.plain_extend_loop _, codeAny_extend_loopS W' (by rw [hlen]; exact fits_of_scanBound hsz) _ hSf _ ord.length 0 _ _ _ rfl (Nat.zero_le _) W0 hS₃ (ItemsOf.nil _) fun s' acc' c' hm hS' hacc => ?_⟩
  show wpAny _ A (load s.heap.objs.size >>= _) _ _ s'
  refine wpAny_bind (wpAny_load hS' (wpAny_pure ?_))
  obtain ⟨hh', g', d', tk', os'⟩ := s'
  have eg : g' = s.gens := hm.gens
  have ed : d' = d := hm.drawn
  have eo : os' = s.os := hm.os
  subst eg; subst ed; subst eo
  have items : acc'.toList = ord.map (·.2) := by
    apply List.ext_getElem?
    intro i
    rw [Array.getElem?_toList, List.getElem?_map]
    cases e : acc'[i]? with
    | none =>
      have : acc'.size ≤ i := by simpa using e
      rw [hacc.1] at this
      rw [List.getElem?_eq_none this]
      rfl
    | some v =>
      obtain ⟨x, hx, rfl⟩ := hacc.2 i v e
      rw [hx]
      rfl
  have old : ∀ b o, s.heap.get? b = some o → hh'.get? b = some o := fun b o e => by
    have lt := Heap.lt_size e
    refine hm.heap b o ?_ (oth b o (Nat.ne_of_lt lt) (keep _ _ (keep1 _ _ e)))
    simp only [List.mem_cons, List.mem_singleton, List.not_mem_nil, or_false, not_or]
    exact ⟨Nat.ne_of_lt lt, Nat.ne_of_lt (Nat.lt_trans lt hit')⟩
  show Q acc'.toList _
  rw [items]
  exact hQ hh' _ tk' _ _ old (Nat.le_of_lt (Heap.lt_size hS')) (ints_of hel fun e he => W.perm.mem_iff.mp he) ((W.perm.map _).trans hp')
end
end L2
namespace L2
open PySem PySem.Spec PyProof.Rows

def IS (P : Program) (w : World) (a : Addr) (σ : List Int) : HO := .ext fun h => SR P w h a σ (ledOf w)
theorem sortedHeap_at {h : Heap} {a : Addr} {vs : List Value} {n : Nat} (out : Array Value) (ho : h.get? a = some (seqObj "list" vs.toArray n)) : ∃ e, (sortedHeap h a vs out).get? a = some (seqObj "list" out e) := by
  have ha : a < h.objs.size := Heap.lt_size ho
  obtain ⟨e1, ho1⟩ : ∃ e1, (h.update a (Obj.mapSeq fun _ => #[])).get? a = some (seqObj "list" #[] e1) := ⟨_, get?_update_seq ho (fun _ => #[])⟩
  have ho6 : (((h.update a (Obj.mapSeq fun _ => #[])).push (seqObj "tuple" vs.toArray 0)).push (seqObj "list" #[] 0)).get? a = some (seqObj "list" #[] e1) := Heap.get?_push_of_some _ (Heap.get?_push_of_some _ ho1)
  exact ⟨_, get?_update_seq ho6 _⟩
theorem sortedHeap_old {h : Heap} {a b : Addr} {vs : List Value} {out : Array Value} {o : Obj} (hb : b ≠ a) (e : h.get? b = some o) : (sortedHeap h a vs out).get? b = some o := by
  unfold sortedHeap
  exact (Heap.get?_update_other _ _ (Ne.symm hb)).trans (Heap.get?_push_of_some _ (Heap.get?_push_of_some _ ((Heap.get?_update_other _ _ (Ne.symm hb)).trans e)))
section
variable {prog : Program} {w : World} {A : Around} {E : Value → Shared → Prop} {s : Shared} {a : Addr} {σ : List Int}
theorem sorted_set {Q : Value → Shared → Prop} (hh : A.handled = none) (S : SR prog w s.heap a σ (ledOf w)) (h64 : σ.length < 64)
    (h : ∀ (h' : Heap) (d : Drawn) (tk : Nat) (l : Addr) (out : Array Value) (e : Nat) (ns : List Int), (∀ b o, s.heap.get? b = some o → h'.get? b = some o) → s.heap.objs.size ≤ l → h'.get? l = some (seqObj "list" out e) → IntsAre out.toList ns → ns.Perm σ → ns.Pairwise (· ≤ ·) →
      Q (.ref l) { s with heap := h', drawn := d, toks := tk }) :
    wpAny (model prog w) A (call (.builtin "sorted") [.ref a]) Q E s := by
  refine Calls.call_function_entry kind_sorted plain_sorted entry_sorted (args_sorted1 _) ?_
  unfold Builtin.«sorted»
  refine wpAny_bind (m := checkCount "sorted" 1 1 _) (wpAny_pure ?_)
  refine wpAny_bind (collect_set (by simp [hh]) S fun h1 d tk vs ns keep hsz hI hp => ?_)
  refine wpAny_bind (wpAny_newList ?_ (by
    have := hI.length
    have := hp.length_eq
    refine Nat.le_of_lt (small1000 ?_)
    omega))
  have hoL : (h1.push (seqObj "list" vs.toArray 0)).get? h1.objs.size = some (seqObj "list" vs.toArray 0) := Heap.get?_push_size _ rfl
  show wpAny _ _ _ _ _ { s with heap := h1.push (seqObj "list" vs.toArray 0), drawn := d, toks := tk }
  have hl : vs.length < 64 := by
    have := hI.length
    have := hp.length_eq
    omega
  refine wpAny_bind (wpAny_holding (wpAny_call_entry slot_list_sort ⟨_, hoL, rfl⟩ entry_list_sort (list_sort_tree hoL hI hl fun out ns' a1 a2 a3 => ⟨_, rfl, ?_⟩) (args_list_sort _)))
  obtain ⟨e, he⟩ := sortedHeap_at out hoL
  refine wpAny_pure ⟨_, rfl, h _ d tk _ out e ns' (fun b o z => ?_) hsz he a1 (a2.trans hp) a3⟩
  exact sortedHeap_old (Nat.ne_of_lt (Nat.lt_of_lt_of_le (Heap.lt_size z) hsz)) (Heap.get?_push_of_some _ (keep b o z))
end
theorem dedup_mem (x k : Int) (σ : List Int) : k ∈ step_dedup σ x ↔ k ∈ σ ∨ k = x := by
  unfold step_dedup
  split
  · rename_i h
    constructor
    · exact .inl
    · rintro (r | rfl)
      · exact r
      · simpa using h
  · simp
theorem dedup_nodup (x : Int) {σ : List Int} (h : σ.Nodup) : (step_dedup σ x).Nodup := by
  unfold step_dedup
  split
  · exact h
  · rename_i hx
    rw [List.nodup_append]
    refine ⟨h, by simp, ?_⟩
    intro a ha b hb e
    subst e
    have : a = x := by simpa using hb
    subst this
    exact hx (by simpa using ha)
theorem met_nodup (val : Nat → Int) : ∀ i, (firstMet val i).Nodup
  | 0 => by rw [firstMet_zero]; exact .nil
  | i + 1 => by rw [firstMet_succ]; exact dedup_nodup _ (met_nodup val i)
theorem met_mem (val : Nat → Int) (k : Int) : ∀ i, k ∈ firstMet val i ↔ ∃ j, j < i ∧ val j = k
  | 0 => by rw [firstMet_zero]; simp
  | i + 1 => by
    rw [firstMet_succ, dedup_mem, met_mem val k i]
    constructor
    · rintro (⟨j, h1, h2⟩ | rfl)
      · exact ⟨j, Nat.lt_succ_of_lt h1, h2⟩
      · exact ⟨i, Nat.lt_succ_self i, rfl⟩
    · rintro ⟨j, h1, h2⟩
      rcases Nat.lt_succ_iff_lt_or_eq.mp h1 with r | r
      · exact .inl ⟨j, r, h2⟩
      · subst r
        exact .inr h2.symm
theorem met_list (ns : List Int) (k : Int) : k ∈ firstMet (fun i => ns.getD i 0) ns.length ↔ k ∈ ns := by
  rw [met_mem, List.mem_iff_getElem]
  constructor
  · rintro ⟨j, h1, h2⟩
    exact ⟨j, h1, by rw [← h2]; simp [List.getD, h1]⟩
  · rintro ⟨j, h1, h2⟩
    exact ⟨j, h1, by rw [← h2]; simp [List.getD, h1]⟩
section
variable {X : Cx}

theorem call_setR (hc : X.calm = true) {P : Program} {w : World} (hP : X.prog = P) (hw : X.w = w) : CallR X (.type "set") (fun xs H Q => ∃ (p : Addr) (ns : List Int), xs = [.ref p] ∧ (SqL X.K H p (ns.map V.int) ∨ SqT X.K H p (ns.map V.int)) ∧ ns.length ≤ 1000 ∧
    ∀ a (σ : List Int), H a = none → σ.Nodup → (∀ k, k ∈ σ ↔ k ∈ ns) → σ.length ≤ ns.length → Q (.ref a) (upd H a (IS P w a σ))) := by
  intro pins s σ H xs us Q I r h
  obtain ⟨p, ns, rfl, hq, hn, q⟩ := h
  obtain ⟨u, rfl, rx⟩ := vals1 r
  cases rx
  subst hP hw
  have go : ∀ (t : Bool) (its : List Value), Vals (ns.map V.int) its → cX t p its.toArray s.heap → wpAny (model X.prog X.w) X.A (call (.type "set") [.ref p]) (fun v s' => ∃ x H', Inv X pins σ H' s' ∧ RelV x v ∧ Q x H') X.xe s := fun t its r' pl => by
    have hlen := r'.length
    rw [List.length_map] at hlen
    refine set_seqI t (ns := ns) (I.ok.hd hc) pl (fun i v hv => ?_) (by unfold scanBound; rw [List.size_toArray]; omega) fun h' tk hS hk => ?_
    · have hv' : its[i]? = some v := by simpa using hv
      have hi : i < its.length := (List.getElem?_eq_some_iff.mp hv').1
      have en : (ns.map V.int)[i]? = some (V.int (ns.getD i 0)) := by
        rw [List.getElem?_map]
        simp [List.getD, show i < ns.length by omega]
      obtain ⟨u, eu, ru⟩ := r'.get en
      rw [hv'] at eu
      cases eu
      exact ru
    · rw [show its.toArray.size = ns.length by rw [List.size_toArray, hlen]] at hS
      refine ⟨.ref s.heap.objs.size, _, I.laid (t' := tk) (o := IS X.prog X.w s.heap.objs.size (firstMet (fun i => ns.getD i 0) ns.length)) (fun b o e => hk b o (Heap.lt_size e) e) (Nat.le_refl _) ?_, rfl, q _ _ (I.hok.fresh (Nat.le_refl _)) (met_nodup _ _) (met_list ns) (firstMet_length_le _ _)⟩
      refine ⟨hS, ?_, fun h1 h2 z k => z.keep k⟩
      obtain ⟨o, _, _, _, g, _⟩ := hS
      exact ⟨o, g⟩
  rcases hq with hq | hq
  · obtain ⟨its, r', pl, _⟩ := I.list hq
    exact go false its r' pl.isList
  · obtain ⟨its, r', pl, _⟩ := I.tuple hq
    exact go true its r' pl
theorem call_sortedS (hc : X.calm = true) {P : Program} {w : World} (hP : X.prog = P) (hw : X.w = w) : CallR X (.builtin "sorted") (fun xs H Q => ∃ (a : Addr) (σ : List Int), xs = [.ref a] ∧ H a = some (IS P w a σ) ∧ σ.length < 64 ∧ ∀ (l : Addr) (ns : List Int), H l = none → ns.Perm σ → ns.Pairwise (· ≤ ·) → Q (.ref l) (upd H l (.lst (ns.map V.int)))) := by
  intro pins s σ H xs us Q I r h
  obtain ⟨a, τ, rfl, ha, h64, q⟩ := h
  obtain ⟨u, rfl, ru⟩ := vals1 r
  cases ru
  subst hP hw
  have S : SR X.prog X.w s.heap a τ (ledOf X.w) := (show ObjOk X.prog X.w H s.heap a (IS X.prog X.w a τ) from I.hok _ _ ha).1
  refine sorted_set (I.ok.hd hc) S h64 fun h' d tk l out e ns keep hsz he a1 a2 a3 => ?_
  have hl' := a2.length_eq
  have Id : Inv X pins σ H { s with drawn := d } := ⟨I.ok, I.os, I.bare, I.base, I.loc, I.cell, I.free, I.freeC, I.pin, I.hok, I.len⟩
  refine ⟨.ref l, _, Id.laid (t' := tk) keep hsz (show ObjOk X.prog X.w _ h' _ (.lst (ns.map V.int)) from ⟨?_, out.toList, e, vals_of_ints a1, ?_⟩), rfl, q _ ns (I.hok.fresh hsz) a2 a3⟩
  · rw [List.length_map, hl']
    exact Nat.le_of_lt (small1000 (by omega))
  · rw [Array.toArray_toList]
    exact he
end
end L2
namespace HT
open PySem PySem.Spec PyProof.Rows
section
variable {prog : Program} {w : World} {A : Around} {E : Value → Shared → Prop} {s : Shared}
theorem getItem_tuple_whole {t sl : Addr} {items : Array Value} {vl vu : Value} {lo hi : Option Int} {Q : Value → Shared → Prop} (ht : IsTup s.heap t items) (hs : s.heap.IsSliceOf sl vl vu .none) (pl : IsPart vl lo) (pu : IsPart vu hi)
    (h1 : sIx items.size 0 lo = 0) (h2 : sIx items.size items.size hi = items.size) (h : Q (.ref t) s) : wpAny (model prog w) A (getItem (.ref t) (.ref sl)) Q E s := by
  obtain ⟨os, hos, hcs, hds⟩ := id hs
  have hTs : s.TypeIs (.ref sl) "slice" := ⟨os, hos, hcs⟩
  unfold getItem
  try with_reducible refine wpAny_holding ?_
  first | refine wpAny_bind (wpAny_pure ?_) | skip
  refine wpAny_bind (wpAny_sequenceKey ht.typeIs (by decide) ?_)
  refine wpAny_bind (wpAny_callSpecial?_slot (name := Str.ofString "__getitem__") ht.typeIs PyProof.Rows.slot_tuple_getitem
    (wpAny_call_entry PyProof.Rows.slot_tuple_getitem ht.typeIs entry_tuple_getitem ?_ (args_tuple_getitem _ _)))
  show wpAny _ _ (Builtin.Tuple.tupleItemsOf (.ref t) >>= _) _ _ s
  refine wpAny_bind (tupleItemsOf_ ht ?_)
  refine wpAny_bind (wpAny_typeOf hTs ?_)
  rw [if_pos (by decide)]
  refine wpAny_bind (sliceApplied_gen hs pl pu ?_)
  have hyes : (((sIx items.size 0 lo : Nat) : Int) == 0 && (1 : Int) == 1 && (sIx items.size items.size hi - sIx items.size 0 lo) == items.size) = true := by
    rw [h1, h2]
    simp
  show wpAny _ _ (if (((sIx items.size 0 lo : Nat) : Int) == 0 && (1 : Int) == 1 && (sIx items.size items.size hi - sIx items.size 0 lo) == items.size) = true then _ else _) _ _ s
  rw [if_pos hyes]
  show wpAny _ _ (Builtin.Tuple.tupleIsExact (.ref t) >>= _) _ _ s
  refine wpAny_bind (wpAny_bind (wpAny_typeOf ht.typeIs (wpAny_pure ?_)))
  rw [if_pos (by decide)]
  refine wpAny_bind (wpAny_rule (wpAny_bind (wpAny_pure (wpAny_pure ⟨_, rfl, wpAny_pure h⟩))))
end
end HT
namespace L2
open PySem PySem.Spec PyProof.Rows

def rSlA : V → Option Int → Option Int → Hp → VK → Prop := fun x lo hi H Q => ∃ a xs, x = .ref a ∧ H a = some (.tup xs) ∧ ∀ p H', Same H H' → H' p = some (.tup (cutV xs lo hi)) → Q (.ref p) H'
theorem sl_tupA {X : Cx} : SlR X rSlA := by
  intro pins s σ H x v vl vu lo hi sl Q I rx hs pl pu h
  obtain ⟨a, xs, rfl, hx, q⟩ := h
  by_cases hw : HT.sIx xs.length 0 lo = 0 ∧ HT.sIx xs.length xs.length hi = xs.length
  · cases rx
    obtain ⟨its, r, ht, hz⟩ := I.tuple (SqT.of hx)
    have hlen : its.toArray.size = xs.length := by rw [List.size_toArray]; exact r.length.symm
    refine ⟨"tuple", _, PyProof.Rows.slot_tuple_getitem.lookup, ht.typeIs, ?_⟩
    refine HT.getItem_tuple_whole ht hs pl pu (by rw [hlen]; exact hw.1) (by rw [hlen]; exact hw.2) ⟨.ref a, H, I, rfl, q a H (Same.refl H) ?_⟩
    have e : cutV xs lo hi = xs := by
      unfold cutV
      rw [hw.1, hw.2, List.drop_zero, Nat.sub_zero, List.take_length]
    rw [e]
    exact hx
  · exact sl_tup pins s σ H _ v vl vu lo hi sl Q I rx hs pl pu ⟨a, xs, rfl, SqT.of hx, hw, fun p hp => q p _ ((Same.refl H).upd_free hp) upd_same⟩
end L2
namespace L2
open PySem PySem.Spec PyProof.Rows

section
variable {X : Cx}
theorem range_any (bs : List Bool) (i : Nat) (h : i ≤ bs.length) : ((List.range bs.length).drop i).any (fun j => bs.getD j false) = (bs.drop i).any id := by
  induction k : bs.length - i generalizing i with
  | zero =>
    have e : i = bs.length := by omega
    subst e
    rw [List.drop_of_length_le (by simp), List.drop_of_length_le (Nat.le_refl _)]
    rfl
  | succ k ih =>
    have hlt : i < bs.length := by omega
    have hd : (List.range bs.length).drop i = i :: (List.range bs.length).drop (i + 1) := by
      rw [List.drop_eq_getElem_cons (by simpa using hlt)]; simp
    rw [hd, List.drop_eq_getElem_cons hlt, List.any_cons, List.any_cons, ih (i + 1) hlt (by omega)]
    simp [List.getD, hlt]
theorem truth_bs {prog : Program} {w : World} {A : Around} {bs : List Bool} {us : List Value} (rv : Vals (bs.map V.bl) us) : TruthOf prog w A (fun i v => us.toArray[i]? = some v) (fun i => bs.getD i false) := by
  intro i v s Q E hv q
  have hv' : us[i]? = some v := by simpa using hv
  have hlt : i < bs.length := by
    have := (List.getElem?_eq_some_iff.mp hv').1
    have := rv.length
    rw [List.length_map] at this
    omega
  obtain ⟨u, hu, ru⟩ := rv.get (i := i) (x := V.bl bs[i]) (by simp [hlt])
  rw [hv'] at hu
  cases hu
  cases ru
  refine wpAny_truthy_bool ?_
  have e : bs.getD i false = bs[i] := by simp [List.getD, hlt]
  have q' : Q (bs.getD i false) s := q
  rw [e] at q'
  exact q'
theorem call_anyB (hc : X.calm = true) : CallR X (.builtin "any") (fun xs H Q => ∃ (p : Addr) (bs : List Bool), xs = [.ref p] ∧ SqL X.K H p (bs.map V.bl) ∧ Q (.bl (bs.any id)) H) := by
  intro pins s σ H xs us Q I r h
  obtain ⟨p, bs, rfl, hq, q⟩ := h
  obtain ⟨u, rfl, rx⟩ := vals1 r
  cases rx
  obtain ⟨its, rv, pl, hz⟩ := I.list hq
  have hl : its.length = bs.length := by
    have := rv.length
    rw [List.length_map] at this
    exact this.symm
  obtain ⟨o, ho, _⟩ := id pl.isList
  have hp : p < s.heap.objs.size := Heap.lt_size ho
  refine call_any_walk (wpAny_pyIter_list pl.isList ?_)
  refine ⟨s.heap.objs.size, [s.heap.objs.size, p], [s.heap.objs.size], its.toArray.size, _, _, fun i => bs.getD i false, rfl, Walks.list (A := X.A.in1) (by exact I.ok.hd hc) _ p (Nat.ne_of_lt hp) its.toArray, ⟨⟨_, Heap.get?_push_size _ rfl, rfl, rfl⟩, pl.isList.at fun o e => Heap.get?_push_of_some _ e⟩, truth_bs rv, fun h' tk kk => ?_⟩
  have e := range_any bs 0 (Nat.zero_le _)
  rw [List.drop_zero, List.drop_zero] at e
  rw [List.size_toArray, hl, e]
  exact ⟨.bl _, H, I.kept (t' := tk) fun b o eo => kk b o (by simpa using Nat.ne_of_lt (Heap.lt_size eo)) (Heap.get?_push_of_some _ eo), rfl, q⟩
theorem boot_any : bootBuiltins "any" = some (.builtin "any") := by decide +kernel

structure MkN (K : PySem.W.Frag) (C : Addr) : Prop where
  makes : PySem.W.makesIn K C = true
  init : PySem.W.findIn K (.ref C) "__init__" = some (some (.builtin "object.__init__"))
  kp : PySem.W.keepIn K (.ref C) = true

end
end L2

namespace K21
open PySem L2 K20
def spMg (K : PySem.W.Frag) : Sp := fun vs H Q _ => ∃ (a : Addr) (ns : List Int) (st most : Int), vs = [.ref a, .int st, .int most] ∧ SqL K H a (ns.map V.int) ∧ 0 ≤ st ∧ st ≤ 500 ∧ 1 ≤ most ∧ most ≤ 12 ∧ ∀ (m : Addr) (many : Int) (rs : Rms) (H' : Hp), Same H H' → MAt H' m many rs → Good many rs → (rs.length : Int) ≤ most → Q (.ref m) H'
section
variable {P : Program} {w : World} {K : PySem.W.Frag} {mg : Str → Option Value} {base : Heap}

theorem scWh : FnScope ["_law_found"] ["_law_found"] (defScope sWh) := ⟨rfl, rfl, rfl, by decide +kernel, rfl, by decide +kernel, by decide +kernel⟩
theorem ok_wh {f : Addr} {fd : FuncData} (F : Fun K "_law_whole" "_law_whole" sWh f fd) (T : Txt mg) : FnOk P w K mg base CX0 1 f fd ["_law_found"] spWh := by
  refine F.ok scWh (fun vs H Q E h => ?_) (fun cdv A outer s H vs Q E hr h => ?_)
  · obtain ⟨i, rfl, _⟩ := h
    rfl
  · obtain ⟨i, rfl, k⟩ := h
    refine ⟨_, pss_one (ps_ret (pe_and (pe_callB call_isinst (by rfl) T.isin PyProof.Rows.boot_isinstance (pa_cons (pv 0) (pa_cons (pe_bltn (v := .ty "int") (by rfl) T.int PyProof.Rows.boot_int rfl) pa_nil)))
      (pe_one (pe_not (pe_callB call_isinst (by rfl) T.isin PyProof.Rows.boot_isinstance (pa_cons (pv 0) (pa_cons (pe_bltn (v := .ty "bool") (by rfl) T.bool PyProof.Rows.boot_bool rfl) pa_nil))))))), ?_⟩
    refine ⟨_, rfl, _, _, _, true, rfl, .int i, rfl, true, rfl, iteT ?_⟩
    exact ⟨_, rfl, _, _, _, false, rfl, .int i, rfl, false, rfl, k⟩

theorem scCe : FnScope ["_law_script", "_law_k"] ["_law_script", "_law_k"] (defScope sCe) := ⟨rfl, rfl, rfl, by decide +kernel, rfl, by decide +kernel, by decide +kernel⟩
theorem ok_ce {f : Addr} {fd : FuncData} (F : Fun K "_law_cell_at" "_law_cell_at" sCe f fd) (T : Txt mg) : FnOk P w K mg base CX0 1 f fd ["_law_script", "_law_k"] (spCe K) := by
  refine F.ok scCe (fun vs H Q E h => ?_) (fun cdv A outer s H vs Q E hr h => ?_)
  · obtain ⟨a, ns, k, rfl, _⟩ := h
    rfl
  · obtain ⟨a, ns, k, rfl, hS, k0, k1, kk⟩ := h
    have hu : _ < cLine := Nat.lt_of_succ_lt (hu_of hr)
    refine ⟨_, pss_cons (ps_if (pt_cmpR op_lt (pv 1) (pe_callB call_len_seq (by rfl) T.len PySem.boot_len (pa_cons (pv 0) pa_nil)) (nomark _)) (pss_one (ps_ret (pe_ix ix_list (pv 0) (pv 1) (fun _ _ => rfl)))) pss_nil)
      (pss_cons (ps_if (pt_cmpR (op_eqL hu) (pv 0) (pe_lst pa_nil) (nomark _)) (pss_one (ps_ret (pe_op op_mod (pe_op op_mul (pe_op op_add (pe_op op_mul (pv 1) (pv 1)) pe_int) pe_int) pe_int))) pss_nil)
      (pss_one (ps_ret (pe_op op_mod (pe_op op_mul (pe_op op_add (pe_op op_mod (pe_ix ix_list (pv 0) pe_int (fun _ _ => rfl)) pe_int) pe_int) (pe_op op_add (pe_op op_mul (pv 1) (pv 1)) pe_int)) pe_int)))), ?_⟩
    refine ⟨_, rfl, _, rfl, a, _, rfl, .inl hS, _, _, rfl, rfl, _, rfl, ?_⟩
    refine ite2 (fun hlt => ?_) (fun hge => ?_)
    · have hlt' : k < (ns.length : Int) := by simpa using hlt
      obtain ⟨z, ez⟩ := some_at ns k k0 hlt'
      exact ⟨_, rfl, _, rfl, a, _, _, _, rfl, rfl, hS, atI_int k0 (by rw [List.getElem?_map, ez]; rfl), kk z H (Same.refl H)⟩
    · refine ⟨_, rfl, Nat.zero_le _, fun l hl => ?_⟩
      have s1 : Same H (upd H l (.lst [])) := (Same.refl H).upd_free hl
      refine ⟨a, l, _, _, rfl, rfl, s1.seq hS, SqL.of upd_same, ints_flat ns, rfl, _, rfl, ?_⟩
      cases ns with
      | nil =>
        refine iteT ?_
        exact ⟨_, rfl, _, rfl, _, _, rfl, rfl, .inl ⟨by omega, by omega⟩, _, _, rfl, rfl, _, _, rfl, rfl, .inr ⟨by decide, by decide⟩, _, _, rfl, rfl, (by show (0 : Int) < 2147483647; decide), kk _ _ s1⟩
      | cons n0 ns =>
        refine iteF ?_
        refine ⟨_, rfl, a, _, _, .int n0, rfl, rfl, s1.seq hS, atI_int (Int.le_refl 0) rfl, _, _, rfl, rfl, (by show (0 : Int) < 2147483647; decide), _, _, rfl, rfl, _, rfl, _, rfl, _, _, rfl, rfl, .inl ⟨by omega, by omega⟩, _, _, rfl, rfl, _, _, rfl, rfl, .inl ⟨by omega, by omega⟩, _, _, rfl, rfl, (by show (0 : Int) < 2147483629; decide), kk _ _ s1⟩

theorem scMa : FnScope ["_law_script", "_law_start", "_law_most", "_law_head", "_law_many", "_law_size", "_law_rooms", "_law_k", "_law_at", "_law_nexts"] ["_law_script", "_law_start", "_law_most"] (defScope sMa) := ⟨rfl, rfl, rfl, by decide +kernel, rfl, by decide +kernel, by decide +kernel⟩
def scopeJ : Scope := { kind := .function, names := [(".0", .local), ("_law_j", .local), ("_law_cell_at", .globalImplicit), ("_law_at", .free), ("_law_script", .free), ("_law_size", .free)], isGenerator := false, isCoroutine := false, more := [] }
theorem scJ : BlkScope (defScope sMa) ["_law_script", "_law_start", "_law_most", "_law_head", "_law_many", "_law_size", "_law_rooms", "_law_k", "_law_at", "_law_nexts"] ["_law_j"] ["_law_at", "_law_script", "_law_size"] [8, 0, 5] scopeJ :=
  ⟨rfl, by decide +kernel, by decide +kernel, by decide +kernel, rfl, by decide +kernel, by decide +kernel⟩
theorem ok_ma {f fc : Addr} {fd fdc : FuncData} (F : Fun K "_law_machine" "_law_machine" sMa f fd) (T : Txt mg) (FC : Fun K "_law_cell_at" "_law_cell_at" sCe fc fdc) (bC : Binds K fdc ["_law_script", "_law_k"] []) (gC : mg "_law_cell_at" = some (.ref fc)) :
    FnOk P w K mg base CX0 2 f fd ["_law_script", "_law_start", "_law_most"] (spMg K) := by
  have GC : FnOk P w K mg base CX0 1 fc fdc ["_law_script", "_law_k"] (spCe K) := ok_ce FC T
  refine F.ok scMa (fun vs H Q E h => ?_) (fun cdv A outer s H vs Q E hr h => ?_)
  · obtain ⟨a, ns, st, most, rfl, _⟩ := h
    rfl
  · obtain ⟨a, ns, st, most, rfl, hS, st0, st1, mo0, mo1, k⟩ := h
    refine ⟨_, pss_cons (ps_set (i := 3) scMa.nd rfl (Or.inl rfl) (pe_call GC hr rfl gC FC.kp bC .nil pass0 (pa_cons (pv 0) (pa_cons (pv 1) pa_nil))))
      (pss_cons (ps_set (i := 4) scMa.nd rfl (Or.inl rfl) (pe_op op_mod (pv 3) pe_int))
      (pss_cons (ps_cut (ps_if (pt_cmpR op_eq (pe_op op_mod (pe_op op_fdiv (pv 3) pe_int) pe_int) pe_int (nomark _)) (pss_one (ps_set (i := 4) scMa.nd rfl (Or.inl rfl) pe_int)) pss_nil))
      (pss_cons (ps_cut (ps_set (i := 5) scMa.nd rfl (Or.inr rfl) (pe_op op_add pe_int (pe_op op_mod (pe_op op_fdiv (pv 3) pe_int) (pv 2)))))
      (pss_cons (ps_set (i := 6) scMa.nd rfl (Or.inl rfl) (pe_lst pa_nil))
      (pss_cons (ps_for PassesOwn.never rfl (pi_range1 rfl T.range (pa_cons (pv 5) pa_nil)) (pg_name (i := 7) scMa.nd rfl (Or.inl rfl))
        (pss_cons (ps_cut (ps_set (i := 8) scMa.nd rfl (Or.inr rfl) (pe_op op_add (pe_op op_add (pv 1) pe_int) (pe_op op_mul (pv 7) (pe_op op_add (pv 4) pe_int)))))
        (pss_cons (ps_setlc (i := 9) scJ rfl rfl rfl (pi_range1 rfl T.range (pa_cons (pv 4) pa_nil)) (fun fp C s1 H1 => pg_name (i := 0) scJ.nd rfl (Or.inl rfl)) (fun fp C s1 H1 => pts_nil)
          (fun fp C s1 H1 => pe_op op_mod (pe_call GC hr rfl gC FC.kp bC .nil pass0 (pa_cons (pv 2) (pa_cons (pe_op op_add (pe_op op_add (pv 1) pe_int) (pv 0)) pa_nil))) (pv 3)) scMa.nd rfl rfl rfl)
        (pss_one (ps_expr (pe_bm PySem.F.plainAttrs_list PySem.F.slot_list_append PySem.F.type_list_append mt_append (pv 6) (pa_cons (pe_tup (pa_cons (pe_cmpR op_eq (pe_op op_mod (pe_call GC hr rfl gC FC.kp bC .nil pass0 (pa_cons (pv 0) (pa_cons (pv 8) pa_nil))) pe_int) pe_int (nomark _))
          (pa_cons (pe_callTy call_tuple_of (by rfl) T.tuple PyProof.Rows.boot_tuple (pa_cons (pv 9) pa_nil)) pa_nil))) pa_nil)))))))
      (pss_one (ps_ret (pe_tup (pa_cons (pv 4) (pa_cons (pe_callTy call_tuple_of (by rfl) T.tuple PyProof.Rows.boot_tuple (pa_cons (pv 6) pa_nil)) pa_nil)))))))))), ?_⟩
    -- head, many
    refine ⟨_, rfl, _, rfl, a, ns, st, rfl, hS, by omega, by omega, fun hd H1 s1 => ?_⟩
    refine ⟨_, rfl, _, _, rfl, rfl, (by show (0 : Int) < 4; decide), ?_⟩
    refine ⟨fun σ' H' => ∃ many : Int, 0 ≤ many ∧ many ≤ 8 ∧ σ' = [some (.ref a), some (.int st), some (.int most), some (.int hd), some (.int many), none, none, none, none, none] ∧ H' = H1, ?_, ?_⟩
    · refine ⟨_, rfl, _, _, rfl, rfl, ⟨by decide, by decide⟩, _, _, rfl, rfl, (by show (0 : Int) < 8; decide), rfl, _, rfl, ?_⟩
      refine ite2 (fun _ => ?_) (fun _ => ?_)
      · exact ⟨8, by decide, by decide, rfl, rfl⟩
      · exact ⟨hd % 4, by omega, by omega, rfl, rfl⟩
    rintro σ' H' ⟨many, m0, m1, rfl, rfl⟩
    -- size, rooms
    refine ⟨fun σ' H2 => ∃ size : Int, 1 ≤ size ∧ size ≤ most ∧ σ' = [some (.ref a), some (.int st), some (.int most), some (.int hd), some (.int many), some (.int size), none, none, none, none] ∧ H2 = H', ?_, ?_⟩
    · refine ⟨_, rfl, _, _, rfl, rfl, ⟨by decide, by decide⟩, _, rfl, _, _, rfl, rfl, (by omega), _, _, rfl, rfl, ?_⟩
      have q0 : 0 ≤ hd / 32 % most := Int.emod_nonneg _ (by omega)
      have q1 : hd / 32 % most < most := Int.emod_lt_of_pos _ (by omega)
      exact ⟨1 + hd / 32 % most, by omega, by omega, rfl, rfl⟩
    rintro σ' H2 ⟨size, z0, z1, rfl, rfl⟩
    refine ⟨Nat.zero_le _, fun l hl => ?_⟩
    have s2 : Same H (upd H2 l (.lst [])) := s1.upd_free (s1.free hl)
    have hlH : H l = none := s1.free hl
    refine ⟨_, rfl, _, rfl, by omega, by omega, ?_⟩
    refine for_range (n := size.toNat) (fun i σ H2 => ∃ (qs : List Addr) (rs : Rms) (v7 v8 v9 : Option V), σ = [some (.ref a), some (.int st), some (.int most), some (.int hd), some (.int many), some (.int size), some (.ref l), v7, v8, v9] ∧
        Same H H2 ∧ H2 l = some (.lst (qs.map V.ref)) ∧ RowsAt H2 qs rs ∧ rs.length = i ∧ ∀ r ∈ rs, (r.2.length : Int) = many ∧ ∀ n ∈ r.2, 0 ≤ n ∧ n < size)
      ⟨[], [], none, none, none, rfl, s2, upd_same, ⟨rfl, fun i r e => by simp at e⟩, rfl, fun r hr => by simp at hr⟩ ?_ ?_
    · rintro i σ H2 hi ⟨qs, rs, v7, v8, v9, rfl, t2, hL, hR, hlen, hrow⟩
      have i1 : (i : Int) < size := by omega
      -- at
      have p0 : 0 ≤ (i : Int) * (many + 1) := Int.mul_nonneg (by omega) (by omega)
      have p1 : (i : Int) * (many + 1) ≤ 12 * 9 := Int.mul_le_mul (by omega) (by omega) (by omega) (by omega)
      have e0 : 0 + (i : Int) = (i : Int) := Int.zero_add _
      refine ⟨fun σ' H' => ∃ at' : Int, 0 ≤ at' ∧ at' ≤ 700 ∧ σ' = [some (.ref a), some (.int st), some (.int most), some (.int hd), some (.int many), some (.int size), some (.ref l), some (.int (0 + (i : Int))), some (.int at'), v9] ∧ H2 = H', ?_, ?_⟩
      · refine ⟨_, rfl, _, _, rfl, rfl, _, rfl, _, rfl, _, _, rfl, rfl, _, _, rfl, rfl, .inr ⟨by omega, by omega⟩, _, _, rfl, rfl, ?_⟩
        refine ⟨st + 1 + (0 + (i : Int)) * (many + 1), ?_, ?_, rfl, rfl⟩
        · rw [e0]; omega
        · rw [e0]; omega
      rintro σ' H' ⟨at', a0, a1, rfl, rfl⟩
      -- nexts
      refine ⟨_, rfl, _, rfl, by omega, by omega, fun D hD => ?_⟩
      have hDH : H D = none := t2.free hD
      have sD : Same H2 (upd H2 D (.lst [])) := (Same.refl H2).upd_free hD
      refine lc_range (n := many.toNat) (fun j ys H3 => Same H2 H3 ∧ H3 D = some (.lst ys) ∧ ys.length = j ∧ ∃ xs : List Int, ys = xs.map V.int ∧ ∀ x ∈ xs, 0 ≤ x ∧ x < size) (Nat.le_of_lt (small1000 (by omega)))
        ⟨sD, upd_same, rfl, [], rfl, fun x hx => by simp at hx⟩ (fun j ys H3 h => Nat.le_of_eq h.2.2.1) ?_ ?_
      · rintro j ys H3 N M hj ⟨u1, u2, u3, xs, rfl, u5⟩ hN hM
        refine ⟨_, rfl, _, rfl, _, _, rfl, rfl, _, rfl, _, _, rfl, rfl, a, ns, _, rfl, (t2.trans u1).seq hS, by omega, by omega, fun z H4 u6 => ?_⟩
        refine ⟨_, rfl, _, _, rfl, rfl, by omega, ?_⟩
        refine hN _ H4 (u6 _ _ u2) ⟨(u1.trans u6).upd_free hD, upd_same, by rw [List.length_append, List.length_singleton, u3], xs ++ [z % size], by rw [List.map_append]; rfl, fun x hx => ?_⟩
        rcases List.mem_append.mp hx with hx | hx
        · exact u5 x hx
        · rw [List.mem_singleton] at hx
          subst hx
          exact ⟨Int.emod_nonneg _ (by omega), Int.emod_lt_of_pos _ (by omega)⟩
      · rintro ys H3 ⟨u1, u2, u3, xs, rfl, u5⟩
        have xl : (xs.length : Int) = many := by rw [List.length_map] at u3; omega
        have nlD : l ≠ D := ne_of_none hL hD
        -- append
        refine ⟨_, rfl, .inl ⟨rfl, _, SqL.of (u1 _ _ hL)⟩, _, rfl, _, rfl, a, ns, _, rfl, (t2.trans u1).seq hS, by omega, by omega, fun z H4 u6 => ?_⟩
        refine ⟨_, _, rfl, rfl, (by show (0 : Int) < cMod; decide), rfl, _, rfl, D, _, rfl, .inl ⟨SqL.of (u6 _ _ u2), fun zt hzt => ?_⟩⟩
        refine ⟨(by show 2 ≤ sizeLine; decide), fun q hq => ?_⟩
        have nzq : zt ≠ q := fun e => by rw [e, upd_same] at hq; cases hq
        have hq4 : H4 q = none := by rw [upd_ne (Ne.symm nzq)] at hq; exact hq
        have v1 : Same H2 H4 := u1.trans u6
        have v2 : Same H2 (upd H4 zt (.tup (xs.map V.int))) := v1.upd_free (v1.free hzt)
        have v3 : Same H2 (upd (upd H4 zt (.tup (xs.map V.int))) q (.tup [.bl (decide (V.int (z % cMod) = V.int 1)), .ref zt])) := v2.upd_free (v1.free hq4)
        refine ⟨l, _, _, rfl, rfl, v3 _ _ hL, ?_, ?_⟩
        · rw [List.length_map, hR.1, hlen]
          exact small1000 (by omega)
        · have nlq : l ≠ q := ne_of_none hL (v1.free hq4)
          have nlz : l ≠ zt := ne_of_none hL (v1.free hzt)
          have w1 : Same H (upd (upd (upd H4 zt (.tup (xs.map V.int))) q (.tup [.bl (decide (V.int (z % cMod) = V.int 1)), .ref zt])) l (.lst (qs.map V.ref ++ [.ref q]))) := (t2.trans v3).upd_free hlH
          refine ⟨qs ++ [q], rs ++ [(decide (V.int (z % cMod) = V.int 1), xs)], _, _, _, rfl, w1, ?_, ⟨?_, ?_⟩, ?_, ?_⟩
          · rw [upd_same, List.map_append]
            rfl
          · rw [List.length_append, List.length_append, hR.1]
            rfl
          · intro i' r' e'
            by_cases hlt : i' < rs.length
            · rw [List.getElem?_append_left hlt] at e'
              obtain ⟨q', z', f1, f2, f3⟩ := hR.2 i' r' e'
              have n2 : q' ≠ l := ne_of f2 hL (by intro z; cases z)
              have n3 : z' ≠ l := ne_of f3 hL (by intro z; cases z)
              refine ⟨q', z', ?_, ?_, ?_⟩
              · rw [List.getElem?_append_left (by rw [hR.1]; exact hlt)]
                exact f1
              · rw [upd_ne n2]
                exact v3 _ _ f2
              · rw [upd_ne n3]
                exact v3 _ _ f3
            · rw [List.getElem?_append_right (by omega)] at e'
              have hi' : i' - rs.length = 0 := by
                cases h : i' - rs.length with
                | zero => rfl
                | succ n => rw [h] at e'; simp at e'
              rw [hi'] at e'
              cases e'
              refine ⟨q, zt, ?_, ?_, ?_⟩
              · have : i' = qs.length := by rw [hR.1]; omega
                rw [this, List.getElem?_append_right (Nat.le_refl _), Nat.sub_self]
                rfl
              · rw [upd_ne (Ne.symm nlq), upd_same]
              · rw [upd_ne (Ne.symm nlz), upd_ne nzq, upd_same]
          · rw [List.length_append, hlen]
            rfl
          · intro r hr'
            rcases List.mem_append.mp hr' with hr' | hr'
            · exact hrow r hr'
            · rw [List.mem_singleton] at hr'
              subst hr'
              exact ⟨xl, u5⟩
    · rintro σ H2 ⟨qs, rs, v7, v8, v9, rfl, t2, hL, hR, hlen, hrow⟩
      refine ⟨_, rfl, _, rfl, l, _, rfl, .inl ⟨SqL.of hL, fun p hp => ?_⟩⟩
      refine ⟨(by show 2 ≤ sizeLine; decide), fun m hm => ?_⟩
      have npm : p ≠ m := fun e => by rw [e, upd_same] at hm; cases hm
      have hm2 : H2 m = none := by rw [upd_ne (Ne.symm npm)] at hm; exact hm
      have v1 : Same H2 (upd H2 p (.tup (qs.map V.ref))) := (Same.refl H2).upd_free hp
      have v2 : Same H2 (upd (upd H2 p (.tup (qs.map V.ref))) m (.tup [.int many, .ref p])) := v1.upd_free hm2
      refine k m many rs _ (t2.trans v2) ⟨p, qs, upd_same, ?_, hR.same v2⟩ ⟨⟨m0, m1⟩, by omega, by omega, fun r hr' => ?_⟩ ?_
      · rw [upd_ne npm, upd_same]
      · have q := hrow r hr'
        refine ⟨q.1, fun n hn => ?_⟩
        have q2 := q.2 n hn
        omega
      · omega
end
end K21
namespace K21
open PySem L2 K20
section
variable {P : Program} {w : World} {K : PySem.W.Frag} {mg : Str → Option Value} {base : Heap}
theorem scWy : FnScope ["machine", "rooms", "found", "met", "done", "here", "way", "letter", "room"] ["machine"] (defScope sWy) := ⟨rfl, rfl, rfl, by decide +kernel, rfl, by decide +kernel, by decide +kernel⟩
theorem ok_wy {f : Addr} {fd : FuncData} (F : Fun K "ways" "ways" sWy f fd) (T : Txt mg) : FnOk P w K mg base CX0 1 f fd ["machine"] spWy := by
  refine F.ok scWy (fun vs H Q E h => ?_) (fun cdv A outer s H vs Q E hr h => ?_)
  · obtain ⟨a, many, rs, rfl, _⟩ := h
    rfl
  · obtain ⟨a, many, rs, rfl, M, G, k⟩ := h
    obtain ⟨pr, rqs, m1, m2, m3⟩ := id M
    have hu := hu_of hr
    refine ⟨_, pss_cons (ps_set (i := 1) scWy.nd rfl (Or.inl rfl) (pe_ix ix_tup (pv 0) pe_int (fun _ _ => rfl)))
      (pss_cons (ps_set (i := 2) scWy.nd rfl (Or.inl rfl) (pe_lst (pa_cons (pe_tup (pa_cons pe_int (pa_cons (pe_tup pa_nil) pa_nil))) pa_nil)))
      (pss_cons (ps_set (i := 3) scWy.nd rfl (Or.inl rfl) (pe_disp (pps_cons pe_int pe_bl pps_nil) rfl rfl (by simp) (by simp)))
      (pss_cons (ps_set (i := 4) scWy.nd rfl (Or.inl rfl) pe_int)
      (pss_cons (ps_while PassesOwn.never (pt_cmpR op_lt (pv 4) (pe_callB call_len_seq (by rfl) T.len PySem.boot_len (pa_cons (pv 2) pa_nil)) (nomark _))
        (pss_cons (ps_set (i := 5) scWy.nd rfl (Or.inl rfl) (pe_ix ix_tup (pe_ix ix_list (pv 2) (pv 4) (fun _ _ => rfl)) pe_int (fun _ _ => rfl)))
        (pss_cons (ps_set (i := 6) scWy.nd rfl (Or.inl rfl) (pe_ix ix_tup (pe_ix ix_list (pv 2) (pv 4) (fun _ _ => rfl)) pe_int (fun _ _ => rfl)))
        (pss_cons (ps_for PassesOwn.never rfl (pi_enum rfl T.enum (pa_cons (pe_ix ix_tup (pe_ix ix_tup (pv 1) (pv 5) (fun _ _ => rfl)) pe_int (fun _ _ => rfl)) pa_nil))
            (pg_tup (n := 2) rfl (pgs_cons (pg_name (i := 7) scWy.nd rfl (Or.inl rfl)) (pgs_cons (pg_name (i := 8) scWy.nd rfl (Or.inl rfl)) pgs_nil)))
          (pss_one (ps_if (pt_cmp (pc_dnotin hu (pv 8) (pv 3)))
            (pss_cons (ps_dput hu (pv 3) (pv 8) pe_bl rfl)
            (pss_one (ps_expr (pe_bm PySem.F.plainAttrs_list PySem.F.slot_list_append PySem.F.type_list_append mt_append (pv 2) (pa_cons (pe_tup (pa_cons (pv 8) (pa_cons (pe_op op_catN (pv 6) (pe_tup (pa_cons (pv 7) pa_nil))) pa_nil))) pa_nil)))))
            pss_nil)))
        (pss_one (ps_set (i := 4) scWy.nd rfl (Or.inl rfl) (pe_op op_add (pv 4) pe_int)))))))
      (pss_one (ps_ret (pe_callTy call_tuple_of (by rfl) T.tuple PyProof.Rows.boot_tuple (pa_cons (pv 2) pa_nil)))))))), ?_⟩
    refine ⟨_, rfl, a, _, _, _, rfl, rfl, SqT.of m1, rfl, Nat.zero_le _, fun z0 hz0 => ⟨(by show 2 ≤ sizeLine; decide), fun q0 hq0 => ⟨(by show 1 ≤ sizeLine; decide), fun l hl => ?_⟩⟩⟩
    have n01 : z0 ≠ q0 := fun e => by rw [e, upd_same] at hq0; cases hq0
    have t1 : Same H (upd H z0 (.tup [])) := (Same.refl H).upd_free hz0
    have t2 : Same H (upd (upd H z0 (.tup [])) q0 (.tup [.int 0, .ref z0])) := t1.upd_free (t1.free hq0)
    have u2 : Same (upd H z0 (.tup [])) (upd (upd H z0 (.tup [])) q0 (.tup [.int 0, .ref z0])) := (Same.refl _).upd_free hq0
    have t3 : Same H (upd (upd (upd H z0 (.tup [])) q0 (.tup [.int 0, .ref z0])) l (.lst [.ref q0])) := t2.upd_free (t2.free hl)
    have u3 : Same (upd (upd H z0 (.tup [])) q0 (.tup [.int 0, .ref z0])) (upd (upd (upd H z0 (.tup [])) q0 (.tup [.int 0, .ref z0])) l (.lst [.ref q0])) := (Same.refl _).upd_free hl
    intro dm hdm
    refine ⟨upd_same, [(Sum.inl 0, .bl true)], rfl, (by show 1 ≤ 15; decide), ?_⟩
    generalize hH3 : upd (upd (upd H z0 (.tup [])) q0 (.tup [.int 0, .ref z0])) l (.lst [.ref q0]) = H3 at t3 u3 hdm ⊢
    have t4 : Same H (upd H3 dm (.dK [])) := t3.upd_free (t3.free hdm)
    have hll : H3 l = some (.lst [.ref q0]) := by rw [← hH3]; exact upd_same
    have nld : l ≠ dm := ne_of_none hll hdm
    have hdH : H dm = none := t3.free hdm
    have hlH : H l = none := t2.free hl
    have t5 : Same H (upd (upd H3 dm (.dK [])) dm (.dK (mergeK [] [(Sum.inl 0, .bl true)]))) := t4.upd_free hdH
    have u5 : Same H3 (upd (upd H3 dm (.dK [])) dm (.dK (mergeK [] [(Sum.inl 0, .bl true)]))) := ((Same.refl H3).upd_free hdm).upd_free hdm
    have p0 : PairsAt (upd (upd H3 dm (.dK [])) dm (.dK (mergeK [] [(Sum.inl 0, .bl true)]))) [q0] [(0, [])] := by
      refine ⟨rfl, fun i e he => ?_⟩
      cases i with
      | succ i => simp at he
      | zero =>
        cases he
        refine ⟨q0, z0, rfl, u5 _ _ (u3 _ _ upd_same), u5 _ _ (u3 _ _ ?_)⟩
        rw [upd_ne n01, upd_same]
        rfl
    -- the while
    refine ⟨fun m σ H2 => ∃ (fs : List Ent) (d : Nat) (qs : List Addr) (v5 v6 v7 v8 : Option V), σ = [some (.ref a), some (.ref pr), some (.ref l), some (.ref dm), some (.int d), v5, v6, v7, v8] ∧ m = rs.length + 1 - d ∧
        Same H H2 ∧ H2 l = some (.lst (qs.map V.ref)) ∧ H2 dm = some (.dK (keysT fs)) ∧ PairsAt H2 qs fs ∧ BInv rs many fs d ∧ d ≤ fs.length ∧ bfs rs (rs.length + 1 - d) d fs = waysM rs,
      ⟨_, [(0, [])], 0, [q0], none, none, none, none, rfl, rfl, t5, by rw [upd_ne nld, upd_ne nld]; exact hll, upd_same, p0, BInv.init G, Nat.zero_le _, rfl⟩, ?_⟩
    rintro m σ H2 ⟨fs, d, qs, v5, v6, v7, v8, rfl, rfl, s2, hL, hD, hP, B, hdl, hb⟩
    have hlen := B.len
    have gle := G.le
    refine ⟨_, rfl, _, rfl, l, _, rfl, .inl (SqL.of hL), _, _, rfl, rfl, _, rfl, ?_⟩
    rw [List.length_map, hP.1]
    refine ite2 (fun hlt => ?_) (fun hge => ?_)
    · have hlt' : d < fs.length := by
        have := of_decide_eq_true hlt
        omega
      obtain ⟨e0, he0⟩ : ∃ e0, fs[d]? = some e0 := ⟨fs[d], by simp [hlt']⟩
      obtain ⟨q, z, g1, g2, g3⟩ := hP.2 d e0 he0
      have hq : atI (qs.map V.ref) (d : Int) = some (.ref q) := atI_nat (by rw [List.getElem?_map, g1]; rfl)
      have ok0 := B.ok e0 (List.mem_of_getElem? he0)
      refine ⟨fun σ' H' => ∃ m', m' < rs.length + 1 - d ∧ ∃ (fs : List Ent) (d : Nat) (qs : List Addr) (v5 v6 v7 v8 : Option V), σ' = [some (.ref a), some (.ref pr), some (.ref l), some (.ref dm), some (.int d), v5, v6, v7, v8] ∧ m' = rs.length + 1 - d ∧
        Same H H' ∧ H' l = some (.lst (qs.map V.ref)) ∧ H' dm = some (.dK (keysT fs)) ∧ PairsAt H' qs fs ∧ BInv rs many fs d ∧ d ≤ fs.length ∧ bfs rs (rs.length + 1 - d) d fs = waysM rs, fun σ' H' z => z, ?_⟩
      refine ⟨_, rfl, _, rfl, l, _, _, _, rfl, rfl, SqL.of hL, hq, q, _, _, _, rfl, rfl, SqT.of g2, rfl, ?_⟩
      refine ⟨_, rfl, _, rfl, l, _, _, _, rfl, rfl, SqL.of hL, hq, q, _, _, _, rfl, rfl, SqT.of g2, rfl, ?_⟩
      -- rooms[here][1]
      obtain ⟨r, er⟩ := some_at rs e0.1 ok0.1 ok0.2.1
      obtain ⟨rq, rz, r1, r2, r3⟩ := (m3.same s2).2 _ _ er
      have hrow := G.row r (List.mem_of_getElem? er)
      refine ⟨_, rfl, _, rfl, pr, _, _, _, rfl, rfl, SqT.of (s2 _ _ m2), atI_int ok0.1 (by rw [List.getElem?_map, r1]; rfl), rq, _, _, _, rfl, rfl, SqT.of r2, rfl, rz, rfl, ⟨_, SqT.of r3⟩, ?_⟩
      refine for_enum (K := K) (a := rz) (xs := r.2.map V.int) (fun j σ H3 => ∃ (fs' : List Ent) (qs' : List Addr) (v7 v8 : Option V), σ = [some (.ref a), some (.ref pr), some (.ref l), some (.ref dm), some (.int d), some (.int e0.1), some (.ref z), v7, v8] ∧
          Same H H3 ∧ TSame H2 H3 ∧ H3 l = some (.lst (qs'.map V.ref)) ∧ H3 dm = some (.dK (keysT fs')) ∧ PairsAt H3 qs' fs' ∧ VInv rs many fs' d e0 j ∧ visit e0.2 (r.2.drop j) j fs' = visit e0.2 r.2 0 fs)
        ⟨fs, qs, v7, v8, rfl, s2, fun _ _ e => e, hL, hD, hP, VInv.start B he0, rfl⟩ (fun j σ H3 _ ⟨_, _, _, _, _, _, ts, _⟩ => SqT.of (ts _ _ r3)) ?_ ?_
      · rintro j x σ H3 p hx ⟨fs', qs', v7, v8, rfl, s3, ts3, hL3, hD3, hP3, VI, hv⟩ hp
        rw [List.getElem?_map] at hx
        cases et : r.2[j]? with
        | none => rw [et] at hx; cases hx
        | some t =>
          rw [et] at hx
          cases hx
          have hj : (j : Int) < many := by
            have h1 := (List.getElem?_eq_some_iff.mp et).1
            have h2 := hrow.1
            omega
          have htn : nextOf rs e0.1 j = t := by
            unfold nextOf
            rw [getD_of er, Int.toNat_natCast, getD_of et]
          have lenV := VI.len
          have s4 : Same H3 (upd H3 p (.tup [.int (j : Nat), .int t])) := (Same.refl H3).upd_free hp
          generalize hH4 : upd H3 p (.tup [.int (j : Nat), .int t]) = H4 at s4
          have s34 : Same H H4 := s3.trans s4
          have ts4 : TSame H2 H4 := ts3.trans s4.tups
          have hL4 := s4 _ _ hL3
          have hD4 := s4 _ _ hD3
          have hP4 := hP3.tsame s4.tups
          refine ⟨p, _, rfl, SqT.of (by rw [← hH4]; exact upd_same), rfl, _, _, rfl, _, _, rfl, rfl, ?_⟩
          refine ⟨_, rfl, _, rfl, dm, _, rfl, DGet.k (k := Sum.inl t) hD4, _, rfl, ?_⟩
          rw [keys_some]
          by_cases hin : t ∈ fs'.map (·.1)
          · rw [decide_eq_true hin]
            refine iteF ?_
            refine ⟨fs', qs', _, _, rfl, s34, ts4, hL4, hD4, hP4, VI.old (by rw [htn]; exact hin), ?_⟩
            rw [visit_drop e0.2 r.2 j t fs' et, if_pos hin] at hv
            exact hv
          · rw [decide_eq_false hin]
            refine iteT ?_
            have kl : (keysT fs').length = fs'.length := List.length_map ..
            refine ⟨_, rfl, _, rfl, dm, _, rfl, DPut.k (k := Sum.inl t) hD4 (small1000 (by omega)), ?_⟩
            have hno : valV (keysT fs') (Sum.inl t : Key) = none := by
              have q := keys_some t fs'
              rw [decide_eq_false hin] at q
              cases e : valV (keysT fs') (Sum.inl t : Key) with
              | none => rfl
              | some y => rw [e] at q; cases q
            have ek : putK (keysT fs') (Sum.inl t : Key) (.bl true) = keysT (fs' ++ [(t, e0.2 ++ [(j : Int)])]) := by
              rw [putK_new _ hno]
              unfold keysT
              rw [List.map_append]
              rfl
            rw [ek]
            have nld4 : l ≠ dm := nld
            have s5 : Same H (upd H4 dm (.dK (keysT (fs' ++ [(t, e0.2 ++ [(j : Int)])])))) := s34.upd_free hdH
            have ts5 : TSame H4 (upd H4 dm (.dK (keysT (fs' ++ [(t, e0.2 ++ [(j : Int)])])))) := TSame.upd_dk (fun _ _ e => e) hD4
            generalize hH5 : upd H4 dm (.dK (keysT (fs' ++ [(t, e0.2 ++ [(j : Int)])]))) = H5 at s5 ts5
            have hL5 : H5 l = some (.lst (qs'.map V.ref)) := by rw [← hH5, upd_ne nld]; exact hL4
            have hD5 : H5 dm = some (.dK (keysT (fs' ++ [(t, e0.2 ++ [(j : Int)])]))) := by rw [← hH5]; exact upd_same
            have hz5 : H5 z = some (.tup (e0.2.map V.int)) := ts5 _ _ (ts4 _ _ g3)
            -- found.append((room, way + (letter,)))
            refine ⟨_, rfl, .inl ⟨rfl, _, SqL.of hL5⟩, _, rfl, _, rfl, _, rfl, (by show 1 ≤ sizeLine; decide), fun pl hpl => ?_⟩
            have s6 : Same H5 (upd H5 pl (.tup [.int (j : Nat)])) := (Same.refl H5).upd_free hpl
            refine ⟨z, pl, _, _, rfl, rfl, SqT.of (s6 _ _ hz5), upd_same, by simp, ?_, fun zn H7 s7 hzn => ⟨(by show 2 ≤ sizeLine; decide), fun qn hqn => ?_⟩⟩
            · rw [List.length_map]
              have w1 := (List.getElem?_eq_some_iff.mp VI.pl).1
              have w2 := VI.ln d e0 VI.pl
              exact Nat.le_of_lt (small1000 (by show e0.2.length + 1 ≤ 1000; omega))
            have s8 : Same H5 (upd H7 qn (.tup [.int t, .ref zn])) := (s6.trans s7).upd_free ((s6.trans s7).free hqn)
            have s78 : Same H7 (upd H7 qn (.tup [.int t, .ref zn])) := (Same.refl H7).upd_free hqn
            refine ⟨l, _, _, rfl, rfl, s8 _ _ hL5, ?_, ?_⟩
            · rw [List.length_map, hP3.1]
              exact small1000 (by omega)
            · have s9 : Same H (upd (upd H7 qn (.tup [.int t, .ref zn])) l (.lst (qs'.map V.ref ++ [.ref qn]))) := (s5.trans s8).upd_free hlH
              have ts9 : TSame (upd H7 qn (.tup [.int t, .ref zn])) (upd (upd H7 qn (.tup [.int t, .ref zn])) l (.lst (qs'.map V.ref ++ [.ref qn]))) := TSame.upd_lst (fun _ _ e => e) (s8 _ _ hL5)
              refine ⟨fs' ++ [(t, e0.2 ++ [(j : Int)])], qs' ++ [qn], _, _, rfl, s9, ((ts4.trans ts5).trans s8.tups).trans ts9, ?_, ?_, ?_, ?_, ?_⟩
              · rw [upd_same, List.map_append]
                rfl
              · rw [upd_ne (Ne.symm nld)]
                exact s8 _ _ hD5
              · refine (hP4.tsame ((ts5.trans s8.tups).trans ts9)).snoc (z := zn) (ts9 _ _ upd_same) (ts9 _ _ (s78 _ _ ?_))
                rw [hzn, List.map_append]
                rfl
              · have q := VI.new G hj (by rw [htn]; exact hin)
                rw [htn] at q
                exact q
              · rw [visit_drop e0.2 r.2 j t fs' et, if_neg hin] at hv
                exact hv
      · rintro σ H3 ⟨fs', qs', v7, v8, rfl, s3, ts3, hL3, hD3, hP3, VI, hv⟩
        rw [List.length_map] at VI hv
        rw [List.drop_length] at hv
        have hv' : fs' = visit e0.2 r.2 0 fs := hv
        have B' : BInv rs many fs' (d + 1) := VI.done hrow.1
        have hd' : d + 1 ≤ fs'.length := (List.getElem?_eq_some_iff.mp VI.pl).1
        refine ⟨_, rfl, _, _, rfl, rfl, ?_⟩
        refine ⟨rs.length + 1 - (d + 1), by omega, fs', d + 1, qs', _, _, _, _, rfl, rfl, s3, hL3, hD3, hP3, B', hd', ?_⟩
        have e1 : rs.length + 1 - d = (rs.length + 1 - (d + 1)) + 1 := by omega
        rw [e1] at hb
        unfold bfs at hb
        rw [he0] at hb
        have hb2 : bfs rs (rs.length + 1 - (d + 1)) (d + 1) (visit e0.2 (rs.getD e0.1.toNat (false, [])).2 0 fs) = waysM rs := hb
        rw [getD_of er] at hb2
        rw [hv']
        exact hb2
    · have hge' : fs.length ≤ d := by
        have : ¬ ((d : Int) < (fs.length : Int)) := fun z => hge (decide_eq_true z)
        omega
      have hfd : fs[d]? = none := List.getElem?_eq_none hge'
      have e1 : rs.length + 1 - d = (rs.length - d) + 1 := by omega
      rw [e1] at hb
      unfold bfs at hb
      rw [hfd] at hb
      have hb' : fs = waysM rs := hb
      have ed : d = fs.length := by omega
      refine ⟨_, rfl, l, _, rfl, .inl ⟨SqL.of hL, fun p hp => ?_⟩⟩
      have s3 : Same H2 (upd H2 p (.tup (qs.map V.ref))) := (Same.refl H2).upd_free hp
      refine k p qs _ (s2.trans s3) upd_same ?_ ?_
      · rw [← hb']
        exact hP.tsame s3.tups
      · rw [← hb', ← ed]
        exact B
end
end K21
namespace K60
open PySem L2 K20 K21

def KAt (H : Hp) : List (Key × V) → List Ent → Prop
  | [], [] => True
  | kv :: kvs, e :: ks => kv.1 = Sum.inl e.1 ∧ (∃ z, kv.2 = V.ref z ∧ H z = some (.tup (e.2.map V.int))) ∧ KAt H kvs ks
  | _, _ => False
theorem KAt.tsame {H H' : Hp} (s : TSame H H') : ∀ {kvs : List (Key × V)} {ks : List Ent}, KAt H kvs ks → KAt H' kvs ks
  | [], [], _ => True.intro
  | _ :: _, _ :: _, ⟨h1, ⟨z, h2, h3⟩, h4⟩ => ⟨h1, ⟨z, h2, s _ _ h3⟩, KAt.tsame s h4⟩
  | [], _ :: _, h => h
  | _ :: _, [], h => h
theorem KAt.len {H : Hp} : ∀ {kvs : List (Key × V)} {ks : List Ent}, KAt H kvs ks → kvs.length = ks.length
  | [], [], _ => rfl
  | _ :: _, _ :: _, ⟨_, _, h4⟩ => by rw [List.length_cons, List.length_cons, KAt.len h4]
  | [], _ :: _, h => h.elim
  | _ :: _, [], h => h.elim
theorem KAt.snoc {H : Hp} {e : Ent} {z : Addr} (hz : H z = some (.tup (e.2.map V.int))) : ∀ {kvs : List (Key × V)} {ks : List Ent}, KAt H kvs ks → KAt H (kvs ++ [((Sum.inl e.1 : Key), V.ref z)]) (ks ++ [e])
  | [], [], _ => ⟨rfl, ⟨z, rfl, hz⟩, True.intro⟩
  | _ :: _, _ :: _, ⟨h1, h2, h4⟩ => ⟨h1, h2, KAt.snoc hz h4⟩
  | [], _ :: _, h => h.elim
  | _ :: _, [], h => h.elim
theorem KAt.isS {H : Hp} (t : Int) : ∀ {kvs : List (Key × V)} {ks : List Ent}, KAt H kvs ks → (valV kvs (Sum.inl t : Key)).isSome = decide (t ∈ ks.map (·.1))
  | [], [], _ => rfl
  | kv :: kvs, e :: ks, ⟨h1, h2, h4⟩ => by
    by_cases h : e.1 = t
    · rw [valV_pos (by rw [h1, h])]
      subst h
      simp
    · rw [valV_neg (by rw [h1]; intro z; exact h (Sum.inl.inj z)), KAt.isS t h4]
      have : t ∈ (e :: ks).map (·.1) ↔ t ∈ ks.map (·.1) := by
        rw [List.map_cons, List.mem_cons]
        exact ⟨fun z => z.elim (fun z => absurd z.symm h) id, .inr⟩
      exact (decide_eq_decide.mpr this).symm
  | [], _ :: _, h => h.elim
  | _ :: _, [], h => h.elim
theorem KAt.get {H : Hp} (t : Int) (v : V) : ∀ {kvs : List (Key × V)} {ks : List Ent}, KAt H kvs ks → valV kvs (Sum.inl t : Key) = some v → ∃ (i : Nat) (e : Ent) (z : Addr), ks[i]? = some e ∧ e.1 = t ∧ v = .ref z ∧ H z = some (.tup (e.2.map V.int))
  | [], [], _, h => by cases h
  | kv :: kvs, e :: ks, ⟨h1, ⟨z, h2, h3⟩, h4⟩, hv => by
    by_cases h : e.1 = t
    · rw [valV_pos (by rw [h1, h])] at hv
      cases hv
      exact ⟨0, e, z, rfl, h, h2, h3⟩
    · rw [valV_neg (by rw [h1]; intro z; exact h (Sum.inl.inj z))] at hv
      obtain ⟨i, e', z', g1, g2⟩ := KAt.get t v h4 hv
      exact ⟨i + 1, e', z', by simpa using g1, g2⟩
  | [], _ :: _, h, _ => h.elim
  | _ :: _, [], h, _ => h.elim
theorem KAt.put {H : Hp} {kvs : List (Key × V)} {ks : List Ent} {e : Ent} {z : Addr} (h : KAt H kvs ks) (hn : e.1 ∉ ks.map (·.1)) (hz : H z = some (.tup (e.2.map V.int))) : KAt H (putK kvs (Sum.inl e.1 : Key) (V.ref z)) (ks ++ [e]) := by
  have q := h.isS e.1
  rw [decide_eq_false hn] at q
  rw [putK_new _ (by cases g : valV kvs (Sum.inl e.1 : Key) with
    | none => rfl
    | some y => rw [g] at q; cases q)]
  exact h.snoc hz
theorem gd_of {rs : Rms} {i : Nat} {r : Bool × List Int} (h : rs[i]? = some r) : gd rs (i : Int) = r.1 := by
  unfold gd
  rw [Int.toNat_natCast, getD_of h]
theorem next_at {rs : Rms} {i j : Nat} {r : Bool × List Int} {t : Int} (h : rs[i]? = some r) (h' : r.2[j]? = some t) : nextOf rs (i : Int) (j : Int) = t := by
  unfold nextOf
  rw [Int.toNat_natCast, getD_of h, Int.toNat_natCast, getD_of h']
theorem next_mem {rs : Rms} {i : Nat} {r : Bool × List Int} {l : Int} (h : rs[i]? = some r) (l0 : 0 ≤ l) (l1 : l < (r.2.length : Int)) : nextOf rs (i : Int) l ∈ r.2 := by
  obtain ⟨n, en⟩ := some_at r.2 l l0 l1
  unfold nextOf
  rw [Int.toNat_natCast, getD_of h, getD_of en]
  exact List.mem_of_getElem? en

def spLI : Sp := fun vs H Q _ => ∃ (z dm : Addr) (ns : List Int) (kvs : List (Key × V)), vs = [.ref z, .ref dm] ∧ H z = some (.tup (ns.map V.int)) ∧ H dm = some (.dK kvs) ∧
  (∀ (j : Nat) (t : Int) (H' : Hp), ns[j]? = some t → (valV kvs (Sum.inl t : Key)).isSome = true → Same H H' → Q (.int (j : Int)) H') ∧
  ((∀ t ∈ ns, (valV kvs (Sum.inl t : Key)).isSome = false) → ∀ H', Same H H' → Q .non H')
def spRG : Sp := fun vs H Q _ => ∃ (a : Addr) (many : Int) (rs : Rms), vs = [.ref a] ∧ MAt H a many rs ∧ Good many rs ∧
  ∀ (dm : Addr) (kvs : List (Key × V)) (ks : List Ent) (H' : Hp), Same H H' → H' dm = some (.dK kvs) → KAt H' kvs ks → KDone rs many ks → Q (.ref dm) H'
section
variable {P : Program} {w : World} {K : PySem.W.Frag} {mg : Str → Option Value} {base : Heap}
theorem scLI : FnScope ["nexts", "known", "letter", "there"] ["nexts", "known"] (defScope sLI) := ⟨rfl, rfl, rfl, by decide +kernel, rfl, by decide +kernel, by decide +kernel⟩
theorem ok_li {f : Addr} {fd : FuncData} (F : Fun K "letter_into" "letter_into" sLI f fd) (T : Txt mg) : FnOk P w K mg base CX0 1 f fd ["nexts", "known"] spLI := by
  refine F.ok scLI (fun vs H Q E h => ?_) (fun cdv A outer s H vs Q E hr h => ?_)
  · obtain ⟨z, dm, ns, kvs, rfl, _⟩ := h
    rfl
  · obtain ⟨z, dm, ns, kvs, rfl, hz, hd, k1, k2⟩ := h
    have hu := hu_of hr
    refine ⟨_, pss_cons (ps_for PassesOwn.never rfl (pi_enum rfl T.enum (pa_cons (pv 0) pa_nil)) (pg_tup (n := 2) rfl (pgs_cons (pg_name (i := 2) scLI.nd rfl (Or.inl rfl)) (pgs_cons (pg_name (i := 3) scLI.nd rfl (Or.inl rfl)) pgs_nil)))
        (pss_one (ps_if (pt_cmp (pc_din hu (pv 3) (pv 1))) (pss_one (ps_ret (pv 2))) pss_nil)))
      (pss_one (ps_ret pe_non)), ?_⟩
    refine ⟨_, rfl, z, rfl, ⟨_, SqT.of hz⟩, ?_⟩
    refine for_enum (K := K) (a := z) (xs := ns.map V.int) (fun j σ H2 => ∃ (v2 v3 : Option V), σ = [some (.ref z), some (.ref dm), v2, v3] ∧ Same H H2 ∧ ∀ t ∈ ns.take j, (valV kvs (Sum.inl t : Key)).isSome = false)
      ⟨none, none, rfl, Same.refl H, by simp⟩ (fun j σ H2 _ ⟨_, _, _, s2, _⟩ => SqT.of (s2 _ _ hz)) ?_ ?_
    · rintro j x σ H2 p hx ⟨v2, v3, rfl, s2, hno⟩ hp
      rw [List.getElem?_map] at hx
      cases et : ns[j]? with
      | none => rw [et] at hx; cases hx
      | some t =>
        rw [et] at hx
        cases hx
        have s3 : Same H (upd H2 p (.tup [.int (j : Nat), .int t])) := s2.upd_free (s2.free hp)
        refine ⟨p, _, rfl, SqT.of upd_same, rfl, _, _, rfl, _, _, rfl, rfl, ?_⟩
        refine ⟨_, rfl, _, rfl, dm, _, rfl, DGet.k (k := Sum.inl t) (s3 _ _ hd), _, rfl, ?_⟩
        cases q : (valV kvs (Sum.inl t : Key)).isSome with
        | true => exact iteT ⟨_, rfl, k1 j t _ et q s3⟩
        | false =>
          refine iteF ⟨_, _, rfl, s3, fun t' ht' => ?_⟩
          rw [List.take_add_one, et] at ht'
          rcases List.mem_append.mp ht' with ht' | ht'
          · exact hno t' ht'
          · have : t' = t := by simpa using ht'
            subst this
            exact q
    · rintro σ H2 ⟨v2, v3, rfl, s2, hno⟩
      refine k2 (fun t ht => hno t ?_) H2 s2
      rw [List.length_map, List.take_of_length_le (Nat.le_refl _)]
      exact ht
theorem scRG : FnScope ["machine", "rooms", "known", "number", "room", "before", "letter"] ["machine"] (defScope sRG) := ⟨rfl, rfl, rfl, by decide +kernel, rfl, by decide +kernel, by decide +kernel⟩
theorem ok_rg {f fL : Addr} {fd fdL : FuncData} (F : Fun K "runs_to_good" "runs_to_good" sRG f fd) (T : Txt mg) (FL : Fun K "letter_into" "letter_into" sLI fL fdL) (bL : Binds K fdL ["nexts", "known"] []) (gL : mg "letter_into" = some (.ref fL)) :
    FnOk P w K mg base CX0 2 f fd ["machine"] spRG := by
  have GL : FnOk P w K mg base CX0 1 fL fdL ["nexts", "known"] spLI := ok_li FL T
  refine F.ok scRG (fun vs H Q E h => ?_) (fun cdv A outer s H vs Q E hr h => ?_)
  · obtain ⟨a, many, rs, rfl, _⟩ := h
    rfl
  · obtain ⟨a, many, rs, rfl, M, G, k⟩ := h
    obtain ⟨pr, qs, m1, m2, m3⟩ := id M
    have hu := hu_of hr
    refine ⟨_, pss_cons (ps_set (i := 1) scRG.nd rfl (Or.inl rfl) (pe_ix ix_tup (pv 0) pe_int (fun _ _ => rfl)))
      (pss_cons (ps_set (i := 2) scRG.nd rfl (Or.inl rfl) pe_dnewK)
      (pss_cons (ps_for PassesOwn.never rfl (pi_enum rfl T.enum (pa_cons (pv 1) pa_nil)) (pg_tup (n := 2) rfl (pgs_cons (pg_name (i := 3) scRG.nd rfl (Or.inl rfl)) (pgs_cons (pg_name (i := 4) scRG.nd rfl (Or.inl rfl)) pgs_nil)))
        (pss_one (ps_if (pt_val (pe_ix ix_tup (pv 4) pe_int (fun _ _ => rfl))) (pss_one (ps_dput hu (pv 2) (pv 3) (pe_tup pa_nil) rfl)) pss_nil)))
      (pss_cons (ps_set (i := 5) scRG.nd rfl (Or.inl rfl) pe_int)
      (pss_cons (ps_while PassesOwn.never (pt_cmpR op_lt (pv 5) (pe_callB call_lenK (by rfl) T.len PySem.boot_len (pa_cons (pv 2) pa_nil)) (nomark _))
        (pss_cons (ps_set (i := 5) scRG.nd rfl (Or.inl rfl) (pe_callB call_lenK (by rfl) T.len PySem.boot_len (pa_cons (pv 2) pa_nil)))
        (pss_one (ps_for PassesOwn.never rfl (pi_enum rfl T.enum (pa_cons (pv 1) pa_nil)) (pg_tup (n := 2) rfl (pgs_cons (pg_name (i := 3) scRG.nd rfl (Or.inl rfl)) (pgs_cons (pg_name (i := 4) scRG.nd rfl (Or.inl rfl)) pgs_nil)))
          (pss_cons (ps_set (i := 6) scRG.nd rfl (Or.inl rfl) (pe_call GL hr rfl gL FL.kp bL .nil pass0 (pa_cons (pe_ix ix_tup (pv 4) pe_int (fun _ _ => rfl)) (pa_cons (pv 2) pa_nil))))
          (pss_one (ps_if (PW.pt (pw_and (pt_cmp (pc_dnotin hu (pv 3) (pv 2))) (pw_and1 (pt_cmp (pc_notN (pv 6))))))
            (pss_one (ps_dput hu (pv 2) (pv 3) (pe_op op_cat1 (pe_tup (pa_cons (pv 6) pa_nil)) (pe_dget hu (pv 2) (pe_ix ix_tup (pe_ix ix_tup (pv 4) pe_int (fun _ _ => rfl)) (pv 6) (fun _ _ => rfl)) (fun _ _ => rfl))) rfl))
            pss_nil)))))))
      (pss_one (ps_ret (pv 2))))))), ?_⟩
    refine ⟨_, rfl, a, _, _, _, rfl, rfl, SqT.of m1, rfl, fun dm hdm => ?_⟩
    have hql : (qs.map V.ref).length = rs.length := by rw [List.length_map]; exact m3.1
    have gle := G.le
    -- the good rooms
    refine ⟨_, rfl, pr, rfl, ⟨_, SqT.of (((Same.refl H).upd_free hdm) _ _ m2)⟩, ?_⟩
    refine for_enum (K := K) (a := pr) (xs := qs.map V.ref) (fun i σ H2 => ∃ (kvs : List (Key × V)) (ks : List Ent) (v3 v4 : Option V), σ = [some (.ref a), some (.ref pr), some (.ref dm), v3, v4, none, none] ∧ Same H H2 ∧ H2 dm = some (.dK kvs) ∧ KAt H2 kvs ks ∧ KI rs many ks ∧
        (∀ e ∈ ks, e.1 < (i : Int)) ∧ ∀ n : Int, 0 ≤ n → n < (i : Int) → gd rs n = true → n ∈ ks.map (·.1))
      ⟨[], [], none, none, rfl, (Same.refl H).upd_free hdm, upd_same, True.intro, KI.nil, fun e he => by simp at he, fun n n0 n1 => by omega⟩ (fun j σ H2 _ ⟨_, _, _, _, _, s2, _⟩ => SqT.of (s2 _ _ m2)) ?_ ?_
    · rintro i x σ H2 p hx ⟨kvs, ks, v3, v4, rfl, s2, hD, hK, KI', hlt, hgo⟩ hp
      have hi : i < rs.length := by
        have := (List.getElem?_eq_some_iff.mp hx).1
        omega
      obtain ⟨r, er⟩ : ∃ r, rs[i]? = some r := ⟨rs[i], by simp [hi]⟩
      obtain ⟨q, z, e1, e2, e3⟩ := m3.2 i r er
      rw [List.getElem?_map, e1] at hx
      cases hx
      have s3 : Same H (upd H2 p (.tup [.int (i : Nat), .ref q])) := s2.upd_free (s2.free hp)
      have t3 : Same H2 (upd H2 p (.tup [.int (i : Nat), .ref q])) := (Same.refl H2).upd_free hp
      generalize hH3 : upd H2 p (.tup [.int (i : Nat), .ref q]) = H3 at s3 t3
      refine ⟨p, _, rfl, SqT.of (by rw [← hH3]; exact upd_same), rfl, _, _, rfl, _, _, rfl, rfl, ?_⟩
      refine ⟨_, rfl, q, _, _, _, rfl, rfl, SqT.of (s3 _ _ e2), rfl, r.1, rfl, ?_⟩
      have hg := gd_of er
      have hni : (i : Int) ∉ ks.map (·.1) := fun z => by
        obtain ⟨e, he, q⟩ := List.mem_map.mp z
        have := hlt e he
        omega
      cases hb : r.1 with
      | false =>
        refine iteF ⟨kvs, ks, _, _, rfl, s3, t3 _ _ hD, hK.tsame t3.tups, KI', fun e he => ?_, fun n n0 n1 g => ?_⟩
        · have := hlt e he
          omega
        · by_cases h : n < (i : Int)
          · exact hgo n n0 h g
          · have : n = (i : Int) := by omega
            subst this
            rw [hg, hb] at g
            cases g
      | true =>
        refine iteT ⟨Nat.zero_le _, fun t ht => ?_⟩
        have s4 : Same H3 (upd H3 t (.tup [])) := (Same.refl H3).upd_free ht
        refine ⟨_, rfl, _, rfl, dm, _, rfl, DPut.k (k := Sum.inl (i : Int)) (s4 _ _ (t3 _ _ hD)) (small1000 (by rw [hK.len]; have := KI'.len; omega)), ?_⟩
        have hD4 := s4 _ _ (t3 _ _ hD)
        have ts : TSame (upd H3 t (.tup [])) (upd (upd H3 t (.tup [])) dm (.dK (putK kvs (Sum.inl (i : Int)) (.ref t)))) := TSame.upd_dk (fun _ _ e => e) hD4
        have hK4 : KAt (upd (upd H3 t (.tup [])) dm (.dK (putK kvs (Sum.inl (i : Int)) (.ref t)))) (putK kvs (Sum.inl (i : Int)) (.ref t)) (ks ++ [((i : Int), [])]) :=
          ((hK.tsame (t3.trans s4).tups).put (e := ((i : Int), [])) hni upd_same).tsame ts
        refine ⟨_, _, _, _, rfl, (s3.trans s4).upd_free hdm, upd_same, hK4, KI'.good (by omega) (by omega) (by rw [hg, hb]) hni, fun e he => ?_, fun n n0 n1 g => ?_⟩
        · rcases List.mem_append.mp he with he | he
          · have := hlt e he
            omega
          · rw [List.mem_singleton] at he
            subst he
            show (i : Int) < _
            omega
        · rw [List.map_append, List.mem_append]
          by_cases h : n < (i : Int)
          · exact .inl (hgo n n0 h g)
          · have : n = (i : Int) := by omega
            subst this
            exact .inr (List.mem_singleton.mpr rfl)
    · rintro σ H2 ⟨kvs, ks, v3, v4, rfl, s2, hD, hK, KI', hlt, hgo⟩
      rw [hql] at hgo
      clear hlt
      -- as long as there are more
      refine ⟨fun m σ H2 => ∃ (b : Nat) (kvs : List (Key × V)) (ks : List Ent) (v3 v4 v6 : Option V), σ = [some (.ref a), some (.ref pr), some (.ref dm), v3, v4, some (.int (b : Int)), v6] ∧ m = rs.length + 1 - b ∧ Same H H2 ∧ H2 dm = some (.dK kvs) ∧ KAt H2 kvs ks ∧ KI rs many ks ∧
          (∀ n : Int, 0 ≤ n → n < (rs.length : Int) → gd rs n = true → n ∈ ks.map (·.1)) ∧ b ≤ ks.length ∧ (b = ks.length → ∀ n : Int, 0 ≤ n → n < (rs.length : Int) → n ∉ ks.map (·.1) → ∀ l : Int, 0 ≤ l → l < many → nextOf rs n l ∉ ks.map (·.1)),
        ⟨_, 0, kvs, ks, v3, v4, none, rfl, rfl, s2, hD, hK, KI', hgo, Nat.zero_le _, fun e n _ _ _ l _ _ => ?_⟩, ?_⟩
      · have : ks = [] := List.length_eq_zero_iff.mp e.symm
        subst this
        simp
      clear hgo KI' hK hD s2 v3 v4 ks kvs H2
      rintro m σ H2 ⟨b, kvs, ks, v3, v4, v6, rfl, rfl, s2, hD, hK, KI', hgo, hb, hcl⟩
      have hkl := hK.len
      have hkr := KI'.len
      refine ⟨_, rfl, _, rfl, dm, _, rfl, hD, _, _, rfl, rfl, _, rfl, ?_⟩
      rw [hkl]
      refine ite2 (fun hlt => ?_) (fun hge => ?_)
      · have hlt' : b < ks.length := by
          have := of_decide_eq_true hlt
          omega
        refine ⟨fun σ' H' => ∃ m', m' < rs.length + 1 - b ∧ ∃ (b : Nat) (kvs : List (Key × V)) (ks : List Ent) (v3 v4 v6 : Option V), σ' = [some (.ref a), some (.ref pr), some (.ref dm), v3, v4, some (.int (b : Int)), v6] ∧ m' = rs.length + 1 - b ∧ Same H H' ∧ H' dm = some (.dK kvs) ∧ KAt H' kvs ks ∧ KI rs many ks ∧
          (∀ n : Int, 0 ≤ n → n < (rs.length : Int) → gd rs n = true → n ∈ ks.map (·.1)) ∧ b ≤ ks.length ∧ (b = ks.length → ∀ n : Int, 0 ≤ n → n < (rs.length : Int) → n ∉ ks.map (·.1) → ∀ l : Int, 0 ≤ l → l < many → nextOf rs n l ∉ ks.map (·.1)), fun σ' H' z => z, ?_⟩
        refine ⟨_, rfl, dm, _, rfl, hD, ?_⟩
        refine ⟨_, rfl, pr, rfl, ⟨_, SqT.of (s2 _ _ m2)⟩, ?_⟩
        refine for_enum (K := K) (a := pr) (xs := qs.map V.ref) (fun j σ H3 => ∃ (kvs' : List (Key × V)) (ks' tl : List Ent) (v3 v4 v6 : Option V), σ = [some (.ref a), some (.ref pr), some (.ref dm), v3, v4, some (.int (kvs.length : Int)), v6] ∧ Same H H3 ∧ H3 dm = some (.dK kvs') ∧ KAt H3 kvs' ks' ∧ KI rs many ks' ∧
            (∀ n : Int, 0 ≤ n → n < (rs.length : Int) → gd rs n = true → n ∈ ks'.map (·.1)) ∧ ks' = ks ++ tl ∧ (tl = [] → ∀ n : Int, 0 ≤ n → n < (j : Int) → n ∉ ks.map (·.1) → ∀ l : Int, 0 ≤ l → l < many → nextOf rs n l ∉ ks.map (·.1)))
          ⟨kvs, ks, [], v3, v4, v6, rfl, s2, hD, hK, KI', hgo, by simp, fun _ n n0 n1 => by omega⟩ (fun j σ H3 _ ⟨_, _, _, _, _, _, _, s3, _⟩ => SqT.of (s3 _ _ m2)) ?_ ?_
        · rintro j x σ H3 p hx ⟨kvs', ks', tl, v3, v4, v6, rfl, s3, hD3, hK3, KI3, hgo3, htl, hcl3⟩ hp
          have hj : j < rs.length := by
            have := (List.getElem?_eq_some_iff.mp hx).1
            omega
          obtain ⟨r, er⟩ : ∃ r, rs[j]? = some r := ⟨rs[j], by simp [hj]⟩
          obtain ⟨q, z, e1, e2, e3⟩ := m3.2 j r er
          have hrow := G.row r (List.mem_of_getElem? er)
          rw [List.getElem?_map, e1] at hx
          cases hx
          have s4 : Same H (upd H3 p (.tup [.int (j : Nat), .ref q])) := s3.upd_free (s3.free hp)
          have t4 : Same H3 (upd H3 p (.tup [.int (j : Nat), .ref q])) := (Same.refl H3).upd_free hp
          generalize hH4 : upd H3 p (.tup [.int (j : Nat), .ref q]) = H4 at s4 t4
          refine ⟨p, _, rfl, SqT.of (by rw [← hH4]; exact upd_same), rfl, _, _, rfl, _, _, rfl, rfl, ?_⟩
          have hD4 := t4 _ _ hD3
          have hK4 := hK3.tsame t4.tups
          have hkl3 := hK3.len
          have hkr3 := KI3.len
          -- what stays where nothing is put
          have stay : ∀ (H5 : Hp) (v3 v4 v6 : Option V), Same H4 H5 → (tl = [] → (j : Int) ∉ ks.map (·.1) → ∀ l : Int, 0 ≤ l → l < many → nextOf rs (j : Int) l ∉ ks.map (·.1)) →
              ∃ (kvs' : List (Key × V)) (ks' tl : List Ent) (w3 w4 w6 : Option V), [some (V.ref a), some (.ref pr), some (.ref dm), v3, v4, some (.int (kvs.length : Int)), v6] = [some (.ref a), some (.ref pr), some (.ref dm), w3, w4, some (.int (kvs.length : Int)), w6] ∧ Same H H5 ∧ H5 dm = some (.dK kvs') ∧ KAt H5 kvs' ks' ∧ KI rs many ks' ∧
              (∀ n : Int, 0 ≤ n → n < (rs.length : Int) → gd rs n = true → n ∈ ks'.map (·.1)) ∧ ks' = ks ++ tl ∧ (tl = [] → ∀ n : Int, 0 ≤ n → n < ((j + 1 : Nat) : Int) → n ∉ ks.map (·.1) → ∀ l : Int, 0 ≤ l → l < many → nextOf rs n l ∉ ks.map (·.1)) := by
            intro H5 v3 v4 v6 s5 hj'
            refine ⟨kvs', ks', tl, v3, v4, v6, rfl, s4.trans s5, s5 _ _ hD4, hK4.tsame s5.tups, KI3, hgo3, htl, fun e n n0 n1 hn => ?_⟩
            by_cases h : n < (j : Int)
            · exact hcl3 e n n0 h hn
            · have : n = (j : Int) := by omega
              subst this
              exact hj' e hn
          refine ⟨_, rfl, q, _, _, _, rfl, rfl, SqT.of (s4 _ _ e2), rfl, _, rfl, z, dm, r.2, kvs', rfl, s4 _ _ e3, hD4, fun j' t H5 et ht s5 => ?_, fun hno H5 s5 => ?_⟩
          · have hD5 := s5 _ _ hD4
            have hK5 := hK4.tsame s5.tups
            refine ⟨_, rfl, _, rfl, dm, _, rfl, DGet.k (k := Sum.inl (j : Int)) hD5, _, rfl, ?_⟩
            have hS := hK5.isS (j : Int)
            by_cases hin : (j : Int) ∈ ks'.map (·.1)
            · rw [hS, decide_eq_true hin]
              refine iteF (iteF (stay H5 _ _ _ s5 fun e hn => ?_))
              subst e
              rw [htl, List.append_nil] at hin
              exact absurd hin hn
            · rw [hS, decide_eq_false hin]
              refine iteT ?_
              refine ⟨_, rfl, true, rfl, iteT ?_⟩
              -- known[number] = (letter,) + known[room[1][letter]]
              have hj1 : (j' : Int) < many := by
                have h1 := (List.getElem?_eq_some_iff.mp et).1
                have h2 := hrow.1
                omega
              cases hv : valV kvs' (Sum.inl t : Key) with
              | none => rw [hv] at ht; cases ht
              | some v =>
                obtain ⟨i0, e0, z0, f1, f2, rfl, f4⟩ := hK5.get t v hv
                have o0 := KI3.ok i0 e0 f1
                have i0l := (List.getElem?_eq_some_iff.mp f1).1
                have mn := G.mn
                refine ⟨_, rfl, (by show 1 ≤ sizeLine; decide), fun pl hpl => ?_⟩
                have s6 : Same H5 (upd H5 pl (.tup [.int (j' : Int)])) := (Same.refl H5).upd_free hpl
                have u6 : Same H (upd H5 pl (.tup [.int (j' : Int)])) := (s4.trans s5).trans s6
                refine ⟨_, rfl, _, rfl, q, _, _, _, rfl, rfl, SqT.of (u6 _ _ e2), rfl, _, rfl, z, _, _, _, rfl, rfl, SqT.of (u6 _ _ e3), atI_nat (by rw [List.getElem?_map, et]; rfl), dm, _, rfl, by rw [← hv]; exact DGet.k (k := Sum.inl t) (s6 _ _ hD5), ?_⟩
                refine ⟨pl, z0, _, _, rfl, rfl, upd_same, SqT.of (s6 _ _ f4), by simp, ?_, fun zn H7 s7 hzn => ?_⟩
                · rw [List.length_map]
                  exact Nat.le_of_lt (small1000 (by show 1 + e0.2.length ≤ 1000; omega))
                have s57 : Same H5 H7 := s6.trans s7
                have hD7 := s57 _ _ hD5
                refine ⟨_, rfl, _, rfl, dm, _, rfl, DPut.k (k := Sum.inl (j : Int)) hD7 (small1000 (by omega)), ?_⟩
                have ts : TSame H7 (upd H7 dm (.dK (putK kvs' (Sum.inl (j : Int)) (.ref zn)))) := TSame.upd_dk (fun _ _ e => e) hD7
                have hK7 : KAt (upd H7 dm (.dK (putK kvs' (Sum.inl (j : Int)) (.ref zn)))) (putK kvs' (Sum.inl (j : Int)) (.ref zn)) (ks' ++ [((j : Int), (j' : Int) :: e0.2)]) :=
                  ((hK5.tsame s57.tups).put (e := ((j : Int), (j' : Int) :: e0.2)) hin hzn).tsame ts
                have gj : gd rs (j : Int) = false := by
                  cases g : gd rs (j : Int) with
                  | false => rfl
                  | true => exact absurd (hgo3 (j : Int) (by omega) (by omega) g) hin
                refine ⟨_, ks' ++ [((j : Int), (j' : Int) :: e0.2)], tl ++ [((j : Int), (j' : Int) :: e0.2)], _, _, _, rfl, ((s4.trans s5).trans s57).upd_free hdm, upd_same, hK7, KI3.next (by omega) (by omega) (by omega) hj1 gj hin f1 (by rw [next_at er et, f2]), fun n n0 n1 g => ?_, by rw [htl, List.append_assoc], fun e => ?_⟩
                · rw [List.map_append]
                  exact List.mem_append_left _ (hgo3 n n0 n1 g)
                · simp at e
          · have hD5 := s5 _ _ hD4
            have hK5 := hK4.tsame s5.tups
            refine ⟨_, rfl, _, rfl, dm, _, rfl, DGet.k (k := Sum.inl (j : Int)) hD5, _, rfl, ?_⟩
            have hS := hK5.isS (j : Int)
            by_cases hin : (j : Int) ∈ ks'.map (·.1)
            · rw [hS, decide_eq_true hin]
              refine iteF (iteF (stay H5 _ _ _ s5 fun e hn => ?_))
              subst e
              rw [htl, List.append_nil] at hin
              exact absurd hin hn
            · rw [hS, decide_eq_false hin]
              refine iteT ?_
              refine ⟨_, rfl, false, rfl, iteF (stay H5 _ _ _ s5 fun e hn l l0 l1 hm => ?_)⟩
              subst e
              rw [List.append_nil] at htl
              subst htl
              have q1 := hno _ (next_mem er l0 (by rw [hrow.1]; exact l1))
              rw [hK5.isS, decide_eq_true hm] at q1
              cases q1
        · rintro σ H3 ⟨kvs', ks', tl, v3, v4, v6, rfl, s3, hD3, hK3, KI3, hgo3, htl, hcl3⟩
          rw [hql] at hcl3
          have hkl3 := hK3.len
          refine ⟨rs.length + 1 - kvs.length, by omega, kvs.length, kvs', ks', v3, v4, v6, rfl, rfl, s3, hD3, hK3, KI3, hgo3, ?_, fun e => ?_⟩
          · rw [htl, List.length_append]
            omega
          · have : tl = [] := by
              rw [htl, List.length_append, hkl] at e
              exact List.length_eq_zero_iff.mp (by omega)
            subst this
            rw [List.append_nil] at htl
            subst htl
            exact hcl3 rfl
      · have hge' : ks.length ≤ b := by
          have : ¬ ((b : Int) < (ks.length : Int)) := fun z => hge (decide_eq_true z)
          omega
        exact ⟨_, rfl, k dm kvs ks H2 s2 hD hK ⟨KI', hgo, hcl (by omega)⟩⟩
end
end K60
namespace K60
open PySem L2 K20 K21
theorem inV_ints (t : Int) : ∀ fs : List Int, inV (.int t) (fs.map V.int) = decide (t ∈ fs)
  | [] => rfl
  | a :: fs => by
    show (eqV (.int a) (.int t) || inV (.int t) (fs.map V.int)) = _
    rw [inV_ints t fs]
    show ((a == t) || decide (t ∈ fs)) = decide (t ∈ a :: fs)
    by_cases h : a = t
    · subst h
      simp
    · have : (a == t) = false := by simpa using h
      rw [this, Bool.false_or]
      exact decide_eq_decide.mpr ⟨List.mem_cons_of_mem _, fun z => (List.mem_cons.mp z).elim (fun z => absurd z.symm h) id⟩
def spBh : Sp := fun vs H Q _ => ∃ (m : Addr) (a many : Int) (rs : Rms), vs = [.ref m, .int a] ∧ MAt H m many rs ∧ Good many rs ∧ 0 ≤ a ∧ a < (rs.length : Int) ∧
  ∀ (l : Addr) (fs : List Int) (H' : Hp), Same H H' → H' l = some (.lst (fs.map V.int)) → fs.length ≤ rs.length → (∀ x, x ∈ fs ↔ Rch rs many a x) → Q (.ref l) H'
section
variable {P : Program} {w : World} {K : PySem.W.Frag} {mg : Str → Option Value} {base : Heap}
theorem scBh : FnScope nBh pBh (defScope sBh) := ⟨rfl, rfl, rfl, by decide +kernel, rfl, by decide +kernel, by decide +kernel⟩
theorem ok_bh {f : Addr} {fd : FuncData} (F : Fun K "_law_behind" "_law_behind" sBh f fd) (T : Txt mg) : FnOk P w K mg base CX0 1 f fd pBh spBh := by
  refine F.ok scBh (fun vs H Q E h => ?_) (fun cdv A outer s H vs Q E hr h => ?_)
  · obtain ⟨m, a, many, rs, rfl, _⟩ := h
    rfl
  · obtain ⟨m, a, many, rs, rfl, M, G, a0, a1, k⟩ := h
    obtain ⟨pr, rqs, m1, m2, m3⟩ := id M
    refine ⟨_, pss_cons (ps_set (i := 2) scBh.nd rfl (Or.inl rfl) (pe_lst (pa_cons (pv 1) pa_nil)))
      (pss_cons (ps_set (i := 3) scBh.nd rfl (Or.inl rfl) pe_int)
      (pss_cons (ps_while PassesOwn.never (pt_cmpR op_lt (pv 3) (pe_callB call_len_seq (by rfl) T.len PySem.boot_len (pa_cons (pv 2) pa_nil)) (nomark _))
        (pss_cons (ps_for PassesOwn.never rfl (pi_tup (pe_ix ix_tup (pe_ix ix_tup (pe_ix ix_tup (pv 0) pe_int (fun _ _ => rfl)) (pe_ix ix_list (pv 2) (pv 3) (fun _ _ => rfl)) (fun _ _ => rfl)) pe_int (fun _ _ => rfl))) (pg_name (i := 4) scBh.nd rfl (Or.inl rfl))
          (pss_one (ps_if (pt_cmpR op_notIn_seq (pv 4) (pv 2) (by with_unfolding_all rfl))
            (pss_one (ps_expr (pe_bm PySem.F.plainAttrs_list PySem.F.slot_list_append PySem.F.type_list_append mt_append (pv 2) (pa_cons (pv 4) pa_nil))))
            pss_nil)))
        (pss_one (ps_set (i := 3) scBh.nd rfl (Or.inl rfl) (pe_op op_add (pv 3) pe_int)))))
      (pss_one (ps_ret (pv 2))))), ?_⟩
    refine ⟨_, rfl, (by show 1 ≤ sizeLine; decide), fun l hl => ?_⟩
    have s0 : Same H (upd H l (.lst [.int a])) := (Same.refl H).upd_free hl
    refine ⟨fun mm σ H2 => ∃ (fs : List Int) (d : Nat) (v4 : Option V), σ = [some (.ref m), some (.int a), some (.ref l), some (.int (d : Int)), v4] ∧ mm = rs.length + 1 - d ∧ Same H H2 ∧ H2 l = some (.lst (fs.map V.int)) ∧ HB rs many a fs d ∧ d ≤ fs.length,
      ⟨_, [a], 0, none, rfl, rfl, s0, upd_same, HB.init a0 a1, Nat.zero_le _⟩, ?_⟩
    rintro mm σ H2 ⟨fs, d, v4, rfl, rfl, s2, hL, B, hdl⟩
    have hlen := B.len
    have gle := G.le
    refine ⟨_, rfl, _, rfl, l, _, rfl, .inl (SqL.of hL), _, _, rfl, rfl, _, rfl, ?_⟩
    rw [List.length_map]
    refine ite2 (fun hlt => ?_) (fun hge => ?_)
    · have hlt' : d < fs.length := by
        have := of_decide_eq_true hlt
        omega
      obtain ⟨x0, hx0⟩ : ∃ x0, fs[d]? = some x0 := ⟨fs[d], by simp [hlt']⟩
      have ok0 := B.ok x0 (List.mem_of_getElem? hx0)
      refine ⟨fun σ' H' => ∃ m', m' < rs.length + 1 - d ∧ ∃ (fs : List Int) (d : Nat) (v4 : Option V), σ' = [some (.ref m), some (.int a), some (.ref l), some (.int (d : Int)), v4] ∧ m' = rs.length + 1 - d ∧ Same H H' ∧ H' l = some (.lst (fs.map V.int)) ∧ HB rs many a fs d ∧ d ≤ fs.length, fun σ' H' z => z, ?_⟩
      obtain ⟨r, er⟩ := some_at rs x0 ok0.1 ok0.2.1
      obtain ⟨rq, rz, r1, r2, r3⟩ := (m3.same s2).2 _ _ er
      have hrow := G.row r (List.mem_of_getElem? er)
      refine ⟨_, rfl, m, _, _, _, rfl, rfl, SqT.of (s2 _ _ m1), rfl, _, rfl, _, rfl, l, _, _, _, rfl, rfl, SqL.of hL, atI_nat (by rw [List.getElem?_map, hx0]; rfl), pr, _, _, _, rfl, rfl, SqT.of (s2 _ _ m2), atI_int ok0.1 (by rw [List.getElem?_map, r1]; rfl), rq, _, _, _, rfl, rfl, SqT.of r2, rfl, rz, rfl, ⟨_, SqT.of r3⟩, ?_⟩
      refine for_tup (K := K) (a := rz) (xs := r.2.map V.int) (fun j σ H3 => ∃ (fs' : List Int) (v4 : Option V), σ = [some (.ref m), some (.int a), some (.ref l), some (.int (d : Int)), v4] ∧ Same H H3 ∧ TSame H2 H3 ∧ H3 l = some (.lst (fs'.map V.int)) ∧ HV rs many a fs' d x0 j)
        ⟨fs, v4, rfl, s2, fun _ _ e => e, hL, HV.start B hx0⟩ (fun j σ H3 _ ⟨_, _, _, _, ts, _⟩ => SqT.of (ts _ _ r3)) ?_ ?_
      · rintro j x σ H3 hx ⟨fs', v4, rfl, s3, ts3, hL3, VI⟩
        rw [List.getElem?_map] at hx
        cases et : r.2[j]? with
        | none => rw [et] at hx; cases hx
        | some t =>
          rw [et] at hx
          cases hx
          have hj : (j : Int) < many := by
            have h1 := (List.getElem?_eq_some_iff.mp et).1
            have h2 := hrow.1
            omega
          have htn : nextOf rs x0 j = t := by
            unfold nextOf
            rw [getD_of er, Int.toNat_natCast, getD_of et]
          have lenV := VI.len
          refine ⟨_, rfl, _, rfl, l, _, rfl, .inl (SqL.of hL3), rfl, ints_flat fs', !inV _ _, rfl, ?_⟩
          rw [inV_ints]
          by_cases hin : t ∈ fs'
          · rw [decide_eq_true hin]
            exact iteF ⟨fs', _, rfl, s3, ts3, hL3, VI.old (by rw [htn]; exact hin)⟩
          · rw [decide_eq_false hin]
            refine iteT ?_
            refine ⟨_, rfl, .inl ⟨rfl, _, SqL.of hL3⟩, _, rfl, l, _, _, rfl, rfl, hL3, ?_, ?_⟩
            · rw [List.length_map]
              exact small1000 (by omega)
            · refine ⟨fs' ++ [t], _, rfl, s3.upd_free hl, TSame.upd_lst ts3 hL3, ?_, ?_⟩
              · rw [upd_same, List.map_append]
                rfl
              · have q := VI.new G hj (by rw [htn]; exact hin)
                rw [htn] at q
                exact q
      · rintro σ H3 ⟨fs', v4, rfl, s3, ts3, hL3, VI⟩
        rw [List.length_map] at VI
        have hd' : d + 1 ≤ fs'.length := (List.getElem?_eq_some_iff.mp VI.pl).1
        refine ⟨_, rfl, _, _, rfl, rfl, ?_⟩
        exact ⟨rs.length + 1 - (d + 1), by omega, fs', d + 1, _, rfl, rfl, s3, hL3, VI.done hrow.1, hd'⟩
    · have hge' : fs.length ≤ d := by
        have : ¬ ((d : Int) < (fs.length : Int)) := fun z => hge (decide_eq_true z)
        omega
      have ed : d = fs.length := by omega
      subst ed
      exact ⟨_, rfl, k l fs H2 s2 hL hlen (B.all G)⟩
end
end K60
namespace K21
open PySem L2 K20
def spRn : Sp := fun vs H Q _ => ∃ (c many most : Int), vs = [.int c, .int many, .int most] ∧ 0 ≤ many ∧ many ≤ 8 ∧ 0 ≤ most ∧ most ≤ 200 ∧ ∀ (p : Addr) (run : List Int) (H' : Hp), Same H H' → H' p = some (.tup (run.map V.int)) → (∀ l ∈ run, 0 ≤ l ∧ l < many) → (run.length : Int) ≤ most → Q (.ref p) H'
section
variable {P : Program} {w : World} {K : PySem.W.Frag} {mg : Str → Option Value} {base : Heap}
theorem scRB : FnScope ["machine", "room", "run", "rooms", "here", "letter"] ["machine", "room", "run"] (defScope sRB) := ⟨rfl, rfl, rfl, by decide +kernel, rfl, by decide +kernel, by decide +kernel⟩
theorem ok_rb {f : Addr} {fd : FuncData} (F : Fun K "room_behind" "room_behind" sRB f fd) : FnOk P w K mg base CX0 1 f fd ["machine", "room", "run"] spRB := by
  refine F.ok scRB (fun vs H Q E h => ?_) (fun cdv A outer s H vs Q E hr h => ?_)
  · obtain ⟨a, p, h, many, rs, run, rfl, _⟩ := h
    rfl
  · obtain ⟨a, p, h, many, rs, run, rfl, M, G, h0, h1, hp, hl, k⟩ := h
    obtain ⟨pr, qs, m1, m2, m3⟩ := M
    refine ⟨_, pss_cons (ps_set (i := 3) scRB.nd rfl (Or.inl rfl) (pe_ix ix_tup (pv 0) pe_int (fun _ _ => rfl)))
      (pss_cons (ps_set (i := 4) scRB.nd rfl (Or.inl rfl) (pv 1))
      (pss_cons (ps_for PassesOwn.never rfl (pi_tup (pv 2)) (pg_name (i := 5) scRB.nd rfl (Or.inl rfl))
        (pss_one (ps_set (i := 4) scRB.nd rfl (Or.inl rfl) (pe_ix ix_tup (pe_ix ix_tup (pe_ix ix_tup (pv 3) (pv 4) (fun _ _ => rfl)) pe_int (fun _ _ => rfl)) (pv 5) (fun _ _ => rfl)))))
      (pss_one (ps_ret (pv 4))))), ?_⟩
    refine ⟨_, rfl, a, _, _, _, rfl, rfl, SqT.of m1, rfl, _, rfl, _, rfl, p, rfl, ⟨_, SqT.of hp⟩, ?_⟩
    refine for_tup (K := K) (a := p) (xs := run.map V.int) (fun i σ H2 => H2 = H ∧ ∃ v, σ = [some (.ref a), some (.int h), some (.ref p), some (.ref pr), some (.int (walkM rs h (run.take i))), v]) ⟨rfl, none, rfl⟩ (fun i σ H2 _ ⟨e, _⟩ => by rw [e]; exact SqT.of hp) ?_ ?_
    · rintro i x σ H2 hx ⟨rfl, v, rfl⟩
      rw [List.getElem?_map] at hx
      cases el : run[i]? with
      | none => rw [el] at hx; cases hx
      | some l =>
        rw [el] at hx
        cases hx
        have hw := walk_in G (run.take i) h h0 h1 (fun l' h' => hl l' (List.mem_of_mem_take h'))
        have hll := hl l (List.mem_of_getElem? el)
        obtain ⟨q, z, b, ns, e1, e2, e3, e4, _⟩ := arrow G m3 hw.1 hw.2 hll.1 hll.2
        refine ⟨_, rfl, _, rfl, pr, _, _, _, rfl, rfl, SqT.of m2, e1, q, _, _, _, rfl, rfl, SqT.of e2, rfl, _, rfl, z, _, _, _, rfl, rfl, SqT.of e3, e4, ?_⟩
        refine ⟨rfl, some (.int l), ?_⟩
        rw [walk_take rs h run i l el]
        rfl
    · rintro σ H2 ⟨rfl, v, rfl⟩
      refine ⟨_, rfl, ?_⟩
      rw [List.take_of_length_le (by simp)]
      exact k
theorem scRo : FnScope ["_law_machine_here", "_law_room_here", "_law_run_here", "_law_letter"] ["_law_machine_here", "_law_room_here", "_law_run_here"] (defScope sRo) := ⟨rfl, rfl, rfl, by decide +kernel, rfl, by decide +kernel, by decide +kernel⟩
theorem ok_ro {f : Addr} {fd : FuncData} (F : Fun K "_law_room" "_law_room" sRo f fd) : FnOk P w K mg base CX0 1 f fd ["_law_machine_here", "_law_room_here", "_law_run_here"] spRB := by
  refine F.ok scRo (fun vs H Q E h => ?_) (fun cdv A outer s H vs Q E hr h => ?_)
  · obtain ⟨a, p, h, many, rs, run, rfl, _⟩ := h
    rfl
  · obtain ⟨a, p, h, many, rs, run, rfl, M, G, h0, h1, hp, hl, k⟩ := h
    obtain ⟨pr, qs, m1, m2, m3⟩ := M
    refine ⟨_, pss_cons (ps_for PassesOwn.never rfl (pi_tup (pv 2)) (pg_name (i := 3) scRo.nd rfl (Or.inl rfl))
        (pss_one (ps_set (i := 1) scRo.nd rfl (Or.inl rfl) (pe_ix ix_tup (pe_ix ix_tup (pe_ix ix_tup (pe_ix ix_tup (pv 0) pe_int (fun _ _ => rfl)) (pv 1) (fun _ _ => rfl)) pe_int (fun _ _ => rfl)) (pv 3) (fun _ _ => rfl)))))
      (pss_one (ps_ret (pv 1))), ?_⟩
    refine ⟨_, rfl, p, rfl, ⟨_, SqT.of hp⟩, ?_⟩
    refine for_tup (K := K) (a := p) (xs := run.map V.int) (fun i σ H2 => H2 = H ∧ ∃ v, σ = [some (.ref a), some (.int (walkM rs h (run.take i))), some (.ref p), v]) ⟨rfl, none, rfl⟩ (fun i σ H2 _ ⟨e, _⟩ => by rw [e]; exact SqT.of hp) ?_ ?_
    · rintro i x σ H2 hx ⟨rfl, v, rfl⟩
      rw [List.getElem?_map] at hx
      cases el : run[i]? with
      | none => rw [el] at hx; cases hx
      | some l =>
        rw [el] at hx
        cases hx
        have hw := walk_in G (run.take i) h h0 h1 (fun l' h' => hl l' (List.mem_of_mem_take h'))
        have hll := hl l (List.mem_of_getElem? el)
        obtain ⟨q, z, b, ns, e1, e2, e3, e4, _⟩ := arrow G m3 hw.1 hw.2 hll.1 hll.2
        refine ⟨_, rfl, a, _, _, _, rfl, rfl, SqT.of m1, rfl, _, rfl, pr, _, _, _, rfl, rfl, SqT.of m2, e1, q, _, _, _, rfl, rfl, SqT.of e2, rfl, _, rfl, z, _, _, _, rfl, rfl, SqT.of e3, e4, ?_⟩
        refine ⟨rfl, some (.int l), ?_⟩
        rw [walk_take rs h run i l el]
        rfl
    · rintro σ H2 ⟨rfl, v, rfl⟩
      refine ⟨_, rfl, ?_⟩
      rw [List.take_of_length_le (by simp)]
      exact k
theorem scRu : FnScope ["_law_cell", "_law_many", "_law_most", "_law_number", "_law_run_here", "_law_k"] ["_law_cell", "_law_many", "_law_most"] (defScope sRu) := ⟨rfl, rfl, rfl, by decide +kernel, rfl, by decide +kernel, by decide +kernel⟩
theorem ok_ru {f : Addr} {fd : FuncData} (F : Fun K "_law_run" "_law_run" sRu f fd) (T : Txt mg) : FnOk P w K mg base CX0 1 f fd ["_law_cell", "_law_many", "_law_most"] spRn := by
  refine F.ok scRu (fun vs H Q E h => ?_) (fun cdv A outer s H vs Q E hr h => ?_)
  · obtain ⟨c, many, most, rfl, _⟩ := h
    rfl
  · obtain ⟨c, many, most, rfl, m0, m1, t0, t1, k⟩ := h
    refine ⟨_, pss_cons (ps_if (pt_cmpR op_eq (pv 1) pe_int (nomark _)) (pss_one (ps_ret (pe_tup pa_nil))) pss_nil)
      (pss_cons (ps_set (i := 3) scRu.nd rfl (Or.inl rfl) (pe_op op_mod (pv 0) pe_int))
      (pss_cons (ps_set (i := 4) scRu.nd rfl (Or.inl rfl) (pe_lst pa_nil))
      (pss_cons (ps_for PassesOwn.never rfl (pi_range1 rfl T.range (pa_cons (pe_op op_mod (pv 3) (pe_op op_add (pv 2) pe_int)) pa_nil)) (pg_name (i := 5) scRu.nd rfl (Or.inl rfl))
        (pss_cons (ps_set (i := 3) scRu.nd rfl (Or.inl rfl) (pe_op op_mod (pe_op op_mul (pe_op op_add (pe_op op_add (pv 3) (pv 5)) pe_int) pe_int) pe_int))
        (pss_one (ps_expr (pe_bm PySem.F.plainAttrs_list PySem.F.slot_list_append PySem.F.type_list_append mt_append (pv 4) (pa_cons (pe_op op_mod (pv 3) (pv 1)) pa_nil))))))
      (pss_one (ps_ret (pe_callTy call_tuple_of (by rfl) T.tuple PyProof.Rows.boot_tuple (pa_cons (pv 4) pa_nil))))))), ?_⟩
    refine ⟨_, rfl, rfl, _, rfl, ?_⟩
    refine ite2 (fun hz => ?_) (fun hz => ?_)
    · refine ⟨Nat.zero_le _, fun p hp => ?_⟩
      exact k p [] _ ((Same.refl H).upd_free hp) upd_same (fun l hl => by simp at hl) (by show (0 : Int) ≤ most; omega)
    · have hm : 0 < many := by
        have : ¬ many = 0 := fun e => hz (by rw [e]; rfl)
        omega
      refine ⟨_, rfl, _, _, rfl, rfl, (by show (0 : Int) < 2147483647; decide), Nat.zero_le _, fun l hl => ?_⟩
      refine ⟨_, rfl, _, rfl, _, _, rfl, rfl, _, _, rfl, rfl, by omega, ?_⟩
      have b0 : 0 ≤ c % 2147483647 % (most + 1) := Int.emod_nonneg _ (by omega)
      have b1 : c % 2147483647 % (most + 1) < most + 1 := Int.emod_lt_of_pos _ (by omega)
      refine ⟨_, rfl, by omega, by omega, ?_⟩
      refine for_range (n := (c % 2147483647 % (most + 1)).toNat) (fun i σ H2 => ∃ (n : Int) (ls : List Int) (v : Option V), σ = [some (.int c), some (.int many), some (.int most), some (.int n), some (.ref l), v] ∧ 0 ≤ n ∧ n < 2147483647 ∧ Same H H2 ∧ H2 l = some (.lst (ls.map V.int)) ∧ ls.length ≤ i ∧ ∀ x ∈ ls, 0 ≤ x ∧ x < many)
        ⟨c % 2147483647, [], none, rfl, by omega, by omega, (Same.refl H).upd_free hl, upd_same, Nat.le_refl _, fun x hx => by simp at hx⟩ ?_ ?_
      · rintro i σ H2 hi ⟨n, ls, v, rfl, n0, n1, s2, hL, hlen, hin⟩
        have i1 : (i : Int) ≤ 200 := by omega
        refine ⟨_, rfl, _, rfl, _, _, rfl, rfl, _, _, rfl, rfl, _, _, rfl, rfl, .inl ⟨by omega, by omega⟩, _, _, rfl, rfl, (by show (0 : Int) < 2147483647; decide), ?_⟩
        refine ⟨_, rfl, .inl ⟨rfl, _, SqL.of hL⟩, _, rfl, _, rfl, _, _, rfl, rfl, hm, l, _, _, rfl, rfl, hL, ?_, ?_⟩
        · rw [List.length_map]
          exact small1000 (by omega)
        · refine ⟨_, ls ++ [(n + (0 + (i : Int)) + 1) * 742938285 % 2147483647 % many], _, rfl, by omega, by omega, s2.upd_free hl, ?_, ?_, ?_⟩
          · rw [upd_same, List.map_append]
            rfl
          · rw [List.length_append, List.length_singleton]
            omega
          · intro x hx
            rcases List.mem_append.mp hx with hx | hx
            · exact hin x hx
            · rw [List.mem_singleton] at hx
              subst hx
              exact ⟨Int.emod_nonneg _ (by omega), Int.emod_lt_of_pos _ hm⟩
      · rintro σ H2 ⟨n, ls, v, rfl, n0, n1, s2, hL, hlen, hin⟩
        refine ⟨_, rfl, l, _, rfl, .inl ⟨SqL.of hL, fun p hp => ?_⟩⟩
        exact k p ls _ (s2.upd_free (s2.free hp)) upd_same hin (by omega)
end
end K21
namespace K60
open PySem L2 K20 K21
def spUs : Sp := fun vs H Q _ => ∃ (m : Addr) (many : Int) (rs : Rms), vs = [.ref m] ∧ MAt H m many rs ∧ Good many rs ∧ rs.length < 64 ∧
  ∀ (p : Addr) (us : List Int) (H' : Hp), Same H H' → H' p = some (.tup (us.map V.int)) → us.Pairwise (· < ·) → us.length ≤ rs.length → (∀ x, x ∈ us ↔ Rch rs many 0 x ∧ ∃ g, Rch rs many x g ∧ gd rs g = true) → Q (.ref p) H'
section
variable {P : Program} {w : World} {K : PySem.W.Frag} {mg : Str → Option Value} {base : Heap}
theorem scUs : FnScope ["machine", "known"] ["machine"] (defScope sUs) := ⟨rfl, rfl, rfl, by decide +kernel, rfl, by decide +kernel, by decide +kernel⟩
def scopeU : Scope := { kind := .function, names := [(".0", .local), ("room", .local), ("way", .local), ("known", .free)], isGenerator := false, isCoroutine := false, more := [] }
theorem scU : BlkScope (defScope sUs) ["machine", "known"] ["room", "way"] ["known"] [1] scopeU := ⟨rfl, by decide +kernel, by decide +kernel, by decide +kernel, rfl, by decide +kernel, by decide +kernel⟩
theorem ok_us {f fR fL fY : Addr} {fd fdR fdL fdY : FuncData} (F : Fun K "useful" "useful" sUs f fd) (T : Txt mg)
    (FR : Fun K "runs_to_good" "runs_to_good" sRG fR fdR) (bR : Binds K fdR ["machine"] []) (gR : mg "runs_to_good" = some (.ref fR))
    (FL : Fun K "letter_into" "letter_into" sLI fL fdL) (bL : Binds K fdL ["nexts", "known"] []) (gL : mg "letter_into" = some (.ref fL))
    (FY : Fun K "ways" "ways" sWy fY fdY) (bY : Binds K fdY ["machine"] []) (gY : mg "ways" = some (.ref fY)) :
    FnOk P w K mg base CX0 3 f fd ["machine"] spUs := by
  have GR : FnOk P w K mg base CX0 2 fR fdR ["machine"] spRG := ok_rg FR T FL bL gL
  have GY : FnOk P w K mg base CX0 1 fY fdY ["machine"] spWy := ok_wy FY T
  refine F.ok scUs (fun vs H Q E h => ?_) (fun cdv A outer s H vs Q E hr h => ?_)
  · obtain ⟨m, many, rs, rfl, _⟩ := h
    rfl
  · obtain ⟨m, many, rs, rfl, M, G, h64, k⟩ := h
    have hr1 : Room 1 _ := hr.mono (by decide)
    have hu := hu_of hr
    refine ⟨_, pss_cons (ps_set (i := 1) scUs.nd rfl (Or.inr rfl) (pe_call GR hr rfl gR FR.kp bR .nil pass0 (pa_cons (pv 0) pa_nil)))
      (pss_one (ps_ret (pe_callTy call_tuple_of (by rfl) T.tuple PyProof.Rows.boot_tuple (pa_cons (pe_callB call_sorted (by rfl) T.sorted PyProof.Rows.boot_sorted (pa_cons
        (pe_lc (g := gTup K 2 (gCons (gName 0) (gCons (gName 1) gNil))) scU rfl rfl rfl (pi_tup (pe_call GY hr1 rfl gY FY.kp bY .nil pass0 (pa_cons (pv 0) pa_nil))) (fun fp C s1 H1 => pg_tup (n := 2) rfl (pgs_cons (pg_name (i := 0) scU.nd rfl (Or.inl rfl)) (pgs_cons (pg_name (i := 1) scU.nd rfl (Or.inl rfl)) pgs_nil)))
          (fun fp C s1 H1 => pts_one (pt_cmp (pc_din hu (pv 0) (pv 2)))) (fun fp C s1 H1 => pv 0)) pa_nil)) pa_nil)))), ?_⟩
    refine ⟨_, rfl, m, many, rs, rfl, M, G, fun dm kvs ks H1 s1 hD hK KD => ?_⟩
    refine ⟨_, rfl, m, many, rs, rfl, M.same s1, G, fun p qs H2 s2 hp hP B => ?_⟩
    have hlenF := B.len
    have gle := G.le
    generalize waysM rs = fs at hP B hlenF
    have hql : (qs.map V.ref).length = fs.length := by rw [List.length_map]; exact hP.1
    refine ⟨p, rfl, ⟨_, SqT.of hp⟩, fun D hD' => ?_⟩
    refine lc_tup2 (K := K) (a := p) (xs := qs.map V.ref) (fun i ys H3 => Same H2 H3 ∧ H3 D = some (.lst ys) ∧ ys = (((fs.take i).map (·.1)).filter fun x => decide (x ∈ ks.map (·.1))).map V.int) (Nat.le_of_lt (small1000 (by omega)))
      ⟨(Same.refl H2).upd_free hD', upd_same, by simp⟩ (fun i ys H3 h => ?_) (fun i ys H3 h => SqT.of (h.1 _ _ hp)) ?_ ?_
    · rw [h.2.2, List.length_map]
      refine Nat.le_trans (List.length_filter_le _ _) ?_
      rw [List.length_map, List.length_take]
      exact Nat.min_le_left _ _
    · rintro i ys H3 x hx ⟨u1, u2, rfl⟩
      have hi : i < fs.length := by
        have := (List.getElem?_eq_some_iff.mp hx).1
        omega
      obtain ⟨e, he⟩ : ∃ e, fs[i]? = some e := ⟨fs[i], by simp [hi]⟩
      obtain ⟨q, z, f1, f2, f3⟩ := hP.2 i e he
      rw [List.getElem?_map, f1] at hx
      cases hx
      refine ⟨q, _, _, rfl, SqT.of (u1 _ _ f2), fun N M' hN hM => ?_⟩
      have hD3 := u1 _ _ (s2 _ _ hD)
      have tk : (fs.take (i + 1)).map (·.1) = (fs.take i).map (·.1) ++ [e.1] := by rw [List.take_add_one, he, List.map_append]; rfl
      refine ⟨_, rfl, _, rfl, dm, _, rfl, DGet.k (k := Sum.inl e.1) hD3, _, rfl, ?_⟩
      rw [hK.isS e.1]
      by_cases hin : e.1 ∈ ks.map (·.1)
      · rw [decide_eq_true hin]
        refine iteT ⟨_, rfl, hN _ H3 u2 ⟨u1.upd_free hD', upd_same, ?_⟩⟩
        rw [tk, List.filter_append, List.map_append]
        simp [hin]
      · rw [decide_eq_false hin]
        refine iteF (hM H3 ⟨u1, u2, ?_⟩)
        rw [tk, List.filter_append, List.map_append]
        simp [hin]
    · rintro ys H3 ⟨u1, u2, rfl⟩
      rw [hql, List.take_of_length_le (Nat.le_refl _)] at u2
      generalize hus : ((fs.map (·.1)).filter fun x => decide (x ∈ ks.map (·.1))) = us at u2
      have ul : us.length ≤ rs.length := by
        rw [← hus]
        refine Nat.le_trans (List.length_filter_le _ _) ?_
        rw [List.length_map]
        exact hlenF
      have und : us.Nodup := by
        rw [← hus]
        exact B.nd.sublist List.filter_sublist
      refine ⟨D, us, rfl, SqL.of u2, by omega, fun l us' hl hpm hso => ?_⟩
      refine ⟨l, _, rfl, .inl ⟨SqL.of upd_same, fun t ht => ?_⟩⟩
      have v1 : Same H3 (upd H3 l (.lst (us'.map V.int))) := (Same.refl H3).upd_free hl
      refine k t us' _ (((s1.trans s2).trans u1).trans (v1.trans ((Same.refl _).upd_free ht))) upd_same (inc_of hso (hpm.nodup_iff.mpr und)) (by rw [hpm.length_eq]; exact ul) fun x => ?_
      rw [hpm.mem_iff, ← hus, List.mem_filter, ways_iff G B x, decide_eq_true_iff]
      refine and_congr_right fun hr0 => ?_
      obtain ⟨run, g1, g2⟩ := hr0
      have hp0 : (0 : Int) < rs.length := by have := G.pos; omega
      have q := walk_in G run 0 (Int.le_refl 0) hp0 g1
      rw [g2] at q
      exact KD.iff G q.1 q.2
end
end K60
namespace K61
open PySem L2 K20 K21 K60

def Sh (rs : Rms) (many : Int) (run : List Int) (hd tl : Bool) : Prop := ∃ x y, Lts many x ∧ Lts many y ∧ (hd = true → x = []) ∧ (tl = true → y = []) ∧ gd rs (walkM rs (walkM rs (walkM rs 0 x) run) y) = true
structure Two (H : Hp) (rs : Rms) (many : Int) (run : List Int) (hd tl : Bool) (q : Addr) (z1 z2 : Addr) (x y : List Int) : Prop where
  hq : H q = some (.tup [.ref z1, .ref z2])
  h1 : H z1 = some (.tup (x.map V.int))
  h2 : H z2 = some (.tup (y.map V.int))
  l1 : Lts many x
  l2 : Lts many y
  n1 : x.length ≤ rs.length
  n2 : y.length ≤ rs.length
  g : gd rs (walkM rs (walkM rs (walkM rs 0 x) run) y) = true
  hd : hd = true → x = []
  tl : tl = true → y = []
def spTh : Sp := fun vs H Q _ => ∃ (m p : Addr) (hd tl : Bool) (many : Int) (rs : Rms) (run : List Int), vs = [.ref m, .ref p, .bl hd, .bl tl] ∧ MAt H m many rs ∧ Good many rs ∧ H p = some (.tup (run.map V.int)) ∧ Lts many run ∧
  ∀ (b : Bool) (H' : Hp), Same H H' → (b = true ↔ Sh rs many run hd tl) → Q (.bl b) H'
theorem dsT_ints {K : PySem.W.Frag} {H : Hp} : ∀ ns : List Int, DsAt K H (ns.map V.int) (ns.map PyData.int)
  | [] => .nil
  | n :: ns => .cons (.int n) (dsT_ints ns)
theorem okL_ints (ns : List Int) : DOk (.list (ns.map PyData.int)) := ⟨PyProof.Rows.canLayAll_ints ns, by rw [PyData.depth, PyProof.Rows.depthAll_ints]; decide⟩
theorem eqvL_nil (ns : List Int) : PyData.eqv (.list (ns.map PyData.int)) (.list []) = decide (ns = []) := by
  cases ns with
  | nil => rfl
  | cons n ns => rfl
theorem nilL_ok : DOk (.list []) := ⟨rfl, by decide⟩
end K61
namespace K61
open PySem L2 K20 K21 K60
section
variable {P : Program} {w : World} {K : PySem.W.Frag} {mg : Str → Option Value} {base : Heap}

theorem scTh : FnScope ["_law_machine_here", "_law_run_here", "_law_head", "_law_tail", "_law_room_here", "_law_there_here", "_law_ends"] ["_law_machine_here", "_law_run_here", "_law_head", "_law_tail"] (defScope sTh) := ⟨rfl, rfl, rfl, by decide +kernel, rfl, by decide +kernel, by decide +kernel⟩
def scopeE : Scope := { kind := .function, names := [(".0", .local), ("_law_end", .local), ("_law_machine_here", .free)], isGenerator := false, isCoroutine := false, more := [] }
theorem scE : BlkScope (defScope sTh) ["_law_machine_here", "_law_run_here", "_law_head", "_law_tail", "_law_room_here", "_law_there_here", "_law_ends"] ["_law_end"] ["_law_machine_here"] [0] scopeE := ⟨rfl, by decide +kernel, by decide +kernel, by decide +kernel, rfl, by decide +kernel, by decide +kernel⟩
theorem ok_th {f fH fO : Addr} {fd fdH fdO : FuncData} (F : Fun K "_law_there" "_law_there" sTh f fd) (T : Txt mg)
    (FH : Fun K "_law_behind" "_law_behind" sBh fH fdH) (bH : Binds K fdH pBh []) (gH : mg "_law_behind" = some (.ref fH))
    (FO : Fun K "_law_room" "_law_room" sRo fO fdO) (bO : Binds K fdO ["_law_machine_here", "_law_room_here", "_law_run_here"] []) (gO : mg "_law_room" = some (.ref fO)) :
    FnOk P w K mg base CX0 2 f fd ["_law_machine_here", "_law_run_here", "_law_head", "_law_tail"] spTh := by
  have GH : FnOk P w K mg base CX0 1 fH fdH pBh spBh := ok_bh FH T
  have GO : FnOk P w K mg base CX0 1 fO fdO ["_law_machine_here", "_law_room_here", "_law_run_here"] spRB := ok_ro FO
  refine F.ok scTh (fun vs H Q E h => ?_) (fun cdv A outer s H vs Q E hr h => ?_)
  · obtain ⟨m, p, hd, tl, many, rs, run, rfl, _⟩ := h
    rfl
  · obtain ⟨m, p, hd, tl, many, rs, run, rfl, M, G, hp, hl, k⟩ := h
    have hu64 := hr.units
    obtain ⟨pr, rqs, m1, m2, m3⟩ := id M
    have gle := G.le
    have hp0 : (0 : Int) < rs.length := by have := G.pos; omega
    refine ⟨_, pss_cons (ps_for PassesOwn.never rfl (pi_list (pe_cut (pe_ifExp (pt_val (pv 2)) (pe_lst (pa_cons pe_int pa_nil)) (pe_call GH hr rfl gH FH.kp bH .nil pass0 (pa_cons (pv 0) (pa_cons pe_int pa_nil)))))) (pg_name (i := 4) scTh.nd rfl (Or.inl rfl))
        (pss_cons (ps_set (i := 5) scTh.nd rfl (Or.inl rfl) (pe_call GO hr rfl gO FO.kp bO .nil pass0 (pa_cons (pv 0) (pa_cons (pv 4) (pa_cons (pv 1) pa_nil)))))
        (pss_cons (ps_cut (ps_set (i := 6) scTh.nd rfl (Or.inl rfl) (pe_ifExp (pt_val (pv 3)) (pe_lst (pa_cons (pv 5) pa_nil)) (pe_call GH hr rfl gH FH.kp bH .nil pass0 (pa_cons (pv 0) (pa_cons (pv 5) pa_nil))))))
        (pss_one (ps_if (pt_cmpR (op_neD hu64) (pe_lc scE rfl rfl rfl (pi_list (pv 6)) (fun fp C s1 H1 => pg_name (i := 0) scE.nd rfl (Or.inl rfl))
            (fun fp C s1 H1 => pts_one (pt_val (pe_ix (r := rIxT K) ix_tup (pe_ix (r := rIxT K) ix_tup (pe_ix (r := rIxT K) ix_tup (pv 1) pe_int (fun _ _ => rfl)) (pv 0) (fun _ _ => rfl)) pe_int (fun _ _ => rfl)))) (fun fp C s1 H1 => pe_int)) (pe_lst pa_nil) (nomark _)) (pss_one (ps_ret pe_bl)) pss_nil)))))
      (pss_one (ps_ret pe_bl)), ?_⟩
    -- the rooms at which it may begin
    refine ⟨fun v H' => ∃ (l : Addr) (fs : List Int), v = .ref l ∧ Same H H' ∧ H' l = some (.lst (fs.map V.int)) ∧ (∀ x, x ∈ fs ↔ ∃ xr, Lts many xr ∧ (hd = true → xr = []) ∧ walkM rs 0 xr = x), ?_, ?_⟩
    · refine ⟨_, rfl, hd, rfl, ?_⟩
      cases hd with
      | true =>
        refine iteT ⟨(by show 1 ≤ sizeLine; decide), fun l hl' => ⟨l, [0], rfl, (Same.refl H).upd_free hl', upd_same, fun x => ?_⟩⟩
        rw [List.mem_singleton]
        refine ⟨fun e => ⟨[], Lts.nil, fun _ => rfl, e.symm⟩, fun ⟨xr, _, h0, h2⟩ => ?_⟩
        rw [h0 rfl] at h2
        exact h2.symm
      | false =>
        refine iteF ⟨_, rfl, m, 0, many, rs, rfl, M, G, Int.le_refl 0, hp0, fun l fs H' s' hl' fl fm => ⟨l, fs, rfl, s', hl', fun x => ?_⟩⟩
        rw [fm x]
        exact ⟨fun ⟨r, h1, h2⟩ => ⟨r, h1, fun z => (by cases z), h2⟩, fun ⟨r, h1, _, h2⟩ => ⟨r, h1, h2⟩⟩
    rintro v H1 ⟨l, fs, rfl, s1, hL, hfs⟩
    refine ⟨l, rfl, ⟨_, SqL.of hL⟩, ?_⟩
    refine for_list (K := K) (a := l) (xs := fs.map V.int) (fun i σ H2 => ∃ (v4 v5 v6 : Option V), σ = [some (.ref m), some (.ref p), some (.bl hd), some (.bl tl), v4, v5, v6] ∧ Same H1 H2 ∧ ∀ x ∈ fs.take i, ¬ ∃ y, Lts many y ∧ (tl = true → y = []) ∧ gd rs (walkM rs (walkM rs x run) y) = true)
      ⟨none, none, none, rfl, Same.refl H1, by simp⟩ (fun i σ H2 _ ⟨_, _, _, _, s2, _⟩ => SqL.of (s2 _ _ hL)) ?_ ?_
    · rintro i x σ H2 hx ⟨v4, v5, v6, rfl, s2, hno⟩
      rw [List.getElem?_map] at hx
      cases et : fs[i]? with
      | none => rw [et] at hx; cases hx
      | some r0 =>
        rw [et] at hx
        cases hx
        have t2 := s1.trans s2
        obtain ⟨xr, hx1, hx2, hx3⟩ := (hfs r0).mp (List.mem_of_getElem? et)
        have hr0 := walk_in G xr 0 (Int.le_refl 0) hp0 hx1
        rw [hx3] at hr0
        have hb := walk_in G run r0 hr0.1 hr0.2 hl
        refine ⟨_, rfl, _, rfl, _, rfl, m, p, r0, many, rs, run, rfl, M.same t2, G, hr0.1, hr0.2, t2 _ _ hp, hl, ?_⟩
        refine ⟨fun σ' H' => ∃ (l2 : Addr) (es : List Int), σ' = [some (.ref m), some (.ref p), some (.bl hd), some (.bl tl), some (.int r0), some (.int (walkM rs r0 run)), some (.ref l2)] ∧ Same H2 H' ∧ H' l2 = some (.lst (es.map V.int)) ∧ es.length ≤ 100 ∧ (∀ g, g ∈ es ↔ ∃ y, Lts many y ∧ (tl = true → y = []) ∧ walkM rs (walkM rs r0 run) y = g), ?_, ?_⟩
        · refine ⟨_, rfl, tl, rfl, ?_⟩
          cases tl with
          | true =>
            refine iteT ⟨_, rfl, (by show 1 ≤ sizeLine; decide), fun l2 hl2 => ⟨l2, [walkM rs r0 run], rfl, (Same.refl H2).upd_free hl2, upd_same, by simp, fun g => ?_⟩⟩
            rw [List.mem_singleton]
            refine ⟨fun e => ⟨[], Lts.nil, fun _ => rfl, e.symm⟩, fun ⟨yr, _, h0, h2⟩ => ?_⟩
            rw [h0 rfl] at h2
            exact h2.symm
          | false =>
            refine iteF ⟨_, rfl, _, rfl, m, _, many, rs, rfl, M.same t2, G, hb.1, hb.2, fun l2 es H' s' hl2 fl fm => ⟨l2, es, rfl, s', hl2, by omega, fun g => ?_⟩⟩
            rw [fm g]
            exact ⟨fun ⟨r, h1, h2⟩ => ⟨r, h1, fun z => (by cases z), h2⟩, fun ⟨r, h1, _, h2⟩ => ⟨r, h1, h2⟩⟩
        rintro σ' H3 ⟨l2, es, rfl, s3, hL2, hel, hes⟩
        have t3 := t2.trans s3
        refine ⟨_, rfl, l2, rfl, ⟨_, SqL.of hL2⟩, fun D hD => ?_⟩
        refine lc_list (K := K) (a := l2) (xs := es.map V.int) (fun j ys H4 => Same H3 H4 ∧ H4 D = some (.lst ys) ∧ ys = (((es.take j).filter (gd rs)).map fun _ => (1 : Int)).map V.int) (Nat.le_of_lt (small1000 (by rw [List.length_map]; omega)))
          ⟨(Same.refl H3).upd_free hD, upd_same, by simp⟩ (fun j ys H4 h => ?_) (fun j ys H4 h => SqL.of (h.1 _ _ hL2)) ?_ ?_
        · rw [h.2.2, List.length_map, List.length_map]
          refine Nat.le_trans (List.length_filter_le _ _) ?_
          rw [List.length_take]
          exact Nat.min_le_left _ _
        · rintro j ys H4 x N M' hx ⟨u1, u2, rfl⟩ hN hM
          rw [List.getElem?_map] at hx
          cases et2 : es[j]? with
          | none => rw [et2] at hx; cases hx
          | some t =>
            rw [et2] at hx
            cases hx
            have v0 := t3.trans u1
            obtain ⟨yr, y1, y2, y3⟩ := (hes t).mp (List.mem_of_getElem? et2)
            have ht := walk_in G yr _ hb.1 hb.2 y1
            rw [y3] at ht
            obtain ⟨q, z, e1, e2⟩ := truth G (m3.same v0) ht.1 ht.2
            refine ⟨_, rfl, m, _, _, _, rfl, rfl, SqT.of (v0 _ _ m1), rfl, _, rfl, pr, _, _, _, rfl, rfl, SqT.of (v0 _ _ m2), e1, q, _, _, _, rfl, rfl, SqT.of e2, rfl, gd rs t, rfl, ?_⟩
            have tk : es.take (j + 1) = es.take j ++ [t] := by rw [List.take_add_one, et2]; rfl
            cases hg : gd rs t with
            | true =>
              refine iteT (hN _ H4 u2 ⟨u1.upd_free hD, upd_same, ?_⟩)
              rw [tk, List.filter_append, List.map_append]
              simp [hg]
            | false =>
              refine iteF (hM H4 ⟨u1, u2, ?_⟩)
              rw [tk, List.filter_append, List.map_append]
              simp [hg]
        · rintro ys H4 ⟨u1, u2, rfl⟩
          rw [List.length_map, List.take_of_length_le (Nat.le_refl _)] at u2
          refine ⟨Nat.zero_le _, fun l3 hl3 => ?_⟩
          have s5 : Same H4 (upd H4 l3 (.lst [])) := (Same.refl H4).upd_free hl3
          refine ⟨.list (((es.filter (gd rs)).map fun _ => (1 : Int)).map PyData.int), .list [], .lst (SqL.of (s5 _ _ u2)) (dsT_ints _), .lst (SqL.of upd_same) .nil, okL_ints _, nilL_ok, !decide (((es.filter (gd rs)).map fun _ => (1 : Int)) = []), by rw [← eqvL_nil]; rfl, ?_⟩
          by_cases hgs : es.filter (gd rs) = []
          · rw [decide_eq_true (by rw [hgs]; rfl)]
            refine iteF ⟨_, _, _, rfl, (s2.trans s3).trans (u1.trans s5), fun x hx => ?_⟩
            rw [List.take_add_one, et] at hx
            rcases List.mem_append.mp hx with hx | hx
            · exact hno x hx
            · have : x = r0 := by simpa using hx
              subst this
              rintro ⟨y, y1, y2, y3⟩
              have := List.mem_filter.mpr ⟨(hes _).mpr ⟨y, y1, y2, rfl⟩, y3⟩
              rw [hgs] at this
              simp at this
          · rw [decide_eq_false (fun z => hgs (List.map_eq_nil_iff.mp z))]
            refine iteT (k true _ (t3.trans (u1.trans s5)) ⟨fun _ => ?_, fun _ => rfl⟩)
            obtain ⟨g, hg⟩ := List.exists_mem_of_ne_nil _ hgs
            obtain ⟨hg1, hg2⟩ := List.mem_filter.mp hg
            obtain ⟨y, y1, y2, y3⟩ := (hes g).mp hg1
            exact ⟨xr, y, hx1, y1, hx2, y2, by rw [hx3, y3]; exact hg2⟩
    · rintro σ H2 ⟨v4, v5, v6, rfl, s2, hno⟩
      refine k false H2 (s1.trans s2) ⟨fun z => (by cases z), fun ⟨x, y, hx, hy, hx0, hy0, hg⟩ => ?_⟩
      refine absurd ⟨y, hy, hy0, hg⟩ (hno (walkM rs 0 x) ?_)
      rw [List.length_map, List.take_of_length_le (Nat.le_refl _)]
      exact (hfs _).mpr ⟨x, hx, hx0, rfl⟩
end
end K61
namespace K63
open PySem L2 K20 K21 K60 K61

def Us (rs : Rms) (many x : Int) : Prop := Rch rs many 0 x ∧ ∃ g, Rch rs many x g ∧ gd rs g = true

def RmI (rs : Rms) (many : Int) (hd : Bool) (r : List Int) (l : List Int) : Prop := ∀ u, u ∈ l ↔ Us rs many u ∧ ∃ x, Lts many x ∧ (hd = true → x = []) ∧ walkM rs (walkM rs 0 x) r = u
theorem walk_app (rs : Rms) (h : Int) (a b : List Int) : walkM rs h (a ++ b) = walkM rs (walkM rs h a) b := by
  unfold walkM
  rw [List.foldl_append]
theorem lts_app {many : Int} {a b : List Int} (ha : Lts many a) (hb : Lts many b) : Lts many (a ++ b) := fun l hl => (List.mem_append.mp hl).elim (ha l) (hb l)
theorem lts_nil {many : Int} : Lts many [] := fun l hl => by cases hl
theorem rmi_nil {rs : Rms} {many : Int} {hd : Bool} {us l : List Int} (hu : ∀ x, x ∈ us ↔ Us rs many x) (hl : ∀ x, x ∈ l ↔ x ∈ us ∧ (x = 0 ∨ hd = false)) : RmI rs many hd [] l := fun u => by
  rw [hl, hu]
  constructor
  · rintro ⟨h1, h2⟩
    refine ⟨h1, ?_⟩
    rcases h2 with h2 | h2
    · exact ⟨[], lts_nil, fun _ => rfl, h2.symm⟩
    · obtain ⟨⟨x, a, b⟩, _⟩ := h1
      exact ⟨x, a, fun e => (by rw [h2] at e; cases e), b⟩
  · rintro ⟨h1, x, a, b, c⟩
    refine ⟨h1, ?_⟩
    cases hd with
    | false => exact .inr rfl
    | true =>
      rw [b rfl] at c
      exact .inl c.symm
theorem rmi_step {rs : Rms} {many lt : Int} {hd : Bool} {r us l l' : List Int} (hu : ∀ x, x ∈ us ↔ Us rs many x) (h : RmI rs many hd r l) (hr : Lts many r) (h0 : 0 ≤ lt) (h1 : lt < many) (hl : ∀ x, x ∈ l' ↔ x ∈ us ∧ ∃ u ∈ l, nextOf rs u lt = x) : RmI rs many hd (r ++ [lt]) l' := fun u => by
  rw [hl, hu]
  have h1l : Lts many [lt] := fun y hy => by rw [List.mem_singleton.mp hy]; exact ⟨h0, h1⟩
  constructor
  · rintro ⟨a, v, hv, rfl⟩
    obtain ⟨_, x, b, c, d⟩ := (h v).mp hv
    exact ⟨a, x, b, c, by rw [walk_app, d]; rfl⟩
  · rintro ⟨a, x, b, c, d⟩
    refine ⟨a, walkM rs (walkM rs 0 x) r, (h _).mpr ⟨⟨⟨x ++ r, lts_app b hr, walk_app _ _ _ _⟩, ?_⟩, x, b, c, rfl⟩, by rw [walk_app] at d; exact d⟩
    obtain ⟨g, ⟨y, e1, e2⟩, e3⟩ := a.2
    refine ⟨g, ⟨[lt] ++ y, lts_app h1l e1, ?_⟩, e3⟩
    rw [walk_app, ← walk_app (b := [lt]), d]
    exact e2
theorem rmi_empty {rs : Rms} {many : Int} {hd : Bool} {r l : List Int} (h : RmI rs many hd r l) (hr : Lts many r) : l = [] ↔ ¬ Sh rs many r hd false := by
  constructor
  · rintro e ⟨x, y, a, b, c, _, d⟩
    have : walkM rs (walkM rs 0 x) r ∈ l := (h _).mpr ⟨⟨⟨x ++ r, lts_app a hr, walk_app _ _ _ _⟩, _, ⟨y, b, rfl⟩, d⟩, x, a, c, rfl⟩
    rw [e] at this
    cases this
  · intro hn
    cases l with
    | nil => rfl
    | cons u l =>
      obtain ⟨⟨_, g, ⟨y, b1, b2⟩, b3⟩, x, a1, a2, a3⟩ := (h u).mp List.mem_cons_self
      exact absurd ⟨x, y, a1, b1, a2, fun e => (by cases e), by rw [a3, b2]; exact b3⟩ hn
theorem rmi_good {rs : Rms} {many : Int} {hd : Bool} {r l : List Int} (h : RmI rs many hd r l) (hr : Lts many r) : (∃ u ∈ l, gd rs u = true) ↔ Sh rs many r hd true := by
  constructor
  · rintro ⟨u, hu, hg⟩
    obtain ⟨_, x, a, b, c⟩ := (h u).mp hu
    exact ⟨x, [], a, lts_nil, b, fun _ => rfl, by rw [c]; exact hg⟩
  · rintro ⟨x, y, a, _, c, d, e⟩
    rw [d rfl] at e
    have e : gd rs (walkM rs (walkM rs 0 x) r) = true := e
    exact ⟨_, (h _).mpr ⟨⟨⟨x ++ r, lts_app a hr, walk_app _ _ _ _⟩, _, ⟨[], lts_nil, rfl⟩, e⟩, x, a, c, rfl⟩, e⟩

def sl (run : List Int) (b e : Nat) : List Int := (run.drop b).take (e - b)
theorem sl_lts {many : Int} {run : List Int} (h : Lts many run) (b e : Nat) : Lts many (sl run b e) := fun l hl => h l (List.mem_of_mem_drop (List.mem_of_mem_take hl))
theorem sl_self (run : List Int) (b : Nat) : sl run b b = [] := by
  unfold sl
  rw [Nat.sub_self]
  rfl
theorem sl_succ {run : List Int} {b e : Nat} {x : Int} (h : b ≤ e) (hx : run[e]? = some x) : sl run b (e + 1) = sl run b e ++ [x] := by
  unfold sl
  rw [show e + 1 - b = (e - b) + 1 by omega, List.take_add_one, List.getElem?_drop, show b + (e - b) = e by omega, hx]
  rfl
abbrev Cand := Nat × Nat × Bool × Bool
def bn (b : Bool) : Nat := if b = true then 1 else 0
def szC (c : Cand) : Int := (c.2.1 : Int) - (c.1 : Int) + ((bn c.2.2.1 + bn c.2.2.2 : Nat) : Int)
def ixC (c : Cand) : Nat := if c.2.2.1 = true then 0 else c.1 + 1
structure Val (n : Nat) (c : Cand) : Prop where
  le : c.1 ≤ c.2.1
  en : c.2.1 ≤ n
  hd : c.2.2.1 = true → c.1 = 0
  tl : c.2.2.2 = true → c.2.1 = n
abbrev OddC (rs : Rms) (many : Int) (run : List Int) (c : Cand) : Prop := ¬ Sh rs many (sl run c.1 c.2.1) c.2.2.1 c.2.2.2

def LO (rs : Rms) (many : Int) (run : List Int) (b : Nat) (hd : Bool) (o : Option Cand) : Prop := match o with
  | none => (∀ e, b ≤ e → e ≤ run.length → Sh rs many (sl run b e) hd false) ∧ Sh rs many (sl run b run.length) hd true
  | some c => c.1 = b ∧ c.2.2.1 = hd ∧ Val run.length c ∧ OddC rs many run c ∧ (∀ e, b ≤ e → e < c.2.1 → Sh rs many (sl run b e) hd false) ∧ (c.2.2.2 = true → Sh rs many (sl run b run.length) hd false)
theorem lo_least {rs : Rms} {many : Int} {run : List Int} {b : Nat} {hd : Bool} {o : Option Cand} (h : LO rs many run b hd o) {c : Cand} (hb : c.1 = b) (hh : c.2.2.1 = hd) (v : Val run.length c) (hc : OddC rs many run c) : ∃ c', o = some c' ∧ szC c' ≤ szC c := by
  obtain ⟨b', e, hd', tl⟩ := c
  have hb : b' = b := hb
  have hh : hd' = hd := hh
  subst hb hh
  have hc : ¬ Sh rs many (sl run b' e) hd' tl := hc
  have v1 : b' ≤ e := v.le
  have v2 : e ≤ run.length := v.en
  have v4 : tl = true → e = run.length := v.tl
  cases o with
  | none =>
    exfalso
    cases tl with
    | false => exact hc (h.1 e v1 v2)
    | true =>
      rw [v4 rfl] at hc
      exact hc h.2
  | some c' =>
    refine ⟨c', rfl, ?_⟩
    obtain ⟨h1, h2, h3, h4, h5, h6⟩ := h
    obtain ⟨b1, e1, hd1, tl1⟩ := c'
    have h1 : b1 = b' := h1
    have h2 : hd1 = hd' := h2
    subst h1 h2
    have h5 : ∀ e', b1 ≤ e' → e' < e1 → Sh rs many (sl run b1 e') hd1 false := h5
    have h6 : tl1 = true → Sh rs many (sl run b1 run.length) hd1 false := h6
    have w1 : e1 ≤ run.length := h3.en
    have w4 : tl1 = true → e1 = run.length := h3.tl
    show (e1 : Int) - (b1 : Int) + ((bn hd1 + bn tl1 : Nat) : Int) ≤ (e : Int) - (b1 : Int) + ((bn hd1 + bn tl : Nat) : Int)
    cases tl with
    | false =>
      have he : e1 ≤ e := Nat.le_of_not_lt fun q => hc (h5 e v1 q)
      cases tl1 with
      | false =>
        show _ + ((bn hd1 + 0 : Nat) : Int) ≤ _ + ((bn hd1 + 0 : Nat) : Int)
        omega
      | true =>
        exfalso
        have : e = run.length := by have := w4 rfl; omega
        rw [this] at hc
        exact hc (h6 rfl)
    | true =>
      have := v4 rfl
      cases tl1 with
      | false =>
        show _ + ((bn hd1 + 0 : Nat) : Int) ≤ _ + ((bn hd1 + 1 : Nat) : Int)
        omega
      | true => omega

def Fst (rs : Rms) (many : Int) (run : List Int) (c : Cand) : Prop := Val run.length c ∧ OddC rs many run c ∧ ∀ c', Val run.length c' → OddC rs many run c' → szC c ≤ szC c' ∧ (szC c = szC c' → ixC c ≤ ixC c')
structure FoI (rs : Rms) (many : Int) (run : List Int) (os : List (Option Cand)) (i : Nat) : Prop where
  len : os.length = i
  hd : ∀ o, os[0]? = some o → LO rs many run 0 true o
  at' : ∀ k o, os[k + 1]? = some o → LO rs many run k false o
theorem FoI.ix {rs : Rms} {many : Int} {run : List Int} {os : List (Option Cand)} {i : Nat} (F : FoI rs many run os i) {k : Nat} {c : Cand} (h : os[k]? = some (some c)) : ixC c = k ∧ Val run.length c ∧ OddC rs many run c := by
  cases k with
  | zero =>
    obtain ⟨h1, h2, h3, h4, _⟩ := F.hd _ h
    exact ⟨by unfold ixC; rw [if_pos h2], h3, h4⟩
  | succ k =>
    obtain ⟨h1, h2, h3, h4, _⟩ := F.at' k _ h
    exact ⟨by unfold ixC; rw [if_neg (by rw [h2]; exact Bool.false_ne_true), h1], h3, h4⟩
theorem FoI.sorted {rs : Rms} {many : Int} {run : List Int} {os : List (Option Cand)} {i : Nat} (F : FoI rs many run os i) : (os.filterMap id).Pairwise fun a b => ixC a < ixC b := by
  rw [List.pairwise_filterMap, List.pairwise_iff_getElem]
  intro a b ha hb hab c hc c' hc'
  have e1 : os[a]? = some (some c) := by rw [List.getElem?_eq_getElem ha]; exact congrArg some hc
  have e2 : os[b]? = some (some c') := by rw [List.getElem?_eq_getElem hb]; exact congrArg some hc'
  rw [(F.ix e1).1, (F.ix e2).1]
  exact hab
theorem FoI.first {rs : Rms} {many : Int} {run : List Int} {os : List (Option Cand)} (F : FoI rs many run os (run.length + 2)) {i : Nat} {c : Cand} (hi : (os.filterMap id)[i]? = some c) (hb : ∀ j c', (os.filterMap id)[j]? = some c' → szC c ≤ szC c' ∧ (j < i → szC c < szC c')) : Fst rs many run c := by
  have hcm : c ∈ os.filterMap id := List.mem_of_getElem? hi
  obtain ⟨o, ho, eo⟩ := List.mem_filterMap.mp hcm
  have eo : o = some c := eo
  subst eo
  obtain ⟨k, hk, ek⟩ := List.getElem_of_mem ho
  have e1 : os[k]? = some (some c) := by rw [List.getElem?_eq_getElem hk, ek]
  obtain ⟨_, v, d⟩ := F.ix e1
  refine ⟨v, d, fun c' v' d' => ?_⟩
  have hlo : ∃ k o, os[k]? = some o ∧ LO rs many run c'.1 c'.2.2.1 o ∧ k = ixC c' := by
    by_cases hh : c'.2.2.1 = true
    · have h0 : 0 < os.length := by rw [F.len]; omega
      refine ⟨0, os[0], List.getElem?_eq_getElem h0, ?_, by unfold ixC; rw [if_pos hh]⟩
      rw [v'.hd hh, hh]
      exact F.hd _ (List.getElem?_eq_getElem h0)
    · have hf : c'.2.2.1 = false := by simpa using hh
      have h1 : c'.1 + 1 < os.length := by
        have a := v'.le
        have b := v'.en
        rw [F.len]
        omega
      refine ⟨c'.1 + 1, os[c'.1 + 1], List.getElem?_eq_getElem h1, ?_, by unfold ixC; rw [if_neg hh]⟩
      rw [hf]
      exact F.at' _ _ (List.getElem?_eq_getElem h1)
  obtain ⟨k', o', ek', lo, hix⟩ := hlo
  obtain ⟨c2, rfl, hsz⟩ := lo_least lo rfl rfl v' d'
  obtain ⟨ix2, _, _⟩ := F.ix ek'
  have hm2 : c2 ∈ os.filterMap id := List.mem_filterMap.mpr ⟨some c2, List.mem_of_getElem? ek', rfl⟩
  obtain ⟨j, hj, ej⟩ := List.getElem_of_mem hm2
  obtain ⟨b1, b2⟩ := hb j c2 (by rw [List.getElem?_eq_getElem hj, ej])
  refine ⟨Int.le_trans b1 hsz, fun e => ?_⟩
  rw [← hix, ← ix2]
  have hji : ¬ j < i := fun q => by have := b2 q; omega
  by_cases he : i = j
  · subst he
    rw [List.getElem?_eq_getElem hj, ej] at hi
    cases hi
    exact Nat.le_refl _
  · obtain ⟨hi', ei'⟩ := List.getElem?_eq_some_iff.mp hi
    have := List.pairwise_iff_getElem.mp F.sorted i j hi' hj (by omega)
    rw [ei', ej] at this
    exact Nat.le_of_lt this

theorem FoI.one {rs : Rms} {many : Int} {run : List Int} {os : List (Option Cand)} {i : Nat} (F : FoI rs many run os i) (hi : 0 < i) (hg : gd rs (walkM rs 0 run) = false) : os.filterMap id ≠ [] := by
  have h0 : 0 < os.length := by rw [F.len]; exact hi
  have hl := F.hd _ (List.getElem?_eq_getElem h0)
  intro e
  cases ho : os[0] with
  | none =>
    rw [ho] at hl
    obtain ⟨x, y, _, _, a, b, c⟩ := hl.2
    rw [a rfl, b rfl] at c
    unfold sl at c
    rw [List.drop_zero, Nat.sub_zero, List.take_length] at c
    have c : gd rs (walkM rs 0 run) = true := c
    rw [hg] at c
    cases c
  | some c =>
    have : c ∈ os.filterMap id := List.mem_filterMap.mpr ⟨some c, by rw [← ho]; exact List.getElem_mem _, rfl⟩
    rw [e] at this
    cases this

end K63
namespace K63
open PySem L2 K20 K21 K60 K61
section
variable {P : Program} {w : World} {K : PySem.W.Frag} {mg : Str → Option Value} {base : Heap}

theorem scLB : FnScope ["machine", "run"] ["machine", "run"] (defScope sLB) := ⟨rfl, rfl, rfl, by decide +kernel, rfl, by decide +kernel, by decide +kernel⟩
theorem ok_lb {f fr : Addr} {fd fdr : FuncData} (F : Fun K "lets_by" "lets_by" sLB f fd) (FR : Fun K "room_behind" "room_behind" sRB fr fdr) (bR : Binds K fdr ["machine", "room", "run"] []) (gR : mg "room_behind" = some (.ref fr)) :
    FnOk P w K mg base CX0 2 f fd ["machine", "run"] spLB := by
  have GR : FnOk P w K mg base CX0 1 fr fdr ["machine", "room", "run"] spRB := ok_rb FR
  refine F.ok scLB (fun vs H Q E h => ?_) (fun cdv A outer s H vs Q E hr h => ?_)
  · obtain ⟨a, p, many, rs, run, rfl, _⟩ := h
    rfl
  · obtain ⟨a, p, many, rs, run, rfl, M, G, hp, hl, k⟩ := h
    obtain ⟨pr, qs, m1, m2, m3⟩ := id M
    refine ⟨_, pss_one (ps_ret (pe_ix ix_tup (pe_ix ix_tup (pe_ix ix_tup (pv 0) pe_int (fun _ _ => rfl)) (pe_call GR hr rfl gR FR.kp bR .nil pass0 (pa_cons (pv 0) (pa_cons pe_int (pa_cons (pv 1) pa_nil)))) (fun _ _ => rfl)) pe_int (fun _ _ => rfl))), ?_⟩
    have hpos : (0 : Int) < rs.length := by have := G.pos; omega
    have hw := walk_in G run 0 (Int.le_refl 0) hpos hl
    obtain ⟨q, z, e1, e2⟩ := truth G m3 hw.1 hw.2
    refine ⟨_, rfl, a, _, _, _, rfl, rfl, SqT.of m1, rfl, _, rfl, _, rfl, a, p, 0, many, rs, run, rfl, M, G, Int.le_refl 0, hpos, hp, hl, ?_⟩
    exact ⟨pr, _, _, _, rfl, rfl, SqT.of m2, e1, q, _, _, _, rfl, rfl, SqT.of e2, rfl, k⟩

def kvU (u : Int) : Key × V := ((Sum.inl u : Key), V.bl true)
theorem kvU_some (t : Int) (us : List Int) : (valV (us.map kvU) (Sum.inl t : Key)).isSome = decide (t ∈ us) := by
  have := val_some (fun u : Int => (u, V.bl true)) t us
  rw [List.map_id'] at this
  exact this
def spOn (P : Program) (w : World) : Sp := fun vs H Q _ => ∃ (m l d : Addr) (lt many : Int) (rs : Rms) (rms us : List Int) (o : Obj), vs = [.ref m, .ref l, .int lt, .ref d] ∧ MAt H m many rs ∧ Good many rs ∧ H l = some (.lst (rms.map V.int)) ∧ (∀ u ∈ rms, 0 ≤ u ∧ u < (rs.length : Int)) ∧ rms.length < 64 ∧ 0 ≤ lt ∧ lt < many ∧ H d = some (ID P w d (us.map kvU) o) ∧
  ∀ (l' : Addr) (ns : List Int) (H' : Hp), Same H H' → H' l' = some (.lst (ns.map V.int)) → (∀ x, x ∈ ns ↔ x ∈ us ∧ ∃ u ∈ rms, nextOf rs u lt = x) → ns.length ≤ rms.length → Q (.ref l') H'
abbrev nOn : List Str := ["machine", "rooms", "letter", "known", "behind"]
theorem scOn : FnScope nOn ["machine", "rooms", "letter", "known"] (defScope sOn) := ⟨rfl, rfl, rfl, by decide +kernel, rfl, by decide +kernel, by decide +kernel⟩
def scopeO1 : Scope := { kind := .function, names := [(".0", .local), ("room", .local), ("letter", .free), ("machine", .free)], isGenerator := false, isCoroutine := false, more := [] }
def scopeO2 : Scope := { kind := .function, names := [(".0", .local), ("room", .local), ("known", .free)], isGenerator := false, isCoroutine := false, more := [] }
theorem scO1 : BlkScope (defScope sOn) nOn ["room"] ["letter", "machine"] [2, 0] scopeO1 := ⟨rfl, by decide +kernel, by decide +kernel, by decide +kernel, rfl, by decide +kernel, by decide +kernel⟩
theorem scO2 : BlkScope (defScope sOn) nOn ["room"] ["known"] [3] scopeO2 := ⟨rfl, by decide +kernel, by decide +kernel, by decide +kernel, rfl, by decide +kernel, by decide +kernel⟩
theorem ok_on {f : Addr} {fd : FuncData} (F : Fun K "rooms_on" "rooms_on" sOn f fd) (T : Txt mg) : FnOk P w K mg base CX0 1 f fd ["machine", "rooms", "letter", "known"] (spOn P w) := by
  refine F.ok scOn (fun vs H Q E h => ?_) (fun cdv A outer s H vs Q E hr h => ?_)
  · obtain ⟨m, l, d, lt, many, rs, rms, us, o, rfl, _⟩ := h
    rfl
  · obtain ⟨m, l, d, lt, many, rs, rms, us, o, rfl, M, G, hl, hin, h64, l0, l1, hd, k⟩ := h
    obtain ⟨pr, qs, m1, m2, m3⟩ := id M
    refine ⟨_, pss_cons (ps_setlc (i := 4) scO1 rfl rfl rfl (pi_list (pv 1)) (fun fp C s1 H1 => pg_name (i := 0) scO1.nd rfl (Or.inl rfl)) (fun fp C s1 H1 => pts_nil) (fun fp C s1 H1 => pe_ix (r := rIxT K) ix_tup (pe_ix (r := rIxT K) ix_tup (pe_ix (r := rIxT K) ix_tup (pe_ix (r := rIxT K) ix_tup (pv 2) pe_int (fun _ _ => rfl)) (pv 0) (fun _ _ => rfl)) pe_int (fun _ _ => rfl)) (pv 1) (fun _ _ => rfl)) scOn.nd rfl rfl rfl)
      (pss_one (ps_ret (pe_lc scO2 rfl rfl rfl (pi_list (pe_callB (call_sortedS rfl (P := P) (w := w) rfl rfl) (by rfl) T.sorted PyProof.Rows.boot_sorted (pa_cons (pe_callTy (call_setR rfl (P := P) (w := w) rfl rfl) (by rfl) T.set PyProof.Rows.boot_set (pa_cons (pv 4) pa_nil)) pa_nil))) (fun fp C s1 H1 => pg_name (i := 0) scO2.nd rfl (Or.inl rfl)) (fun fp C s1 H1 => pts_one (pt_cmp (pc_iinW (P := P) (w := w) rfl rfl (pv 0) (pv 1)))) (fun fp C s1 H1 => pv 0)))), ?_⟩
    refine ⟨_, rfl, l, rfl, ⟨_, SqL.of hl⟩, fun D hD => ?_⟩
    refine lc_list (K := K) (a := l) (xs := rms.map V.int) (fun i ys H2 => Same H H2 ∧ H2 D = some (.lst ys) ∧ ys = ((rms.take i).map fun u => nextOf rs u lt).map V.int) (Nat.le_of_lt (small1000 (by rw [List.length_map]; omega)))
      ⟨(Same.refl H).upd_free hD, upd_same, rfl⟩ (fun i ys H2 h => by rw [h.2.2, List.length_map, List.length_map, List.length_take]; exact Nat.min_le_left _ _) (fun i ys H2 h => SqL.of (h.1 _ _ hl)) ?_ ?_
    · rintro i ys H2 x N M' hx ⟨u1, u2, rfl⟩ hN hM
      rw [List.getElem?_map] at hx
      obtain ⟨u, eu, rfl⟩ := Option.map_eq_some_iff.mp hx
      obtain ⟨b0, b1⟩ := hin u (List.mem_of_getElem? eu)
      obtain ⟨q, z, b, ns, e1, e2, e3, e4, _⟩ := arrow G (m3.same u1) b0 b1 l0 l1
      refine ⟨_, rfl, m, _, _, _, rfl, rfl, SqT.of (u1 _ _ m1), rfl, _, rfl, pr, _, _, _, rfl, rfl, SqT.of (u1 _ _ m2), e1, q, _, _, _, rfl, rfl, SqT.of e2, rfl, _, rfl, z, _, _, _, rfl, rfl, SqT.of e3, e4, ?_⟩
      refine hN _ H2 u2 ⟨u1.upd_free hD, upd_same, ?_⟩
      rw [List.take_add_one, eu, List.map_append, List.map_append]
      rfl
    · rintro ys H2 ⟨u1, u2, rfl⟩
      rw [List.length_map, List.take_length] at u2
      refine ⟨_, rfl, D, _, rfl, .inl (SqL.of u2), by rw [List.length_map]; omega, fun a σ ha nd hm hls => ?_⟩
      rw [List.length_map] at hls
      have s3 := (Same.refl H2).upd_free (o := IS P w a σ) ha
      have q3 : upd H2 a (IS P w a σ) a = some (IS P w a σ) := upd_same
      generalize upd H2 a (IS P w a σ) = H3 at s3 q3 ⊢
      refine ⟨a, σ, rfl, q3, by omega, fun l2 ns hl2 perm srt => ?_⟩
      have s4 := (Same.refl H3).upd_free (o := .lst (ns.map V.int)) hl2
      have q4 : upd H3 l2 (.lst (ns.map V.int)) l2 = some (.lst (ns.map V.int)) := upd_same
      generalize upd H3 l2 (.lst (ns.map V.int)) = H4 at s4 q4 ⊢
      have s04 := u1.trans (s3.trans s4)
      have hnl := perm.length_eq
      refine ⟨l2, rfl, ⟨_, SqL.of q4⟩, fun D2 hD2 => ?_⟩
      refine lc_list (K := K) (a := l2) (xs := ns.map V.int) (fun i ys H5 => Same H4 H5 ∧ H5 D2 = some (.lst ys) ∧ ys = ((ns.take i).filter fun x => decide (x ∈ us)).map V.int) (Nat.le_of_lt (small1000 (by rw [List.length_map]; omega)))
        ⟨(Same.refl H4).upd_free hD2, upd_same, by simp⟩ (fun i ys H5 h => ?_) (fun i ys H5 h => SqL.of (h.1 _ _ q4)) ?_ ?_
      · rw [h.2.2, List.length_map]
        refine Nat.le_trans (List.length_filter_le _ _) ?_
        rw [List.length_take]
        exact Nat.min_le_left _ _
      · rintro i ys H5 x N M' hx ⟨v1, v2, rfl⟩ hN hM
        rw [List.getElem?_map] at hx
        obtain ⟨u, eu, rfl⟩ := Option.map_eq_some_iff.mp hx
        have tk : ns.take (i + 1) = ns.take i ++ [u] := by rw [List.take_add_one, eu]; rfl
        refine ⟨_, rfl, _, rfl, d, us.map kvU, o, Sum.inl u, rfl, (s04.trans v1) _ _ hd, rfl, _, rfl, ?_⟩
        rw [kvU_some]
        by_cases hu : u ∈ us
        · rw [decide_eq_true hu]
          refine iteT ⟨_, rfl, hN _ H5 v2 ⟨v1.upd_free hD2, upd_same, ?_⟩⟩
          rw [tk, List.filter_append, List.map_append]
          simp [hu]
        · rw [decide_eq_false hu]
          refine iteF (hM H5 ⟨v1, v2, ?_⟩)
          rw [tk, List.filter_append, List.map_append]
          simp [hu]
      · rintro ys H5 ⟨v1, v2, rfl⟩
        rw [List.length_map, List.take_length] at v2
        refine k D2 _ H5 (s04.trans v1) v2 (fun x => ?_) ?_
        · rw [List.mem_filter, decide_eq_true_iff, perm.mem_iff, hm, List.mem_map]
          exact ⟨fun ⟨a, b⟩ => ⟨b, a⟩, fun ⟨a, b⟩ => ⟨b, a⟩⟩
        · refine Nat.le_trans (List.length_filter_le _ _) ?_
          omega

def CandA (H : Hp) (a : Addr) (c : Cand) : Prop := H a = some (.tup [.int (c.1 : Int), .int (c.2.1 : Int), .bl c.2.2.1, .bl c.2.2.2])
def CandO (H : Hp) (v : V) : Option Cand → Prop
  | none => v = .non
  | some c => ∃ a, v = .ref a ∧ CandA H a c
def spLo (P : Program) (w : World) : Sp := fun vs H Q _ => ∃ (m p d : Addr) (b : Nat) (hd : Bool) (many : Int) (rs : Rms) (run us : List Int) (o : Obj), vs = [.ref m, .ref p, .int (b : Int), .bl hd, .ref d] ∧ MAt H m many rs ∧ Good many rs ∧ H p = some (.tup (run.map V.int)) ∧ Lts many run ∧ b ≤ run.length ∧ run.length ≤ 100 ∧ (hd = true → b = 0) ∧
  H d = some (ID P w d (us.map kvU) o) ∧ (∀ x, x ∈ us ↔ Us rs many x) ∧ us.length < 64 ∧ ∀ (v : V) (oc : Option Cand) (H' : Hp), Same H H' → CandO H' v oc → LO rs many run b hd oc → Q v H'
abbrev nLo : List Str := ["machine", "run", "start", "head", "known", "rooms", "stop"]
abbrev pLo : List Str := ["machine", "run", "start", "head", "known"]
theorem scLo : FnScope nLo pLo (defScope sLo) := ⟨rfl, rfl, rfl, by decide +kernel, rfl, by decide +kernel, by decide +kernel⟩
def scopeL1 : Scope := { kind := .function, names := [(".0", .local), ("room", .local), ("head", .free)], isGenerator := false, isCoroutine := false, more := [] }
def scopeL2 : Scope := { kind := .function, names := [(".0", .local), ("room", .local), ("machine", .free)], isGenerator := false, isCoroutine := false, more := [] }
theorem scL1 : BlkScope (defScope sLo) nLo ["room"] ["head"] [3] scopeL1 := ⟨rfl, by decide +kernel, by decide +kernel, by decide +kernel, rfl, by decide +kernel, by decide +kernel⟩
theorem scL2 : BlkScope (defScope sLo) nLo ["room"] ["machine"] [0] scopeL2 := ⟨rfl, by decide +kernel, by decide +kernel, by decide +kernel, rfl, by decide +kernel, by decide +kernel⟩
theorem us_in {rs : Rms} {many : Int} (G : Good many rs) {x : Int} (h : Us rs many x) : 0 ≤ x ∧ x < (rs.length : Int) := by
  obtain ⟨⟨run, g1, g2⟩, _⟩ := h
  have hp0 : (0 : Int) < rs.length := by have := G.pos; omega
  have q := walk_in G run 0 (Int.le_refl 0) hp0 g1
  rw [g2] at q
  exact q
theorem ok_lo {f fO : Addr} {fd fdO : FuncData} (F : Fun K "least_odd" "least_odd" sLo f fd) (T : Txt mg)
    (FO : Fun K "rooms_on" "rooms_on" sOn fO fdO) (bO : Binds K fdO ["machine", "rooms", "letter", "known"] []) (gO : mg "rooms_on" = some (.ref fO)) : FnOk P w K mg base CX0 2 f fd pLo (spLo P w) := by
  have GO : FnOk P w K mg base CX0 1 fO fdO ["machine", "rooms", "letter", "known"] (spOn P w) := ok_on FO T
  refine F.ok scLo (fun vs H Q E h => ?_) (fun cdv A outer s H vs Q E hr h => ?_)
  · obtain ⟨m, p, d, b, hd, many, rs, run, us, o, rfl, _⟩ := h
    rfl
  · obtain ⟨m, p, d, b, hd, many, rs, run, us, o, rfl, M, G, hp, hl, hb, hn100, hb0, hD, hus, h64, k⟩ := h
    obtain ⟨pr, qs, m1, m2, m3⟩ := id M
    refine ⟨_, pss_cons (ps_setlc (i := 5) scL1 rfl rfl rfl (pi_idicW (P := P) (w := w) rfl rfl (pv 4)) (fun fp C s1 H1 => pg_name (i := 0) scL1.nd rfl (Or.inl rfl)) (fun fp C s1 H1 => pts_one (PW.pt (pw_or (pt_cmpR op_eq (pv 0) pe_int (nomark _)) (pw_or1 (pt_not (pt_val (pv 1))))))) (fun fp C s1 H1 => pv 0) scLo.nd rfl rfl rfl)
      (pss_cons (ps_for PassesOwn.never rfl (pi_range2 rfl T.range (pa_cons (pv 2) (pa_cons (pe_callB call_len_seq (by rfl) T.len PySem.boot_len (pa_cons (pv 1) pa_nil)) pa_nil))) (pg_name (i := 6) scLo.nd rfl (Or.inl rfl))
        (pss_cons (ps_if (pt_cmpR op_eq (pe_callB call_len_seq (by rfl) T.len PySem.boot_len (pa_cons (pv 5) pa_nil)) pe_int (nomark _)) (pss_one (ps_ret (pe_tup (pa_cons (pv 2) (pa_cons (pv 6) (pa_cons (pv 3) (pa_cons pe_bl pa_nil))))))) pss_nil)
        (pss_one (ps_set (i := 5) scLo.nd rfl (Or.inl rfl) (pe_call GO hr rfl gO FO.kp bO .nil pass0 (pa_cons (pv 0) (pa_cons (pv 5) (pa_cons (pe_ix ix_tup (pv 1) (pv 6) (fun _ _ => rfl)) (pa_cons (pv 4) pa_nil)))))))))
      (pss_cons (ps_if (pt_cmpR op_eq (pe_callB call_len_seq (by rfl) T.len PySem.boot_len (pa_cons (pv 5) pa_nil)) pe_int (nomark _)) (pss_one (ps_ret (pe_tup (pa_cons (pv 2) (pa_cons (pe_callB call_len_seq (by rfl) T.len PySem.boot_len (pa_cons (pv 1) pa_nil)) (pa_cons (pv 3) (pa_cons pe_bl pa_nil))))))) pss_nil)
      (pss_cons (ps_if (pt_not (pt_val (pe_callB (call_anyB rfl) (by rfl) T.any boot_any (pa_cons (pe_lc scL2 rfl rfl rfl (pi_list (pv 5)) (fun fp C s1 H1 => pg_name (i := 0) scL2.nd rfl (Or.inl rfl)) (fun fp C s1 H1 => pts_nil) (fun fp C s1 H1 => pe_ix (r := rIxT K) ix_tup (pe_ix (r := rIxT K) ix_tup (pe_ix (r := rIxT K) ix_tup (pv 1) pe_int (fun _ _ => rfl)) (pv 0) (fun _ _ => rfl)) pe_int (fun _ _ => rfl))) pa_nil)))) (pss_one (ps_ret (pe_tup (pa_cons (pv 2) (pa_cons (pe_callB call_len_seq (by rfl) T.len PySem.boot_len (pa_cons (pv 1) pa_nil)) (pa_cons (pv 3) (pa_cons pe_bl pa_nil))))))) pss_nil)
      (pss_one (ps_ret pe_non))))), ?_⟩
    have hrl : (run.map V.int).length = run.length := List.length_map _
    refine ⟨_, rfl, d, _, o, rfl, hD, fun D hD0 => ?_⟩
    refine lc_idic (P := P) (w := w) (a := d) (kvs := us.map kvU) (o := o) (fun i ys H2 => Same H H2 ∧ H2 D = some (.lst ys) ∧ ys = ((us.take i).filter fun x => decide (x = 0 ∨ hd = false)).map V.int) (Nat.le_of_lt (small1000 (by rw [List.length_map]; omega)))
      ⟨(Same.refl H).upd_free hD0, upd_same, by simp⟩ (fun i ys H2 h => ?_) (fun i ys H2 h => h.1 _ _ hD) ?_ ?_
    · rw [h.2.2, List.length_map]
      refine Nat.le_trans (List.length_filter_le _ _) ?_
      rw [List.length_take]
      exact Nat.min_le_left _ _
    · rintro i ys H2 pk N M' hx ⟨u1, u2, rfl⟩ hN hM
      rw [List.getElem?_map] at hx
      obtain ⟨u, eu, rfl⟩ := Option.map_eq_some_iff.mp hx
      have tk : us.take (i + 1) = us.take i ++ [u] := by rw [List.take_add_one, eu]; rfl
      have yes : (u = 0 ∨ hd = false) → Same H H2 ∧ H2 D = some (.lst (((us.take i).filter fun x => decide (x = 0 ∨ hd = false)).map V.int)) → N (.int u) H2 := fun h _ => by
        refine hN _ H2 u2 ⟨u1.upd_free hD0, upd_same, ?_⟩
        rw [tk, List.filter_append, List.map_append]
        simp [h]
      have no : ¬ (u = 0 ∨ hd = false) → M' H2 := fun h => by
        refine hM H2 ⟨u1, u2, ?_⟩
        rw [tk, List.filter_append, List.map_append]
        simp [h]
      refine ⟨_, rfl, rfl, _, rfl, ?_⟩
      show if decide (V.int u = V.int 0) = true then _ else _
      rw [show decide (V.int u = V.int 0) = decide (u = 0) from decide_eq_decide.mpr ⟨fun q => by injection q, fun q => by rw [q]⟩]
      by_cases h0 : u = 0
      · rw [if_pos (decide_eq_true h0)]
        exact iteT ⟨_, rfl, yes (.inl h0) ⟨u1, u2⟩⟩
      · rw [if_neg (by rw [decide_eq_false h0]; exact Bool.false_ne_true)]
        refine ⟨_, rfl, hd, rfl, ?_⟩
        cases hd with
        | true => exact iteF (no (fun h => h.elim h0 fun z => nomatch z))
        | false => exact iteT ⟨_, rfl, yes (.inr rfl) ⟨u1, u2⟩⟩
    · rintro ys H2 ⟨u1, u2, rfl⟩
      rw [List.length_map, List.take_length] at u2
      have R0 : RmI rs many hd [] (us.filter fun x => decide (x = 0 ∨ hd = false)) := rmi_nil hus fun x => by rw [List.mem_filter, decide_eq_true_iff]
      have hl0 : (us.filter fun x => decide (x = 0 ∨ hd = false)).length < 64 := Nat.lt_of_le_of_lt (List.length_filter_le _ _) h64
      generalize us.filter (fun x => decide (x = 0 ∨ hd = false)) = rm0 at u2 R0 hl0
      refine ⟨_, rfl, _, rfl, p, _, rfl, .inr (SqT.of (u1 _ _ hp)), ?_⟩
      rw [hrl]
      refine ⟨_, _, rfl, ⟨by omega, by omega, by omega, by omega⟩, ?_⟩
      rw [show (((run.length : Nat) : Int) - (b : Int)).toNat = run.length - b by omega]
      refine for_range (lo := (b : Int)) (n := run.length - b) (fun i σ H3 => ∃ (l : Addr) (rms : List Int) (v6 : Option V), σ = [some (.ref m), some (.ref p), some (.int (b : Int)), some (.bl hd), some (.ref d), some (.ref l), v6] ∧ Same H H3 ∧ H3 l = some (.lst (rms.map V.int)) ∧ rms.length < 64 ∧ RmI rs many hd (sl run b (b + i)) rms ∧ ∀ e, b ≤ e → e < b + i → Sh rs many (sl run b e) hd false)
        ⟨D, rm0, none, rfl, u1, u2, hl0, by rw [Nat.add_zero, sl_self]; exact R0, fun e h1 h2 => by omega⟩ ?_ ?_
      · rintro i σ H3 hi ⟨l, rms, v6, rfl, s3, hL, h64', R, hsh⟩
        have hlen : (rms.map V.int).length = rms.length := List.length_map _
        refine ⟨_, rfl, l, _, rfl, .inl (SqL.of hL), rfl, _, rfl, ?_⟩
        rw [hlen, show decide (V.int ((rms.length : Nat) : Int) = V.int 0) = decide (rms.length = 0) from decide_eq_decide.mpr ⟨fun q => by injection q with q; omega, fun q => by rw [q]; rfl⟩]
        have hEm := rmi_empty R (sl_lts hl b (b + i))
        by_cases he : rms.length = 0
        · rw [decide_eq_true he]
          refine iteT ⟨_, rfl, _, rfl, _, rfl, (by show 4 ≤ sizeLine; decide), fun q hq => ?_⟩
          have hodd := hEm.mp (List.length_eq_zero_iff.mp he)
          refine k (.ref q) (some (b, b + i, hd, false)) _ (s3.trans ((Same.refl H3).upd_free hq)) ⟨q, rfl, ?_⟩ ⟨rfl, rfl, ⟨by show b ≤ b + i; omega, by show b + i ≤ _; omega, hb0, fun z => nomatch z⟩, hodd, hsh, fun z => nomatch z⟩
          show upd H3 q _ q = _
          rw [upd_same]
          show some (HO.tup [V.int (b : Int), V.int ((b : Int) + (i : Int)), V.bl hd, V.bl false]) = some (HO.tup [V.int (b : Int), V.int ((b + i : Nat) : Int), V.bl hd, V.bl false])
          rw [Int.natCast_add]
        · rw [decide_eq_false he]
          refine iteF ?_
          have ex : run[b + i]? = some run[b + i] := List.getElem?_eq_getElem (by omega)
          have hxm : run[b + i] ∈ run := List.getElem_mem _
          generalize run[b + i] = x at ex hxm
          have hx := hl x hxm
          have hshi : Sh rs many (sl run b (b + i)) hd false := Classical.byContradiction fun hn => he (List.length_eq_zero_iff.mpr (hEm.mpr hn))
          refine ⟨_, rfl, _, rfl, _, rfl, _, rfl, p, _, _, .int x, rfl, rfl, SqT.of (s3 _ _ hp), atI_int (by omega) (by rw [show ((b : Int) + (i : Int)).toNat = b + i by omega, List.getElem?_map, ex]; rfl), _, rfl, m, l, d, x, many, rs, rms, us, o, rfl, M.same s3, G, hL, fun u hu => us_in G ((R u).mp hu).1, h64', hx.1, hx.2, s3 _ _ hD, fun l' ns H4 s4 hl4 hmem hnl => ?_⟩
          refine ⟨l', ns, _, rfl, s3.trans s4, hl4, by omega, ?_, fun e h1 h2 => ?_⟩
          · rw [show b + (i + 1) = b + i + 1 by omega, sl_succ (by omega) ex]
            exact rmi_step hus R (sl_lts hl b (b + i)) hx.1 hx.2 hmem
          · by_cases hei : e < b + i
            · exact hsh e h1 hei
            · rw [show e = b + i by omega]
              exact hshi
      · rintro σ H3 ⟨l, rms, v6, rfl, s3, hL, h64', R, hsh⟩
        rw [show b + (run.length - b) = run.length by omega] at R hsh
        have hlen : (rms.map V.int).length = rms.length := List.length_map _
        have hEm := rmi_empty R (sl_lts hl b run.length)
        refine ⟨_, rfl, l, _, rfl, .inl (SqL.of hL), rfl, _, rfl, ?_⟩
        rw [hlen, show decide (V.int ((rms.length : Nat) : Int) = V.int 0) = decide (rms.length = 0) from decide_eq_decide.mpr ⟨fun q => by injection q with q; omega, fun q => by rw [q]; rfl⟩]
        by_cases he : rms.length = 0
        · rw [decide_eq_true he]
          refine iteT ⟨_, rfl, _, rfl, p, _, rfl, .inr (SqT.of (s3 _ _ hp)), ?_⟩
          rw [hrl]
          refine ⟨_, rfl, (by show 4 ≤ sizeLine; decide), fun q hq => ?_⟩
          have hodd := hEm.mp (List.length_eq_zero_iff.mp he)
          exact k (.ref q) (some (b, run.length, hd, false)) _ (s3.trans ((Same.refl H3).upd_free hq)) ⟨q, rfl, upd_same⟩ ⟨rfl, rfl, ⟨hb, Nat.le_refl _, hb0, fun _ => rfl⟩, hodd, hsh, fun z => nomatch z⟩
        · rw [decide_eq_false he]
          refine iteF ?_
          have hshi : Sh rs many (sl run b run.length) hd false := Classical.byContradiction fun hn => he (List.length_eq_zero_iff.mpr (hEm.mpr hn))
          have hGd := rmi_good R (sl_lts hl b run.length)
          refine ⟨_, rfl, l, rfl, ⟨_, SqL.of hL⟩, fun D2 hD2 => ?_⟩
          refine lc_list (K := K) (a := l) (xs := rms.map V.int) (fun i ys H4 => Same H3 H4 ∧ H4 D2 = some (.lst ys) ∧ ys = ((rms.take i).map (gd rs)).map V.bl) (Nat.le_of_lt (small1000 (by omega)))
            ⟨(Same.refl H3).upd_free hD2, upd_same, rfl⟩ (fun i ys H4 h => by rw [h.2.2, List.length_map, List.length_map, List.length_take]; exact Nat.min_le_left _ _) (fun i ys H4 h => SqL.of (h.1 _ _ hL)) ?_ ?_
          · rintro i ys H4 x N M' hx ⟨v1, v2, rfl⟩ hN hM
            rw [List.getElem?_map] at hx
            obtain ⟨u, eu, rfl⟩ := Option.map_eq_some_iff.mp hx
            have hu := us_in G ((R u).mp (List.mem_of_getElem? eu)).1
            have v0 := s3.trans v1
            obtain ⟨q, z, e1, e2⟩ := truth G (m3.same v0) hu.1 hu.2
            refine ⟨_, rfl, m, _, _, _, rfl, rfl, SqT.of (v0 _ _ m1), rfl, _, rfl, pr, _, _, _, rfl, rfl, SqT.of (v0 _ _ m2), e1, q, _, _, _, rfl, rfl, SqT.of e2, rfl, ?_⟩
            refine hN _ H4 v2 ⟨v1.upd_free hD2, upd_same, ?_⟩
            rw [List.take_add_one, eu, List.map_append, List.map_append]
            rfl
          · rintro ys H4 ⟨v1, v2, rfl⟩
            rw [hlen, List.take_length] at v2
            have s4 := s3.trans v1
            refine ⟨D2, _, rfl, SqL.of v2, _, rfl, ?_⟩
            by_cases hg : ∃ u ∈ rms, gd rs u = true
            · have ha : (rms.map (gd rs)).any id = true := by
                obtain ⟨u, hu, hg⟩ := hg
                exact List.any_eq_true.mpr ⟨_, List.mem_map_of_mem hu, hg⟩
              rw [ha]
              refine iteF (k .non none H4 s4 rfl ⟨fun e h1 h2 => ?_, hGd.mp hg⟩)
              by_cases hei : e < run.length
              · exact hsh e h1 hei
              · rw [show e = run.length by omega]
                exact hshi
            · have ha : (rms.map (gd rs)).any id = false := by
                rw [Bool.eq_false_iff]
                intro h
                obtain ⟨x, hx, hx2⟩ := List.any_eq_true.mp h
                obtain ⟨u, hu, rfl⟩ := List.mem_map.mp hx
                exact hg ⟨u, hu, hx2⟩
              rw [ha]
              refine iteT ⟨_, rfl, _, rfl, p, _, rfl, .inr (SqT.of (s4 _ _ hp)), ?_⟩
              rw [hrl]
              refine ⟨_, rfl, (by show 4 ≤ sizeLine; decide), fun q hq => ?_⟩
              exact k (.ref q) (some (b, run.length, hd, true)) _ (s4.trans ((Same.refl H4).upd_free hq)) ⟨q, rfl, upd_same⟩ ⟨rfl, rfl, ⟨hb, Nat.le_refl _, hb0, fun _ => rfl⟩, fun h => hg (hGd.mpr h), hsh, fun _ => hshi⟩
end
end K63
namespace K63
open PySem L2 K20 K21 K60 K61 SO
abbrev FE := Option (Addr × Cand)
def vF : FE → V
  | none => .non
  | some x => .ref x.1
theorem cand_fx {H : Hp} {v : V} : ∀ {o : Option Cand}, CandO H v o → ∃ fx : FE, v = vF fx ∧ fx.map (·.2) = o ∧ ∀ x, fx = some x → CandA H x.1 x.2
  | none, h => ⟨none, h, rfl, fun x e => nomatch e⟩
  | some c, ⟨a, h1, h2⟩ => ⟨some (a, c), h1, rfl, fun x e => by cases e; exact h2⟩
theorem fm_snd : ∀ fs : List FE, (fs.map (Option.map (·.2))).filterMap id = (fs.filterMap id).map (·.2)
  | [] => rfl
  | none :: fs => fm_snd fs
  | some x :: fs => by
    show x.2 :: (fs.map (Option.map (·.2))).filterMap id = x.2 :: (fs.filterMap id).map (·.2)
    rw [fm_snd fs]
theorem FoI.snoc {rs : Rms} {many : Int} {run : List Int} {os : List (Option Cand)} {i : Nat} (F : FoI rs many run os (i + 1)) {o : Option Cand} (h : LO rs many run i false o) : FoI rs many run (os ++ [o]) (i + 1 + 1) := by
  have hl := F.len
  refine ⟨by rw [List.length_append, hl]; rfl, fun o' e => ?_, fun k o' e => ?_⟩
  · rw [List.getElem?_append_left (by omega)] at e
    exact F.hd o' e
  · by_cases hk : k + 1 < os.length
    · rw [List.getElem?_append_left hk] at e
      exact F.at' k o' e
    · rw [List.getElem?_append_right (by omega)] at e
      have hk2 : k + 1 - os.length = 0 := by
        have := (List.getElem?_eq_some_iff.mp e).1
        simp at this
        omega
      rw [hk2] at e
      cases e
      have : k = i := by omega
      rw [this]
      exact h
section
variable {P : Program} {w : World} {K : PySem.W.Frag} {mg : Str → Option Value} {base : Heap}

def spSz : Sp := fun vs H Q _ => ∃ (a : Addr) (c : Cand), vs = [.ref a] ∧ CandA H a c ∧ ∀ H', Same H H' → Q (.int (szC c)) H'
theorem scSz : FnScope ["stretch"] ["stretch"] (defScope sSz) := ⟨rfl, rfl, rfl, by decide +kernel, rfl, by decide +kernel, by decide +kernel⟩
def scopeZ : Scope := { kind := .function, names := [(".0", .local), ("truth", .local)], isGenerator := false, isCoroutine := false, more := [] }
theorem scZ : BlkScope (defScope sSz) ["stretch"] ["truth"] [] [] scopeZ := ⟨rfl, by decide +kernel, by decide +kernel, by decide +kernel, rfl, by decide +kernel, by decide +kernel⟩
theorem bn_len (a b : Bool) : (([a, b] : List Bool).filter id).length = bn a + bn b := by cases a <;> cases b <;> rfl
theorem ok_sz {f : Addr} {fd : FuncData} (F : Fun K "size_of" "size_of" sSz f fd) (T : Txt mg) : FnOk P w K mg base CX0 1 f fd ["stretch"] spSz := by
  refine F.ok scSz (fun vs H Q E h => ?_) (fun cdv A outer s H vs Q E hr h => ?_)
  · obtain ⟨a, c, rfl, _⟩ := h
    rfl
  · obtain ⟨a, ⟨b, e, hd, tl⟩, rfl, hc, k⟩ := h
    have hc : H a = some (.tup [.int (b : Int), .int (e : Int), .bl hd, .bl tl]) := hc
    refine ⟨_, pss_one (ps_ret (pe_op op_add (pe_op op_sub (pe_ix ix_tup (pv 0) pe_int (fun _ _ => rfl)) (pe_ix ix_tup (pv 0) pe_int (fun _ _ => rfl))) (pe_callB call_len_seq (by rfl) T.len PySem.boot_len (pa_cons (pe_lc scZ rfl rfl rfl (pi_tup (pe_slice sl_tupA (pv 0) (po_some pe_int) po_none)) (fun fp C s1 H1 => pg_name (i := 0) scZ.nd rfl (Or.inl rfl)) (fun fp C s1 H1 => pts_one (pt_val (pv 0))) (fun fp C s1 H1 => pv 0)) pa_nil)))), ?_⟩
    refine ⟨_, rfl, a, _, _, .int (e : Int), rfl, rfl, SqT.of hc, rfl, _, rfl, a, _, _, .int (b : Int), rfl, rfl, SqT.of hc, rfl, _, _, rfl, rfl, _, rfl, _, rfl, a, _, rfl, hc, fun p H1 s1 hp => ?_⟩
    have hp : H1 p = some (.tup (([hd, tl] : List Bool).map V.bl)) := hp
    refine ⟨p, rfl, ⟨_, SqT.of hp⟩, fun D hD => ?_⟩
    refine lc_tup (K := K) (a := p) (xs := ([hd, tl] : List Bool).map V.bl) (fun i ys H2 => Same H1 H2 ∧ H2 D = some (.lst ys) ∧ ys = ((([hd, tl] : List Bool).take i).filter id).map V.bl) (by show 2 ≤ sizeLine; decide)
      ⟨(Same.refl H1).upd_free hD, upd_same, by simp⟩ (fun i ys H2 h => ?_) (fun i ys H2 h => SqT.of (h.1 _ _ hp)) ?_ ?_
    · rw [h.2.2, List.length_map]
      refine Nat.le_trans (List.length_filter_le _ _) ?_
      rw [List.length_take]
      exact Nat.min_le_left _ _
    · rintro i ys H2 x N M hx ⟨u1, u2, rfl⟩ hN hM
      rw [List.getElem?_map] at hx
      obtain ⟨t, et, rfl⟩ := Option.map_eq_some_iff.mp hx
      have tk : ([hd, tl] : List Bool).take (i + 1) = ([hd, tl] : List Bool).take i ++ [t] := by rw [List.take_add_one, et]; rfl
      refine ⟨_, rfl, t, rfl, ?_⟩
      cases t with
      | true =>
        refine iteT ⟨_, rfl, hN _ H2 u2 ⟨u1.upd_free hD, upd_same, ?_⟩⟩
        rw [tk, List.filter_append, List.map_append]
        rfl
      | false =>
        refine iteF (hM H2 ⟨u1, u2, ?_⟩)
        rw [tk, List.filter_append, List.map_append]
        simp
    · rintro ys H2 ⟨u1, u2, rfl⟩
      rw [List.length_map, List.take_length] at u2
      refine ⟨D, _, rfl, .inl (SqL.of u2), _, _, rfl, rfl, ?_⟩
      rw [List.length_map, bn_len]
      exact k _ (s1.trans u1)

def spOo : Sp := fun vs H Q _ => ∃ (m p : Addr) (many : Int) (rs : Rms) (run : List Int), vs = [.ref m, .ref p] ∧ MAt H m many rs ∧ Good many rs ∧ rs.length < 64 ∧ H p = some (.tup (run.map V.int)) ∧ Lts many run ∧ run.length ≤ 100 ∧
  (gd rs (walkM rs 0 run) = true → ∀ H', Same H H' → Q .non H') ∧ (gd rs (walkM rs 0 run) = false → ∀ (a : Addr) (c : Cand) (H' : Hp), Same H H' → CandA H' a c → Fst rs many run c → Q (.ref a) H')
abbrev nOd : List Str := ["machine", "run", "known", "room", "found", "start"]
theorem scOd : FnScope nOd ["machine", "run"] (defScope sOd) := ⟨rfl, rfl, rfl, by decide +kernel, rfl, by decide +kernel, by decide +kernel⟩
def scopeD : Scope := { kind := .function, names := [(".0", .local), ("stretch", .local)], isGenerator := false, isCoroutine := false, more := [] }
theorem scD : BlkScope (defScope sOd) nOd ["stretch"] [] [] scopeD := ⟨rfl, by decide +kernel, by decide +kernel, by decide +kernel, rfl, by decide +kernel, by decide +kernel⟩
theorem ok_oo {f fB fU fL fZ : Addr} {fd fdB fdU fdL fdZ : FuncData} (F : Fun K "odd" "odd" sOd f fd) (T : Txt mg)
    (FB : Fun K "lets_by" "lets_by" sLB fB fdB) (bB : Binds K fdB ["machine", "run"] []) (gB : mg "lets_by" = some (.ref fB)) (GB : FnOk P w K mg base CX0 2 fB fdB ["machine", "run"] spLB)
    (FU : Fun K "useful" "useful" sUs fU fdU) (bU : Binds K fdU ["machine"] []) (gU : mg "useful" = some (.ref fU)) (GU : FnOk P w K mg base CX0 3 fU fdU ["machine"] spUs)
    (FL : Fun K "least_odd" "least_odd" sLo fL fdL) (bL : Binds K fdL pLo []) (gL : mg "least_odd" = some (.ref fL)) (GL : FnOk P w K mg base CX0 2 fL fdL pLo (spLo P w))
    (FZ : Fun K "size_of" "size_of" sSz fZ fdZ) (bZ : Binds K fdZ ["stretch"] []) (gZ : mg "size_of" = some (.ref fZ)) (GZ : FnOk P w K mg base CX0 1 fZ fdZ ["stretch"] spSz) :
    FnOk P w K mg base CX0 4 f fd ["machine", "run"] spOo := by
  refine F.ok scOd (fun vs H Q E h => ?_) (fun cdv A outer s H vs Q E hr h => ?_)
  · obtain ⟨m, p, many, rs, run, rfl, _⟩ := h
    rfl
  · obtain ⟨m, p, many, rs, run, rfl, M, G, h64, hp, hl, h100, k1, k2⟩ := h
    have hr1 : Room 1 _ := hr.mono (by decide)
    have hr2 : Room 2 _ := hr.mono (by decide)
    refine ⟨_, pss_cons (ps_if (pt_val (pe_call GB hr2 rfl gB FB.kp bB .nil pass0 (pa_cons (pv 0) (pa_cons (pv 1) pa_nil)))) (pss_one (ps_ret pe_non)) pss_nil)
      (pss_cons (ps_set (i := 2) scOd.nd rfl (Or.inl rfl) (pe_inewW (P := P) (w := w) rfl rfl))
      (pss_cons (ps_for PassesOwn.never rfl (pi_tup (pe_call GU hr rfl gU FU.kp bU .nil pass0 (pa_cons (pv 0) pa_nil))) (pg_name (i := 3) scOd.nd rfl (Or.inl rfl))
        (pss_one (ps_iputW (P := P) (w := w) rfl rfl (pv 2) (pv 3) pe_bl rfl)))
      (pss_cons (ps_set (i := 4) scOd.nd rfl (Or.inl rfl) (pe_lst (pa_cons (pe_call GL hr2 rfl gL FL.kp bL .nil pass0 (pa_cons (pv 0) (pa_cons (pv 1) (pa_cons pe_int (pa_cons pe_bl (pa_cons (pv 2) pa_nil)))))) pa_nil)))
      (pss_cons (ps_for PassesOwn.never rfl (pi_range1 rfl T.range (pa_cons (pe_op op_add (pe_callB call_len_seq (by rfl) T.len PySem.boot_len (pa_cons (pv 1) pa_nil)) pe_int) pa_nil)) (pg_name (i := 5) scOd.nd rfl (Or.inl rfl))
        (pss_one (ps_expr (pe_bm PySem.F.plainAttrs_list PySem.F.slot_list_append PySem.F.type_list_append mt_append (pv 4) (pa_cons (pe_call GL hr2 rfl gL FL.kp bL .nil pass0 (pa_cons (pv 0) (pa_cons (pv 1) (pa_cons (pv 5) (pa_cons pe_bl (pa_cons (pv 2) pa_nil)))))) pa_nil)))))
      (pss_one (ps_ret (pe_minK mkey_int GZ hr2.in1 rfl bZ (by rfl) T.min PyProof.Rows.boot_min (pa_cons (pe_lc scD rfl rfl rfl (pi_list (pv 4)) (fun fp C s1 H1 => pg_name (i := 0) scD.nd rfl (Or.inl rfl)) (fun fp C s1 H1 => pts_one (pt_cmp (pc_notN (pv 0)))) (fun fp C s1 H1 => pv 0)) pa_nil) (pe_glob (v := .ref fZ) (by rfl) gZ rfl)))))))), ?_⟩
    refine ⟨_, rfl, _, rfl, m, p, many, rs, run, rfl, M, G, hp, hl, ?_⟩
    refine ⟨gd rs (walkM rs 0 run), rfl, ?_⟩
    cases hg : gd rs (walkM rs 0 run) with
    | true => exact iteT (k1 hg H (Same.refl H))
    | false =>
      refine iteF ?_
      have hrl : (run.map V.int).length = run.length := List.length_map _
      refine fun d od hd => ?_
      have s1 := (Same.refl H).upd_free (o := ID P w d [] od) hd
      have q1 : upd H d (ID P w d [] od) d = some (ID P w d [] od) := upd_same
      generalize upd H d (ID P w d [] od) = H1 at s1 q1 ⊢
      refine ⟨_, rfl, m, many, rs, rfl, M.same s1, G, h64, fun pu us H2 s2 hpu hsrt hul hus => ?_⟩
      have hd2 := s2 _ _ q1
      have s02 := s1.trans s2
      have npd : pu ≠ d := ne_of hpu hd2 (fun z => nomatch z)
      refine ⟨pu, rfl, ⟨_, SqT.of hpu⟩, ?_⟩
      refine for_tup (K := K) (a := pu) (xs := us.map V.int) (fun i σ H3 => ∃ (o : Obj) (v3 : Option V), σ = [some (.ref m), some (.ref p), some (.ref d), v3, none, none] ∧ Same H H3 ∧ H3 pu = some (.tup (us.map V.int)) ∧ H3 d = some (ID P w d ((us.take i).map kvU) o))
        ⟨od, none, rfl, s02, hpu, hd2⟩ (fun i σ H3 _ ⟨_, _, _, _, h, _⟩ => SqT.of h) ?_ ?_
      · rintro i x σ H3 hx ⟨o, v3, rfl, s3, hpu3, hD⟩
        rw [List.getElem?_map] at hx
        obtain ⟨u, eu, rfl⟩ := Option.map_eq_some_iff.mp hx
        have hno : valV ((us.take i).map kvU) (Sum.inl u : Key) = none := by
          have : (valV ((us.take i).map kvU) (Sum.inl u : Key)).isSome = false := by
            rw [kvU_some, decide_eq_false_iff_not]
            intro hm
            obtain ⟨j, hj, ej⟩ := List.mem_take_iff_getElem.mp hm
            obtain ⟨h1, h2⟩ := List.getElem?_eq_some_iff.mp eu
            have := List.pairwise_iff_getElem.mp hsrt j i (by omega) h1 (by omega)
            omega
          cases h : valV ((us.take i).map kvU) (Sum.inl u : Key) with
          | none => rfl
          | some v => rw [h] at this; cases this
        refine ⟨_, rfl, _, rfl, d, _, o, Sum.inl u, rfl, hD, rfl, small1000 (by rw [List.length_map, List.length_take]; omega), fun o' => ?_⟩
        rw [putK_new _ hno]
        refine ⟨o', _, rfl, s3.upd_free hd, by rw [upd_ne npd]; exact hpu3, ?_⟩
        rw [upd_same, List.take_add_one, eu, List.map_append]
        rfl
      · rintro σ H3 ⟨o, v3, rfl, s3, hpu3, hD⟩
        rw [List.length_map, List.take_length] at hD
        have hus' : ∀ x, x ∈ us ↔ Us rs many x := hus
        refine ⟨_, rfl, _, rfl, _, rfl, m, p, d, 0, true, many, rs, run, us, o, rfl, M.same s3, G, s3 _ _ hp, hl, Nat.zero_le _, h100, fun _ => rfl, hD, hus', by omega, fun v oc H4 s4 hv LOv => ?_⟩
        obtain ⟨fx, rfl, hfo, hfc⟩ := cand_fx hv
        refine ⟨(by show 1 ≤ sizeLine; decide), fun lf hlf => ?_⟩
        have s5 := (Same.refl H4).upd_free (o := .lst [vF fx]) hlf
        have q5 : upd H4 lf (.lst [vF fx]) lf = some (.lst (([fx] : List FE).map vF)) := upd_same
        generalize upd H4 lf (.lst [vF fx]) = H5 at s5 q5 ⊢
        have s35 := s4.trans s5
        refine ⟨_, rfl, p, _, rfl, .inr (SqT.of ((s3.trans s35) _ _ hp)), _, _, rfl, rfl, ?_⟩
        rw [hrl]
        refine ⟨_, rfl, by omega, by omega, ?_⟩
        rw [show (((run.length : Nat) : Int) + 1).toNat = run.length + 1 by omega]
        have F0 : FoI rs many run (([fx] : List FE).map (Option.map (·.2))) 1 := ⟨rfl, fun o e => by cases e; rw [hfo]; exact LOv, fun k o e => by simp at e⟩
        refine for_range (n := run.length + 1) (fun i σ H6 => ∃ (fs : List FE) (v5 : Option V), σ = [some (.ref m), some (.ref p), some (.ref d), v3, some (.ref lf), v5] ∧ Same H4 H6 ∧ H6 lf = some (.lst (fs.map vF)) ∧ (∀ x, some x ∈ fs → CandA H6 x.1 x.2) ∧ FoI rs many run (fs.map (Option.map (·.2))) (i + 1))
          ⟨[fx], none, rfl, s5, q5, fun x hx => s5 _ _ (hfc x (List.mem_singleton.mp hx).symm), F0⟩ ?_ ?_
        · rintro i σ H6 hi ⟨fs, v5, rfl, s6, hF, hC, FI⟩
          have hlen := FI.len
          rw [List.length_map] at hlen
          have s06 := s3.trans (s4.trans s6)
          refine ⟨_, rfl, .inl ⟨rfl, _, SqL.of hF⟩, _, rfl, _, rfl, _, rfl, _, rfl, m, p, d, i, false, many, rs, run, us, o, by rw [Int.zero_add]; rfl, M.same s06, G, s06 _ _ hp, hl, by omega, h100, (fun z => nomatch z), (s4.trans s6) _ _ hD, hus', by omega, fun v oc H7 s7 hv LOv => ?_⟩
          obtain ⟨fy, rfl, hfo', hfc'⟩ := cand_fx hv
          have hF7 := s7 _ _ hF
          refine ⟨lf, _, _, rfl, rfl, hF7, small1000 (by rw [List.length_map]; omega), fs ++ [fy], _, rfl, (s6.trans s7).upd_free hlf, by rw [upd_same, List.map_append]; rfl, fun x hx => ?_, ?_⟩
          · have hc7 : CandA H7 x.1 x.2 := by
              rcases List.mem_append.mp hx with h | h
              · exact s7 _ _ (hC x h)
              · exact hfc' x (List.mem_singleton.mp h).symm
            show upd H7 lf _ x.1 = _
            rw [upd_ne (ne_of hc7 hF7 (fun z => nomatch z))]
            exact hc7
          · rw [List.map_append]
            refine FI.snoc ?_
            rw [hfo']
            exact LOv
        · rintro σ H6 ⟨fs, v5, rfl, s6, hF, hC, FI⟩
          have hlen := FI.len
          rw [List.length_map] at hlen
          refine ⟨_, rfl, lf, rfl, ⟨_, SqL.of hF⟩, fun D hD2 => ?_⟩
          refine lc_list (K := K) (a := lf) (xs := fs.map vF) (fun i ys H7 => Same H6 H7 ∧ H7 D = some (.lst ys) ∧ ys = ((fs.take i).filterMap id).map fun x => V.ref x.1) (Nat.le_of_lt (small1000 (by rw [List.length_map]; omega)))
            ⟨(Same.refl H6).upd_free hD2, upd_same, by simp⟩ (fun i ys H7 h => ?_) (fun i ys H7 h => SqL.of (h.1 _ _ hF)) ?_ ?_
          · rw [h.2.2, List.length_map]
            refine Nat.le_trans (List.length_filterMap_le _ _) ?_
            rw [List.length_take]
            exact Nat.min_le_left _ _
          · rintro i ys H7 x N M' hx ⟨u1, u2, rfl⟩ hN hM
            rw [List.getElem?_map] at hx
            obtain ⟨fy, ef, rfl⟩ := Option.map_eq_some_iff.mp hx
            have tk : fs.take (i + 1) = fs.take i ++ [fy] := by rw [List.take_add_one, ef]; rfl
            cases fy with
            | none =>
              refine ⟨_, rfl, false, rfl, iteF (hM H7 ⟨u1, u2, ?_⟩)⟩
              rw [tk, List.filterMap_append, List.map_append]
              simp
            | some x =>
              refine ⟨_, rfl, true, rfl, iteT ⟨_, rfl, hN _ H7 u2 ⟨u1.upd_free hD2, upd_same, ?_⟩⟩⟩
              rw [tk, List.filterMap_append, List.map_append]
              rfl
          · rintro ys H7 ⟨u1, u2, rfl⟩
            rw [List.length_map, List.take_length] at u2
            have hne : fs.filterMap id ≠ [] := fun e => by
              have := FI.one (by omega) hg
              rw [fm_snd, e] at this
              exact this rfl
            have hfl : (fs.filterMap id).length ≤ 102 := Nat.le_trans (List.length_filterMap_le _ _) (by omega)
            refine ⟨D, (fs.filterMap id).map fun x => (x.1, szC x.2), rfl, rfl, by rw [List.map_map]; exact SqL.of u2, by rw [List.length_map]; omega, fun e => hne (List.map_eq_nil_iff.mp e), fun z hz H8 s8 Q' E' kq => ?_, fun z H8 hB s8 => ?_⟩
            · obtain ⟨x, hx, rfl⟩ := List.mem_map.mp hz
              obtain ⟨fy, hfy, efy⟩ := List.mem_filterMap.mp hx
              have efy : fy = some x := efy
              subst efy
              exact ⟨x.1, x.2, rfl, (u1.trans s8) _ _ (hC x hfy), fun H9 s9 => kq _ H9 s9 rfl⟩
            · obtain ⟨i, hi, ez, hall⟩ := hB
              rw [List.getElem?_map] at ez
              obtain ⟨x, ex, rfl⟩ := Option.map_eq_some_iff.mp ez
              obtain ⟨fy, hfy, efy⟩ := List.mem_filterMap.mp (List.mem_of_getElem? ex)
              have efy : fy = some x := efy
              subst efy
              refine k2 hg x.1 x.2 H8 (s3.trans (s4.trans (s6.trans (u1.trans s8)))) ((u1.trans s8) _ _ (hC x hfy)) (FI.first (i := i) (by rw [fm_snd, List.getElem?_map, ex]; rfl) fun j c' ec => ?_)
              rw [fm_snd, List.getElem?_map] at ec
              obtain ⟨y, ey, rfl⟩ := Option.map_eq_some_iff.mp ec
              have hj : j < ((fs.filterMap id).map fun x => (x.1, szC x.2)).length := by
                rw [List.length_map]
                exact (List.getElem?_eq_some_iff.mp ey).1
              obtain ⟨a1, a2⟩ := hall j (y.1, szC y.2) hj (by rw [List.getElem?_map, ey]; rfl)
              have a1 : decide (szC y.2 < szC x.2) = false := a1
              have a1 := of_decide_eq_false a1
              refine ⟨by omega, fun hji => ?_⟩
              have a2 : decide (szC x.2 < szC y.2) = true := a2 hji
              exact of_decide_eq_true a2
end
end K63
namespace SO
open PySem PyProof PyProof.Rows HT

def lxOrd : KeyOrd where
  α := List Int
  blt := lexLt
  irrefl := fun a => lex_irr _
  trans := fun a b c => neg_asym (r := HT.lexLt) lex_irr lex_neg lex_tot lex_asym _ _ _
  negTrans := fun a b c => lex_neg _ _ _
  total := fun a b h1 h2 => lex_tot _ _ h1 h2
def FlK (h : Heap) (k : List Int) (v : Value) : Prop := ∃ a items, v = .ref a ∧ IsTup h a items ∧ IntsAre items.toList k ∧ k.length = 5
theorem FlK.inj {h : Heap} {k k' : List Int} {v : Value} (x : FlK h k v) (y : FlK h k' v) : k = k' := by
  obtain ⟨a, i, rfl, h1, h2, _⟩ := x
  obtain ⟨a', i', e, h1', h2', _⟩ := y
  cases e
  have e1 := tup_inj h1 h1'
  subst e1
  exact ints_inj h2 h2'
open Classical in
noncomputable def kyF (h : Heap) (x : Keyed) : List Int := if e : ∃ k, FlK h k x.1 then e.choose else []
theorem kyF_is {h : Heap} {k : List Int} {x : Keyed} (e : FlK h k x.1) : kyF h x = k := by
  unfold kyF
  have q : ∃ k, FlK h k x.1 := ⟨k, e⟩
  rw [dif_pos q]
  exact q.choose_spec.inj e
section
variable {prog : Program} {w : World} {A : Around} {E : Value → Shared → Prop} {s : Shared}
theorem ints_len : ∀ {vs : List Value} {ns : List Int}, IntsAre vs ns → vs.length = ns.length
  | _, _, .nil => rfl
  | _, _, .cons _ _ r => by rw [List.length_cons, List.length_cons, ints_len r]
theorem kat_ints {Q : Bool → Shared → Prop} : ∀ {xs ys : List Value} {ns ms : List Int}, IntsAre xs ns → IntsAre ys ms → ns.length = ms.length → ∀ i : Nat, Q (lexLt ns ms) s → PySem.W.KatLex prog w A true false Q (xs.zip ys) i s
  | _, _, _, _, .nil, .nil, _, i, h => PySem.W.kat_nil h
  | _, _, _, _, .nil, .cons _ _ _, hl, _, _ => by cases hl
  | _, _, _, _, .cons _ _ _, .nil, hl, _, _ => by cases hl
  | _, _, _, _, .cons a t r, .cons b u r', hl, i, h => by
    rw [lexLt_cons] at h
    refine PySem.W.kat_cons (PySem.wpAny_eqBool_int ?_)
    by_cases e : a = b
    · rw [if_pos e] at h
      rw [show (a == b) = true by simpa using e]
      exact PySem.W.kat_yes (kat_ints r r' (by simpa using hl) (i + 1) h)
    · rw [if_neg e] at h
      rw [show (a == b) = false by simpa using e]
      refine PySem.W.kat_no ?_
      cases i with
      | zero => exact oneLt_int h
      | succ i =>
        show wpAny _ _ (oneLt' (true && (i + 1 == 0)) _ _) _ _ _
        rw [show (true && (i + 1 == 0)) = false by simp]
        exact PySem.W.kat_one _ _ (HT.rcLt_int _ _ _ _ _ _ _ _ _ _ h)
theorem cmp_fl {k k' : List Int} {x y : Value} {Q : Bool → Shared → Prop} (hx : FlK s.heap k x) (hy : FlK s.heap k' y) (h : Q (lexLt k k') s) : wpAny (model prog w) A (keyLt' (tuples' true) x y) Q E s := by
  obtain ⟨a, its, rfl, ⟨o1, g1, c1, n1, d1⟩, h2, h3⟩ := hx
  obtain ⟨a', its', rfl, ⟨o1', g1', c1', n1', d1'⟩, h2', h3'⟩ := hy
  refine PySem.W.kat_lt g1 d1 g1' d1' ?_
  have e1 : its.size = its'.size := by rw [← Array.length_toList, ← Array.length_toList, ints_len h2, ints_len h2', h3, h3']
  rw [show decide (its.size < its'.size) = false by rw [e1]; simp]
  exact kat_ints h2 h2' (by rw [h3, h3']) 0 h
theorem FlK.kept {h h' : Heap} {k : List Int} {v : Value} (g : ∀ b o, h.get? b = some o → o.cls = .type "tuple" → h'.get? b = some o) (x : FlK h k v) : FlK h' k v := by
  obtain ⟨a, i, rfl, h1, h2, h3⟩ := x
  exact ⟨a, i, rfl, tup_kept g h1, h2, h3⟩
inductive FlKs (h : Heap) : List (List Int) → List Value → Prop
  | nil : FlKs h [] []
  | cons {k : List Int} {v : Value} {ks : List (List Int)} {vs : List Value} : FlK h k v → FlKs h ks vs → FlKs h (k :: ks) (v :: vs)
theorem FlKs.kept {h h' : Heap} (g : ∀ b o, h.get? b = some o → o.cls = .type "tuple" → h'.get? b = some o) : ∀ {ks : List (List Int)} {vs : List Value}, FlKs h ks vs → FlKs h' ks vs
  | _, _, .nil => .nil
  | _, _, .cons x r => .cons (x.kept g) (FlKs.kept g r)
theorem FlKs.mem {h : Heap} : ∀ {ks : List (List Int)} {vs : List Value}, FlKs h ks vs → ∀ v ∈ vs, ∃ k ∈ ks, FlK h k v
  | _, _, .cons x r, v, hv => by
    rcases List.mem_cons.mp hv with rfl | hv
    · exact ⟨_, List.mem_cons_self, x⟩
    · obtain ⟨k, k1, k2⟩ := FlKs.mem r v hv
      exact ⟨k, List.mem_cons_of_mem _ k1, k2⟩
theorem fls_firsts {h : Heap} : ∀ {ks : List (List Int)} {vs : List Value}, FlKs h ks vs → ∃ fs, PySem.W.KatTups h vs fs ∧ fs.length = vs.length ∧ ∀ f ∈ fs, ∃ n t, f = Value.int n t
  | _, _, .nil => ⟨[], PySem.W.KatTups.nil, rfl, fun f hf => by cases hf⟩
  | _, _, .cons (k := k) x r => by
    obtain ⟨fs, f1, f2, f3⟩ := fls_firsts r
    obtain ⟨a, its, rfl, ⟨o, e1, e2, n, e3⟩, h2, h3⟩ := x
    obtain ⟨k0, t, hk0⟩ : ∃ k0 t, its[0]? = some (Value.int k0 t) := by
      rw [← Array.getElem?_toList]
      generalize its.toList = l at h2
      cases h2 with
      | nil => cases h3
      | cons n t r => exact ⟨n, t, rfl⟩
    refine ⟨.int k0 t :: fs, PySem.W.KatTups.cons e1 e2 e3 hk0 f1, by rw [List.length_cons, List.length_cons, f2], fun f hf => ?_⟩
    rcases List.mem_cons.mp hf with rfl | hf
    · exact ⟨_, _, rfl⟩
    · exact f3 f hf
theorem fls_kind {ks : List (List Int)} {vs : List Value} {Q : SortKind → Shared → Prop} (x : FlKs s.heap ks vs) (hne : 0 < vs.length) (h : Q (tuples' true) s) : wpAny (model prog w) A (keyKind' vs.toArray) Q E s := by
  obtain ⟨fs, f1, f2, f3⟩ := fls_firsts x
  refine PySem.W.kat_kind (T := .type "int") f1 (by omega) (fun v hv => ?_) (by decide) ?_
  · obtain ⟨n, t, rfl⟩ := f3 v hv
    exact .now
  · exact h
theorem list_sort_fls {a : Addr} {vs : List Value} {ks : List (List Int)} {n : Nat} {P : PySem.Fin → Shared → Prop} (hu : A.units + 2 < cLine) (ho : s.heap.get? a = some (seqObj "list" vs.toArray n))
    (hx : FlKs s.heap ks vs) (hz : vs.length ≤ 1000)
    (h : ∀ st' : SortSt, (arrOf st').Perm (pairsOf vs) → Up (O := lxOrd) (kyF s.heap) (arrOf st') 0 (pairsOf vs).size → P (.done (.ret .none)) { s with heap := sortedHeap s.heap a vs ((arrOf st').map (·.2)) }) :
    wpAny (model prog w) A (Builtin.«list.sort» ⟨[.ref a], []⟩) P E s := by
  rw [list_sort_plain]
  have ha : a < s.heap.objs.size := Heap.lt_size ho
  have hsz : vs.toArray.size = vs.length := by simp
  refine wpAny_bind (listItems_at ho rfl ?_)
  refine wpAny_bind (listUpdate_at ho rfl ?_ (by rw [hsz, sizeLine_eq]; omega) (Nat.zero_le _))
  obtain ⟨e1, ho1⟩ : ∃ e1, (s.heap.update a (Obj.mapSeq fun _ => #[])).get? a = some (seqObj "list" #[] e1) := ⟨_, get?_update_seq ho (fun _ => #[])⟩
  refine wpAny_bind (seqEpoch_at ho1 rfl ?_)
  refine wpAny_bind (wpAny_newTuple ?_ (by show vs.length ≤ _; rw [sizeLine_eq]; omega))
  refine wpAny_bind (wpAny_newList ?_ (Nat.zero_le _))
  refine wpAny_holding ?_
  have ho6 : (((s.heap.update a (Obj.mapSeq fun _ => #[])).push (seqObj "tuple" vs.toArray 0)).push (seqObj "list" #[] 0)).get? a = some (seqObj "list" #[] e1) := by
    rw [Heap.get?_push_ne _ _ _ (by rw [size_push', Heap.size_update]; exact Nat.ne_of_lt (Nat.lt_succ_of_lt ha)), Heap.get?_push_ne _ _ _ (by rw [Heap.size_update]; exact Nat.ne_of_lt ha)]
    exact ho1
  have keep : ∀ b o, s.heap.get? b = some o → o.cls = .type "tuple" → (((s.heap.update a (Obj.mapSeq fun _ => #[])).push (seqObj "tuple" vs.toArray 0)).push (seqObj "list" #[] 0)).get? b = some o := by
    intro b o hb hc
    have hba : b ≠ a := by
      intro e
      subst e
      rw [ho] at hb
      cases hb
      have hc' : Value.type "list" = Value.type "tuple" := hc
      injection hc' with e
      exact absurd e (by decide)
    have hlt : b < s.heap.objs.size := Heap.lt_size hb
    rw [Heap.get?_push_ne _ _ _ (by rw [size_push', Heap.size_update]; exact Nat.ne_of_lt (Nat.lt_succ_of_lt hlt)), Heap.get?_push_ne _ _ _ (by rw [Heap.size_update]; exact Nat.ne_of_lt hlt), Heap.get?_update_ne _ _ _ _ hba]
    exact hb
  show wpAny (model prog w) A _ P E { s with heap := ((s.heap.update a (Obj.mapSeq fun _ => #[])).push (seqObj "tuple" vs.toArray 0)).push (seqObj "list" #[] 0) }
  dsimp only
  by_cases h2 : vs.toArray.size < 2
  · rw [if_pos h2, if_pos h2]
    refine wpAny_bind (wpAny_pure ?_)
    rw [StateT.run_pure]
    refine wpAny_bind (wpAny_pure ?_)
    dsimp only
    refine wpAny_bind (seqEpoch_at ho6 rfl ?_)
    refine wpAny_bind (listUpdate_at ho6 rfl ?_ (Nat.zero_le _) (by rw [Array.size_map]; show (pairsOf vs).size ≤ _; rw [pairsOf_size, sizeLine_eq]; omega))
    simp only [bne_self_eq_false, Bool.false_eq_true, if_false]
    refine wpAny_pure (h (SortSt.mk' general' (vs.toArray.zip vs.toArray) #[] 7 none) (Array.Perm.refl _) ?_)
    intro i j hij hj
    have : i = j := by rw [pairsOf_size] at hj; omega
    subst this; exact KeyOrd.kle_refl _
  · rw [if_neg h2, if_neg h2]
    have hx' := hx.kept keep
    refine wpAny_bind (fls_kind (s := { s with heap := ((s.heap.update a (Obj.mapSeq fun _ => #[])).push (seqObj "tuple" vs.toArray 0)).push (seqObj "list" #[] 0) }) hx' (by omega) ?_)
    refine wpAny_bind (wpAny_mono (wpS_sortAll (O := lxOrd) (ky := kyF s.heap) (κ := tuples' true) (a₀ := pairsOf vs) (st := SortSt.mk' (tuples' true) (vs.toArray.zip vs.toArray) #[] 7 none)
      (Q := fun _ st' => (arrOf st').Perm (pairsOf vs) ∧ failedOf st' = none ∧ Up (O := lxOrd) (kyF s.heap) (arrOf st') 0 (pairsOf vs).size)
      ?cmp ⟨Array.Perm.refl _, rfl, rfl⟩ rfl (by rw [pairsOf_size]; omega) fun st' a1 a2 => ⟨a1.perm, a1.failed, a2⟩) ?_ fun _ _ e => e)
    case cmp =>
      intro x hxm y hym Q' E' hq
      obtain ⟨k, k1, k2⟩ := hx.mem _ (pairs_mem hxm).1
      obtain ⟨k', k1', k2'⟩ := hx.mem _ (pairs_mem hym).1
      rw [kyF_is k2, kyF_is k2'] at hq
      exact cmp_fl (s := { s with heap := ((s.heap.update a (Obj.mapSeq fun _ => #[])).push (seqObj "tuple" vs.toArray 0)).push (seqObj "list" #[] 0) }) (k2.kept keep) (k2'.kept keep) hq
    rintro ⟨⟨⟩, st'⟩ s' ⟨rfl, hp, hf, hs⟩
    dsimp only
    refine wpAny_bind (seqEpoch_at ho6 rfl ?_)
    refine wpAny_bind (listUpdate_at ho6 rfl ?_ (Nat.zero_le _) (by refine Nat.le_trans (Nat.le_of_eq ((Array.size_map ..).trans (hp.size_eq.trans (pairsOf_size _)))) ?_; rw [sizeLine_eq]; omega))
    rw [hf]
    simp only [bne_self_eq_false, Bool.false_eq_true, if_false]
    exact wpAny_pure (h st' hp hs)
theorem sorted_fls {l : Addr} {vs : List Value} {ks : List (List Int)} {Q : Value → Shared → Prop} (hu : A.units + 4 < cLine) (hl : s.heap.IsList l vs.toArray) (hx : FlKs s.heap ks vs) (hz : vs.length ≤ 1000)
    (h : ∀ st' : SortSt, (arrOf st').Perm (pairsOf vs) → Up (O := lxOrd) (kyF s.heap) (arrOf st') 0 (pairsOf vs).size → Q (.ref (s.heap.objs.size + 1)) { s with heap := sortedAll s.heap vs ((arrOf st').map (·.2)) }) :
    wpAny (model prog w) A (call (.builtin "sorted") [.ref l]) Q E s := by
  refine Calls.call_function_entry kind_sorted plain_sorted entry_sorted (args_sorted1 _) ?_
  unfold Builtin.«sorted»
  refine wpAny_bind (m := checkCount "sorted" 1 1 _) (wpAny_pure ?_)
  refine wpAny_bind (collect_list hl ?_ (by rw [sizeLine_eq]; omega))
  refine wpAny_bind (wpAny_newList ?_ (by rw [sizeLine_eq]; omega))
  have hsz : ((s.heap.push (seqObj "list" #[] 0)).update s.heap.objs.size (Obj.mapSeq (· ++ vs.toArray))).objs.size = s.heap.objs.size + 1 := by
    rw [Heap.size_update, size_push']
  have hoL : (((s.heap.push (seqObj "list" #[] 0)).update s.heap.objs.size (Obj.mapSeq (· ++ vs.toArray))).push (seqObj "list" vs.toArray 0)).get? (s.heap.objs.size + 1) = some (seqObj "list" vs.toArray 0) := by
    rw [← hsz]; exact Heap.get?_push_size _ rfl
  have keep : ∀ b o, s.heap.get? b = some o → (((s.heap.push (seqObj "list" #[] 0)).update s.heap.objs.size (Obj.mapSeq (· ++ vs.toArray))).push (seqObj "list" vs.toArray 0)).get? b = some o := fun b o q => by
    have hlt : b < s.heap.objs.size := Heap.lt_size q
    rw [Heap.get?_push_ne _ _ _ (by rw [hsz]; exact Nat.ne_of_lt (Nat.lt_succ_of_lt hlt)), Heap.get?_update_ne _ _ _ _ (Nat.ne_of_lt hlt), Heap.get?_push_ne _ _ _ (Nat.ne_of_lt hlt)]
    exact q
  show wpAny _ _ _ _ _ { s with heap := ((s.heap.push (seqObj "list" #[] 0)).update s.heap.objs.size (Obj.mapSeq (· ++ vs.toArray))).push (seqObj "list" vs.toArray 0) }
  rw [hsz]
  have hx' := hx.kept fun b o e _ => keep b o e
  have eqk : ∀ x ∈ (pairsOf vs).toList, kyF s.heap x = kyF (((s.heap.push (seqObj "list" #[] 0)).update s.heap.objs.size (Obj.mapSeq (· ++ vs.toArray))).push (seqObj "list" vs.toArray 0)) x := fun x hxm => by
    obtain ⟨k, k1, k2⟩ := hx.mem _ (pairs_mem hxm).1
    rw [kyF_is k2, kyF_is (k2.kept fun b o e _ => keep b o e)]
  refine wpAny_bind (wpAny_holding (wpAny_call_entry slot_list_sort ⟨_, hoL, rfl⟩ entry_list_sort (list_sort_fls (s := { s with heap := ((s.heap.push (seqObj "list" #[] 0)).update s.heap.objs.size (Obj.mapSeq (· ++ vs.toArray))).push (seqObj "list" vs.toArray 0) }) ?_ hoL hx' hz fun st' a1 a2 => ⟨_, rfl, ?_⟩) (args_list_sort _)))
  · show A.units + 1 + 1 + 2 < _
    omega
  refine wpAny_pure ⟨_, rfl, h st' a1 ?_⟩
  intro i j hij hj
  have hs := a1.size_eq
  obtain ⟨x, ex, hxm⟩ := at_lt (a := arrOf st') (i := 0 + i) (by omega)
  obtain ⟨y, ey, hym⟩ := at_lt (a := arrOf st') (i := 0 + j) (by omega)
  have px := (Array.perm_iff_toList_perm.mp a1).mem_iff.mp hxm
  have py := (Array.perm_iff_toList_perm.mp a1).mem_iff.mp hym
  have := a2 i j hij hj
  have q1 := kk_some (O := lxOrd) (ky := kyF s.heap) ex
  have q2 := kk_some (O := lxOrd) (ky := kyF s.heap) ey
  have q3 := kk_some (O := lxOrd) (ky := kyF (((s.heap.push (seqObj "list" #[] 0)).update s.heap.objs.size (Obj.mapSeq (· ++ vs.toArray))).push (seqObj "list" vs.toArray 0))) ex
  have q4 := kk_some (O := lxOrd) (ky := kyF (((s.heap.push (seqObj "list" #[] 0)).update s.heap.objs.size (Obj.mapSeq (· ++ vs.toArray))).push (seqObj "list" vs.toArray 0))) ey
  rw [← eqk x px, ← q1] at q3
  rw [← eqk y py, ← q2] at q4
  rw [← q3, ← q4]
  exact this
end
end SO
namespace L2
open PySem PySem.Spec PyProof.Rows SO
section
variable {X : Cx}

def FlA (H : Hp) (z : Addr × List Int) : Prop := H z.1 = some (.tup (z.2.map V.int)) ∧ z.2.length = 5
theorem fla_is {pins : List (Addr × Obj)} {σ : St} {H : Hp} {s : Shared} (I : Inv X pins σ H s) {z : Addr × List Int} (h : FlA H z) : FlK s.heap z.2 (.ref z.1) := by
  obtain ⟨h1, h5⟩ := h
  obtain ⟨its, r, p1, _⟩ := I.tuple (SqT.of h1)
  exact ⟨z.1, its.toArray, rfl, p1, by simpa using intsAre_of r, h5⟩
theorem flas_are {pins : List (Addr × Obj)} {σ : St} {H : Hp} {s : Shared} (I : Inv X pins σ H s) : ∀ {zs : List (Addr × List Int)}, (∀ z ∈ zs, FlA H z) → FlKs s.heap (zs.map (·.2)) (zs.map fun z => Value.ref z.1)
  | [], _ => .nil
  | z :: zs, h => .cons (fla_is I (h z List.mem_cons_self)) (flas_are I fun y hy => h y (List.mem_cons_of_mem _ hy))
theorem vals_refsF : ∀ {zs : List (Addr × List Int)} {us : List Value}, Vals (zs.map fun z => V.ref z.1) us → us = zs.map fun z => Value.ref z.1
  | [], _, .nil => rfl
  | z :: zs, _, .cons h r => by
    cases h
    rw [vals_refsF r]
    rfl
theorem vals_of_refsF : ∀ (zs : List (Addr × List Int)), Vals (zs.map fun z => V.ref z.1) (zs.map fun z => Value.ref z.1)
  | [] => .nil
  | z :: zs => .cons rfl (vals_of_refsF zs)
theorem flas_zip {pins : List (Addr × Obj)} {σ : St} {H : Hp} {s : Shared} (I : Inv X pins σ H s) : ∀ {zs : List (Addr × List Int)}, (∀ z ∈ zs, FlA H z) → ((zs.map fun z => Value.ref z.1).zip (zs.map fun z => Value.ref z.1)).map (fun x => (adr x.2, kyF s.heap x)) = zs
  | [], _ => rfl
  | z :: zs, h => by
    rw [List.map_cons, List.zip_cons_cons, List.map_cons, flas_zip I fun y hy => h y (List.mem_cons_of_mem _ hy)]
    have := kyF_is (x := (Value.ref z.1, Value.ref z.1)) (fla_is I (h z List.mem_cons_self))
    rw [this]
    rfl
theorem call_sortedF (hu : X.A.units + 4 < cLine) : CallR X (.builtin "sorted") (fun xs H Q => ∃ p zs, xs = [.ref p] ∧ SqL X.K H p (zs.map fun z : Addr × List Int => V.ref z.1) ∧ (∀ z ∈ zs, FlA H z) ∧ zs.length ≤ 1000 ∧ ∀ (l : Addr) (zs' : List (Addr × List Int)), H l = none → zs'.Perm zs → zs'.Pairwise (fun x y => HT.lexLt y.2 x.2 = false) → Q (.ref l) (upd H l (.lst (zs'.map fun z => V.ref z.1)))) := by
  intro pins s σ H xs us Q I r h
  obtain ⟨p, zs, rfl, hq, hp, hz, q⟩ := h
  obtain ⟨u, rfl, rx⟩ := vals1 r
  cases rx
  obtain ⟨its, r', pl, hz'⟩ := I.list hq
  obtain rfl := vals_refsF r'
  refine sorted_fls hu pl.isList (flas_are I hp) (by simpa using hz) fun st' a1 a2 => ?_
  have hpr : ((arrOf st').toList.map (fun x => (adr x.2, kyF s.heap x))).Perm zs := by
    have := (Array.perm_iff_toList_perm.mp a1).map (fun x => (adr x.2, kyF s.heap x))
    rw [show (pairsOf (zs.map fun z => Value.ref z.1)).toList = (zs.map fun z => Value.ref z.1).zip (zs.map fun z => Value.ref z.1) by simp [pairsOf], flas_zip I hp] at this
    exact this
  have hout : ((arrOf st').map (·.2)).toList = ((arrOf st').toList.map (fun x => (adr x.2, kyF s.heap x))).map fun z => Value.ref z.1 := by
    rw [Array.toList_map, List.map_map]
    refine List.map_congr_left fun x hx => ?_
    have hm := pairs_mem ((Array.perm_iff_toList_perm.mp a1).mem_iff.mp hx)
    obtain ⟨z, hz1, hz2⟩ := List.mem_map.mp hm.1
    show x.2 = Value.ref (adr x.2)
    rw [hm.2, ← hz2]
    rfl
  generalize hzs : (arrOf st').toList.map (fun x => (adr x.2, kyF s.heap x)) = zs' at hpr hout
  have hsrt : zs'.Pairwise (fun x y => HT.lexLt y.2 x.2 = false) := by
    rw [← hzs, List.pairwise_map]
    have hsz : (arrOf st').size = (pairsOf (zs.map fun z => Value.ref z.1)).size := a1.size_eq
    rw [← hsz] at a2
    have hh : SL (O := lxOrd) (kyF s.heap) (arrOf st').toList := up_SL a2
    exact hh
  obtain ⟨c, he⟩ := sortedAll_at s.heap (zs.map fun z => Value.ref z.1) ((arrOf st').map (·.2))
  have hl' := hpr.length_eq
  have hout' : (arrOf st').map (·.2) = (zs'.map fun z => Value.ref z.1).toArray := by rw [← hout, Array.toArray_toList]
  rw [hout'] at he ⊢
  have hob : ObjOk X.prog X.w (upd H (s.heap.objs.size + 1) (.lst (zs'.map fun z => V.ref z.1))) (sortedAll s.heap (zs.map fun z => Value.ref z.1) (zs'.map fun z => Value.ref z.1).toArray) (s.heap.objs.size + 1) (.lst (zs'.map fun z => V.ref z.1)) :=
    ⟨by rw [List.length_map, hl']; exact Nat.le_of_lt (small1000 hz), zs'.map fun z => Value.ref z.1, c, vals_of_refsF zs', he⟩
  exact ⟨.ref (s.heap.objs.size + 1), _, I.laid (t' := s.toks) (fun _ _ => sortedAll_old) (Nat.le_succ _) hob, rfl, q _ zs' (I.hok.fresh (Nat.le_succ _)) hpr hsrt⟩
end
end L2
namespace L2
open PySem PySem.Spec PyProof.Rows

section
variable {X : Cx} {P : Program} {w : World}
end
end L2
namespace K63
open PySem L2 K20 K21 K60 K61 SO
theorem ite_K {c : Bool} {A B : Prop} (h1 : c = true → A) (h2 : c = false → B) : if c = true then A else B := by
  cases c with
  | true => rw [if_pos rfl]; exact h1 rfl
  | false => rw [if_neg Bool.false_ne_true]; exact h2 rfl
theorem dec_int (a b : Int) : decide (V.int a = V.int b) = decide (a = b) := decide_eq_decide.mpr ⟨fun q => by injection q, fun q => by rw [q]⟩
theorem cut_tw (xs : List Int) (t w : Nat) : cutV (xs.map V.int) (some (t : Int)) (some ((t : Int) + (w : Int))) = ((xs.drop t).take w).map V.int := by
  have e : ((t : Int) + (w : Int)) = ((t + w : Nat) : Int) := by omega
  rw [e]
  unfold cutV
  rw [HT.sIx_nat, HT.sIx_nat, List.length_map, ← List.map_drop, ← List.map_take]
  congr 1
  by_cases h : t ≤ xs.length
  · rw [Nat.min_eq_left h]
    by_cases h2 : t + w ≤ xs.length
    · rw [Nat.min_eq_left h2]
      congr 1
      omega
    · rw [Nat.min_eq_right (by omega), List.take_of_length_le (by rw [List.length_drop]; omega), List.take_of_length_le (by rw [List.length_drop]; omega)]
  · rw [Nat.min_eq_right (by omega), Nat.min_eq_right (by omega), List.drop_eq_nil_of_le (Nat.le_refl _), List.drop_eq_nil_of_le (show xs.length ≤ t by omega)]
    simp

def i01 (b : Bool) : Int := if b = true then 1 else 0
def KC (s e : Nat) (h t : Int) : List Int := [(e : Int) - (s : Int) + h + t, (s : Int), 1 - h, (e : Int), t]
def cnd (n s e : Nat) (h t : Int) : Bool := decide (h ≤ i01 (decide (s = 0))) && decide (t ≤ i01 (decide (e = n)))
def oneM (n s e : Nat) (h t : Int) : List (List Int) := if cnd n s e h t = true then [KC s e h t] else []
def tlM (n s e : Nat) (h : Int) : List (List Int) := ([0, 1] : List Int).flatMap (oneM n s e h)
def hdM (n s e : Nat) : List (List Int) := ([1, 0] : List Int).flatMap (tlM n s e)
def spM (n s : Nat) : List (List Int) := (List.range (n + 1 - s)).flatMap fun j => hdM n s (s + j)
def stM (n : Nat) : List (List Int) := (List.range (n + 1)).flatMap (spM n)
def KCc (c : Cand) : List Int := KC c.1 c.2.1 (i01 c.2.2.1) (i01 c.2.2.2)
theorem flat_range {α : Type} (f : Nat → List α) (i : Nat) : (List.range (i + 1)).flatMap f = (List.range i).flatMap f ++ f i := by
  rw [List.range_succ, List.flatMap_append]
  simp
theorem flat_take {α β : Type} (f : α → List β) {xs : List α} {i : Nat} {x : α} (h : xs[i]? = some x) : (xs.take (i + 1)).flatMap f = (xs.take i).flatMap f ++ f x := by
  rw [List.take_add_one, h, List.flatMap_append]
  simp
theorem stM_len : ∀ n, n < 21 → (stM n).length ≤ 1000 := by decide +kernel
theorem KC_len (s e : Nat) (h t : Int) : (KC s e h t).length = 5 := rfl
theorem i01_cases (b : Bool) : (b = true ∧ i01 b = 1) ∨ (b = false ∧ i01 b = 0) := by cases b <;> simp [i01]
theorem mem_stM {n : Nat} {k : List Int} : k ∈ stM n ↔ ∃ c : Cand, Val n c ∧ k = KCc c := by
  unfold stM spM hdM tlM oneM
  simp only [List.mem_flatMap, List.mem_range]
  constructor
  · rintro ⟨s, hs, j, hj, h, hh, t, ht, hk⟩
    by_cases hc : cnd n s (s + j) h t = true
    · rw [if_pos hc] at hk
      have hk := List.mem_singleton.mp hk
      unfold cnd at hc
      rw [Bool.and_eq_true, decide_eq_true_iff, decide_eq_true_iff] at hc
      have hh : h = 1 ∨ h = 0 := by simpa using hh
      have ht : t = 0 ∨ t = 1 := by simpa using ht
      have e1 : i01 (decide (h = 1)) = h := by rcases hh with e | e <;> subst e <;> rfl
      have e2 : i01 (decide (t = 1)) = t := by rcases ht with e | e <;> subst e <;> rfl
      refine ⟨(s, s + j, decide (h = 1), decide (t = 1)), ⟨by show s ≤ s + j; omega, by show s + j ≤ n; omega, fun q => ?_, fun q => ?_⟩, ?_⟩
      · have q : h = 1 := of_decide_eq_true q
        show s = 0
        rcases i01_cases (decide (s = 0)) with ⟨a, b⟩ | ⟨a, b⟩
        · exact of_decide_eq_true a
        · omega
      · have q : t = 1 := of_decide_eq_true q
        show s + j = n
        rcases i01_cases (decide (s + j = n)) with ⟨a, b⟩ | ⟨a, b⟩
        · exact of_decide_eq_true a
        · omega
      · rw [hk]
        show KC s (s + j) h t = KC s (s + j) (i01 (decide (h = 1))) (i01 (decide (t = 1)))
        rw [e1, e2]
    · rw [if_neg hc] at hk
      cases hk
  · rintro ⟨⟨b, e, hd, tl⟩, v, rfl⟩
    have v1 : b ≤ e := v.le
    have v2 : e ≤ n := v.en
    have v3 : hd = true → b = 0 := v.hd
    have v4 : tl = true → e = n := v.tl
    refine ⟨b, by omega, e - b, by omega, i01 hd, by cases hd <;> simp [i01], i01 tl, by cases tl <;> simp [i01], ?_⟩
    rw [show b + (e - b) = e by omega]
    have hc : cnd n b e (i01 hd) (i01 tl) = true := by
      unfold cnd
      rw [Bool.and_eq_true, decide_eq_true_iff, decide_eq_true_iff]
      refine ⟨?_, ?_⟩
      · cases hd with
        | true => rw [decide_eq_true (v3 rfl)]; exact Int.le_refl _
        | false => rcases i01_cases (decide (b = 0)) with ⟨_, q⟩ | ⟨_, q⟩ <;> rw [q] <;> decide
      · cases tl with
        | true => rw [decide_eq_true (v4 rfl)]; exact Int.le_refl _
        | false => rcases i01_cases (decide (e = n)) with ⟨_, q⟩ | ⟨_, q⟩ <;> rw [q] <;> decide
    rw [if_pos hc]
    exact List.mem_singleton.mpr rfl
theorem i01_inj {a b : Bool} (h : i01 a = i01 b) : a = b := by cases a <;> cases b <;> first | rfl | cases h
theorem KCc_inj {c d : Cand} (h : KCc c = KCc d) : c = d := by
  obtain ⟨b, e, hd, tl⟩ := c
  obtain ⟨b', e', hd', tl'⟩ := d
  have h : KC b e (i01 hd) (i01 tl) = KC b' e' (i01 hd') (i01 tl') := h
  unfold KC at h
  simp only [List.cons.injEq, and_true] at h
  obtain ⟨_, h2, h3, h4, h5⟩ := h
  have a1 : b = b' := by omega
  have a2 : e = e' := by omega
  have a3 : hd = hd' := i01_inj (by omega)
  have a4 : tl = tl' := i01_inj h5
  rw [a1, a2, a3, a4]

def FirstL (rs : Rms) (many : Int) (run : List Int) (c : Cand) : Prop := Val run.length c ∧ OddC rs many run c ∧ ∀ c', Val run.length c' → OddC rs many run c' → HT.lexLt (KCc c') (KCc c) = false
theorem bn_i01 (b : Bool) : ((bn b : Nat) : Int) = i01 b := by cases b <;> rfl
theorem first_eq {rs : Rms} {many : Int} {run : List Int} {c d : Cand} (hc : Fst rs many run c) (hd : FirstL rs many run d) : c = d := by
  obtain ⟨vc, oc, mc⟩ := hc
  obtain ⟨vd, od, md⟩ := hd
  obtain ⟨m1, m2⟩ := mc d vd od
  have hl := md c vc oc
  obtain ⟨b, e, hd, tl⟩ := c
  obtain ⟨b', e', hd', tl'⟩ := d
  have c1 : b ≤ e := vc.le
  have c2 : e ≤ run.length := vc.en
  have c3 : hd = true → b = 0 := vc.hd
  have c4 : tl = true → e = run.length := vc.tl
  have d1 : b' ≤ e' := vd.le
  have d2 : e' ≤ run.length := vd.en
  have d3 : hd' = true → b' = 0 := vd.hd
  have d4 : tl' = true → e' = run.length := vd.tl
  have m1 : (e : Int) - (b : Int) + ((bn hd + bn tl : Nat) : Int) ≤ (e' : Int) - (b' : Int) + ((bn hd' + bn tl' : Nat) : Int) := m1
  have m2 : (e : Int) - (b : Int) + ((bn hd + bn tl : Nat) : Int) = (e' : Int) - (b' : Int) + ((bn hd' + bn tl' : Nat) : Int) → (if hd = true then 0 else b + 1) ≤ (if hd' = true then 0 else b' + 1) := m2
  have hl : HT.lexLt (KC b e (i01 hd) (i01 tl)) (KC b' e' (i01 hd') (i01 tl')) = false := hl
  unfold KC at hl
  rw [HT.lexLt_cons] at hl
  rw [← bn_i01, ← bn_i01, ← bn_i01, ← bn_i01] at hl
  by_cases es : (e : Int) - (b : Int) + ((bn hd : Nat) : Int) + ((bn tl : Nat) : Int) = (e' : Int) - (b' : Int) + ((bn hd' : Nat) : Int) + ((bn tl' : Nat) : Int)
  · rw [if_pos es, HT.lexLt_cons] at hl
    have hix := m2 (by omega)
    have hbb : b = b' ∧ hd = hd' := by
      by_cases eb : (b : Int) = (b' : Int)
      · rw [if_pos eb, HT.lexLt_cons] at hl
        refine ⟨by omega, ?_⟩
        cases hd with
        | true =>
          cases hd' with
          | true => rfl
          | false =>
            rw [if_neg (by show ¬ (1 - (1 : Int) = 1 - 0); decide)] at hl
            exact absurd hl (by show ¬ decide ((1 : Int) - 1 < 1 - 0) = false; decide)
        | false =>
          cases hd' with
          | false => rfl
          | true =>
            rw [if_neg Bool.false_ne_true, if_pos rfl] at hix
            omega
      · rw [if_neg eb] at hl
        have := of_decide_eq_false hl
        exfalso
        have hlt : b' < b := by omega
        cases hd with
        | true => have := c3 rfl; omega
        | false =>
          rw [if_neg Bool.false_ne_true] at hix
          cases hd' with
          | true => rw [if_pos rfl] at hix; omega
          | false => rw [if_neg Bool.false_ne_true] at hix; omega
    obtain ⟨rfl, rfl⟩ := hbb
    have t1 : bn false = 0 := rfl
    have t2 : bn true = 1 := rfl
    cases tl with
    | true =>
      cases tl' with
      | true =>
        have : e = e' := by omega
        rw [this]
      | false =>
        exfalso
        have := c4 rfl
        omega
    | false =>
      cases tl' with
      | true =>
        exfalso
        have := d4 rfl
        omega
      | false =>
        have : e = e' := by omega
        rw [this]
  · rw [if_neg es] at hl
    have := of_decide_eq_false hl
    omega
section
variable {P : Program} {w : World} {K : PySem.W.Frag} {mg : Str → Option Value} {base : Heap}

def FoS (H0 H : Hp) (lf : Addr) (L : List (List Int)) (B : Nat) : Prop := Same H0 H ∧ ∃ zs : List (Addr × List Int), H lf = some (.lst (zs.map fun z => V.ref z.1)) ∧ (∀ z ∈ zs, FlA H z) ∧ zs.map (·.2) = L ∧ zs.length ≤ B
theorem fla_same {H H' : Hp} {z : Addr × List Int} (h : FlA H z) (s : Same H H') : FlA H' z := ⟨s _ _ h.1, h.2⟩
theorem FoS.same {H0 H H' : Hp} {lf : Addr} {L : List (List Int)} {B : Nat} (h : FoS H0 H lf L B) (s : Same H H') : FoS H0 H' lf L B := by
  obtain ⟨h1, zs, h2, h3, h4, h5⟩ := h
  exact ⟨h1.trans s, zs, s _ _ h2, fun z hz => fla_same (h3 z hz) s, h4, h5⟩
theorem FoS.weak {H0 H : Hp} {lf : Addr} {L : List (List Int)} {B B' : Nat} (h : FoS H0 H lf L B) (hb : B ≤ B') : FoS H0 H lf L B' := by
  obtain ⟨h1, zs, h2, h3, h4, h5⟩ := h
  exact ⟨h1, zs, h2, h3, h4, by omega⟩
def spSs : Sp := fun vs H Q _ => ∃ n : Nat, vs = [.int (n : Int)] ∧ n ≤ 20 ∧ ∀ (l : Addr) (zs : List (Addr × List Int)) (H' : Hp), Same H H' → H' l = some (.lst (zs.map fun z => V.ref z.1)) → (∀ z ∈ zs, FlA H' z) → (∀ k, k ∈ zs.map (·.2) ↔ ∃ c : Cand, Val n c ∧ k = KCc c) → zs.Pairwise (fun x y => HT.lexLt y.2 x.2 = false) → Q (.ref l) H'
abbrev nSs : List Str := ["_law_length", "_law_found", "_law_start", "_law_stop", "_law_head", "_law_tail"]
theorem scSs : FnScope nSs ["_law_length"] (defScope sSs) := ⟨rfl, rfl, rfl, by decide +kernel, rfl, by decide +kernel, by decide +kernel⟩
theorem ok_ss {f : Addr} {fd : FuncData} (F : Fun K "_law_stretches" "_law_stretches" sSs f fd) (T : Txt mg) : FnOk P w K mg base CX0 1 f fd ["_law_length"] spSs := by
  refine F.ok scSs (fun vs H Q E h => ?_) (fun cdv A outer s H vs Q E hr h => ?_)
  · obtain ⟨n, rfl, _⟩ := h
    rfl
  · obtain ⟨n, rfl, n20, k⟩ := h
    have hu4 : _ + 4 < cLine := Nat.lt_of_le_of_lt (Nat.add_le_add_left (by decide : 4 ≤ 64) _) hr.units
    refine ⟨_, pss_cons (ps_set (i := 1) scSs.nd rfl (Or.inl rfl) (pe_lst pa_nil))
      (pss_cons (ps_for PassesOwn.never rfl (pi_range1 rfl T.range (pa_cons (pe_op op_add (pv 0) pe_int) pa_nil)) (pg_name (i := 2) scSs.nd rfl (Or.inl rfl))
        (pss_one (ps_for PassesOwn.never rfl (pi_range2 rfl T.range (pa_cons (pv 2) (pa_cons (pe_op op_add (pv 0) pe_int) pa_nil))) (pg_name (i := 3) scSs.nd rfl (Or.inl rfl))
          (pss_one (ps_for PassesOwn.never rfl (pi_list (pe_lst (pa_cons pe_int (pa_cons pe_int pa_nil)))) (pg_name (i := 4) scSs.nd rfl (Or.inl rfl))
            (pss_one (ps_for PassesOwn.never rfl (pi_list (pe_lst (pa_cons pe_int (pa_cons pe_int pa_nil)))) (pg_name (i := 5) scSs.nd rfl (Or.inl rfl))
              (pss_one (ps_if (pt_cut (PW.pt (pw_and (pt_cmpR op_le (pv 4) (pe_callTy call_int1 (by rfl) T.int PyProof.Rows.boot_int (pa_cons (pe_cmpR op_eq (pv 2) pe_int (nomark _)) pa_nil)) (nomark _)) (pw_and1 (pt_cmpR op_le (pv 5) (pe_callTy call_int1 (by rfl) T.int PyProof.Rows.boot_int (pa_cons (pe_cmpR op_eq (pv 3) (pv 0) (nomark _)) pa_nil)) (nomark _))))))
                (pss_one (ps_expr (pe_bm PySem.F.plainAttrs_list PySem.F.slot_list_append PySem.F.type_list_append mt_append (pv 1) (pa_cons (pe_tup (pa_cons (pe_op op_add (pe_op op_add (pe_op op_sub (pv 3) (pv 2)) (pv 4)) (pv 5)) (pa_cons (pv 2) (pa_cons (pe_op op_sub pe_int (pv 4)) (pa_cons (pv 3) (pa_cons (pv 5) pa_nil)))))) pa_nil)))) pss_nil)))))))))
      (pss_one (ps_ret (pe_callB (call_sortedF hu4) (by rfl) T.sorted PyProof.Rows.boot_sorted (pa_cons (pv 1) pa_nil))))), ?_⟩
    refine ⟨Nat.zero_le _, fun lf hlf => ?_⟩
    have s1 := (Same.refl H).upd_free (o := .lst []) hlf
    have q1 : upd H lf (.lst []) lf = some (.lst (([] : List (Addr × List Int)).map fun z => V.ref z.1)) := upd_same
    generalize upd H lf (.lst []) = H1 at s1 q1 ⊢
    refine ⟨_, rfl, _, _, rfl, rfl, _, rfl, by omega, by omega, ?_⟩
    rw [show (((n : Nat) : Int) + 1).toNat = n + 1 by omega]
    refine for_range (n := n + 1) (fun i σ H2 => ∃ v2 v3 v4 v5 : Option V, σ = [some (.int (n : Int)), some (.ref lf), v2, v3, v4, v5] ∧ FoS H H2 lf ((List.range i).flatMap (spM n)) (84 * i))
      ⟨none, none, none, none, rfl, s1, [], q1, fun z hz => (by cases hz), rfl, Nat.le_refl _⟩ ?_ ?_
    · rintro i σ H2 hi ⟨v2, v3, v4, v5, rfl, F2⟩
      rw [Int.zero_add]
      refine ⟨_, rfl, _, rfl, _, _, rfl, rfl, _, _, rfl, ⟨by omega, by omega, by omega, by omega⟩, ?_⟩
      rw [show ((((n : Nat) : Int) + 1) - (i : Int)).toNat = n + 1 - i by omega]
      refine for_range (lo := (i : Int)) (n := n + 1 - i) (fun j σ H3 => ∃ v3 v4 v5 : Option V, σ = [some (.int (n : Int)), some (.ref lf), some (.int (i : Int)), v3, v4, v5] ∧ FoS H H3 lf ((List.range i).flatMap (spM n) ++ (List.range j).flatMap fun j => hdM n i (i + j)) (84 * i + 4 * j))
        ⟨v3, v4, v5, rfl, by rw [List.range_zero]; exact (List.append_nil _).symm ▸ F2⟩ ?_ ?_
      · rintro j σ H3 hj ⟨v3, v4, v5, rfl, F3⟩
        have ej : ((i : Int) + (j : Int)) = ((i + j : Nat) : Int) := by omega
        rw [ej]
        refine ⟨(by show 2 ≤ sizeLine; decide), fun l4 hl4 => ?_⟩
        have s4 := (Same.refl H3).upd_free (o := .lst [V.int 1, .int 0]) hl4
        have q4 : upd H3 l4 (.lst [V.int 1, .int 0]) l4 = some (.lst (([1, 0] : List Int).map V.int)) := upd_same
        generalize upd H3 l4 (.lst [V.int 1, .int 0]) = H4 at s4 q4 ⊢
        have F4 := F3.same s4
        have n4 : l4 ≠ lf := fun e => by
          obtain ⟨_, zs, h2, _⟩ := F3
          rw [e, h2] at hl4
          cases hl4
        refine ⟨l4, rfl, ⟨_, SqL.of q4⟩, ?_⟩
        refine for_list (K := K) (a := l4) (xs := ([1, 0] : List Int).map V.int) (fun hh σ H5 => ∃ v4 v5 : Option V, σ = [some (.int (n : Int)), some (.ref lf), some (.int (i : Int)), some (.int ((i + j : Nat) : Int)), v4, v5] ∧ H5 l4 = some (.lst (([1, 0] : List Int).map V.int)) ∧ FoS H H5 lf ((List.range i).flatMap (spM n) ++ ((List.range j).flatMap (fun j => hdM n i (i + j)) ++ (([1, 0] : List Int).take hh).flatMap (tlM n i (i + j)))) (84 * i + 4 * j + 2 * hh))
          ⟨v4, v5, rfl, q4, by rw [List.take_zero]; exact (List.append_nil _).symm ▸ F4⟩ (fun hh σ H5 _ ⟨_, _, _, h, _⟩ => SqL.of h) ?_ ?_
        · rintro hh x σ H5 hx ⟨v4, v5, rfl, q5, F5⟩
          rw [List.getElem?_map] at hx
          obtain ⟨hv, ehv, rfl⟩ := Option.map_eq_some_iff.mp hx
          have hh2 : hh < 2 := (List.getElem?_eq_some_iff.mp ehv).1
          refine ⟨(by show 2 ≤ sizeLine; decide), fun l5 hl5 => ?_⟩
          have s6 := (Same.refl H5).upd_free (o := .lst [V.int 0, .int 1]) hl5
          have q6 : upd H5 l5 (.lst [V.int 0, .int 1]) l5 = some (.lst (([0, 1] : List Int).map V.int)) := upd_same
          generalize upd H5 l5 (.lst [V.int 0, .int 1]) = H6 at s6 q6 ⊢
          have F6 := F5.same s6
          have n5 : l5 ≠ lf := fun e => by
            obtain ⟨_, zs, h2, _⟩ := F5
            rw [e, h2] at hl5
            cases hl5
          refine ⟨l5, rfl, ⟨_, SqL.of q6⟩, ?_⟩
          refine for_list (K := K) (a := l5) (xs := ([0, 1] : List Int).map V.int) (fun tt σ H7 => ∃ v5 : Option V, σ = [some (.int (n : Int)), some (.ref lf), some (.int (i : Int)), some (.int ((i + j : Nat) : Int)), some (.int hv), v5] ∧ H7 l4 = some (.lst (([1, 0] : List Int).map V.int)) ∧ H7 l5 = some (.lst (([0, 1] : List Int).map V.int)) ∧ FoS H H7 lf ((List.range i).flatMap (spM n) ++ ((List.range j).flatMap (fun j => hdM n i (i + j)) ++ ((([1, 0] : List Int).take hh).flatMap (tlM n i (i + j)) ++ (([0, 1] : List Int).take tt).flatMap (oneM n i (i + j) hv)))) (84 * i + 4 * j + 2 * hh + tt))
            ⟨v5, rfl, s6 _ _ q5, q6, by rw [List.take_zero]; exact (List.append_nil _).symm ▸ F6⟩ (fun tt σ H7 _ ⟨_, _, _, h, _⟩ => SqL.of h) ?_ ?_
          · rintro tt x σ H7 hx ⟨v5, rfl, q7, q7', F7⟩
            rw [List.getElem?_map] at hx
            obtain ⟨tv, etv, rfl⟩ := Option.map_eq_some_iff.mp hx
            have ht2 : tt < 2 := (List.getElem?_eq_some_iff.mp etv).1
            refine ⟨fun b H' => b = cnd n i (i + j) hv tv ∧ H' = H7, ?_, ?_⟩
            · refine ⟨_, rfl, _, rfl, rfl, .inr ⟨_, rfl, ?_⟩⟩
              rw [dec_int, show decide (((i : Nat) : Int) = 0) = decide (i = 0) from decide_eq_decide.mpr (by omega)]
              refine ⟨_, _, rfl, rfl, _, rfl, ?_⟩
              show if decide (hv ≤ i01 (decide (i = 0))) = true then _ else _
              refine ite_K (fun e => ?_) (fun e => ?_)
              · refine ⟨_, rfl, _, rfl, _, rfl, rfl, .inr ⟨_, rfl, ?_⟩⟩
                rw [dec_int, show decide (((i + j : Nat) : Int) = ((n : Nat) : Int)) = decide (i + j = n) from decide_eq_decide.mpr (by omega)]
                refine ⟨_, _, rfl, rfl, _, rfl, ?_, rfl⟩
                show decide (tv ≤ i01 (decide (i + j = n))) = cnd n i (i + j) hv tv
                unfold cnd
                rw [e]
                rfl
              · refine ⟨?_, rfl⟩
                unfold cnd
                rw [e]
                rfl
            rintro b H7' ⟨rfl, rfl⟩
            have nxt : ∀ L, oneM n i (i + j) hv tv = L → (List.range i).flatMap (spM n) ++ ((List.range j).flatMap (fun j => hdM n i (i + j)) ++ ((([1, 0] : List Int).take hh).flatMap (tlM n i (i + j)) ++ (([0, 1] : List Int).take (tt + 1)).flatMap (oneM n i (i + j) hv))) = (List.range i).flatMap (spM n) ++ ((List.range j).flatMap (fun j => hdM n i (i + j)) ++ ((([1, 0] : List Int).take hh).flatMap (tlM n i (i + j)) ++ (([0, 1] : List Int).take tt).flatMap (oneM n i (i + j) hv))) ++ L := fun L e => by
              rw [flat_take (oneM n i (i + j) hv) etv, e]
              simp only [List.append_assoc]
            refine ite_K (fun e => ?_) (fun e => ?_)
            · obtain ⟨f1, zs, f2, f3, f4, f5⟩ := F7
              refine ⟨_, rfl, .inl ⟨rfl, _, SqL.of f2⟩, _, rfl, _, rfl, _, _, rfl, rfl, _, rfl, _, _, rfl, rfl, _, rfl, _, _, rfl, rfl, _, rfl, _, rfl, _, _, rfl, rfl, _, rfl, _, rfl, (by show 5 ≤ sizeLine; decide), fun ta hta => ?_⟩
              have s8 := (Same.refl H7').upd_free (o := .tup ((KC i (i + j) hv tv).map V.int)) hta
              have q8 : upd H7' ta (.tup ((KC i (i + j) hv tv).map V.int)) ta = some (.tup ((KC i (i + j) hv tv).map V.int)) := upd_same
              have f2' := s8 _ _ f2
              refine ⟨lf, _, _, rfl, rfl, f2', (by rw [List.length_map, sizeLine_eq]; omega), ?_⟩
              have keep : ∀ {c : Addr} {ys : List V}, upd H7' ta (.tup ((KC i (i + j) hv tv).map V.int)) c = some (.tup ys) → upd (upd H7' ta (.tup ((KC i (i + j) hv tv).map V.int))) lf (.lst ((zs.map fun z => V.ref z.1) ++ [.ref ta])) c = some (.tup ys) := fun q => by
                rw [upd_ne (ne_of q f2' (fun z => nomatch z))]
                exact q
              refine ⟨_, rfl, by rw [upd_ne n4]; exact s8 _ _ q7, by rw [upd_ne n5]; exact s8 _ _ q7', (f1.trans s8).upd_free hlf, zs ++ [(ta, KC i (i + j) hv tv)], by rw [upd_same, List.map_append]; rfl, fun z hz => ?_, ?_, by rw [List.length_append]; show zs.length + 1 ≤ _; omega⟩
              · rcases List.mem_append.mp hz with h | h
                · exact ⟨keep (fla_same (f3 z h) s8).1, (f3 z h).2⟩
                · rw [List.mem_singleton.mp h]
                  exact ⟨keep q8, KC_len _ _ _ _⟩
              · rw [List.map_append, f4, nxt [KC i (i + j) hv tv] (by unfold oneM; rw [if_pos e])]
                rfl
            · refine ⟨_, rfl, q7, q7', ?_⟩
              rw [nxt [] (by unfold oneM; rw [if_neg (by rw [e]; exact Bool.false_ne_true)]), List.append_nil]
              exact F7.weak (by omega)
          · rintro σ H7 ⟨v5, rfl, q7, q7', F7⟩
            refine ⟨_, _, rfl, q7, ?_⟩
            rw [flat_take (tlM n i (i + j)) ehv]
            exact F7.weak (by show 84 * i + 4 * j + 2 * hh + 2 ≤ 84 * i + 4 * j + 2 * (hh + 1); omega)
        · rintro σ H5 ⟨v4, v5, rfl, q5, F5⟩
          refine ⟨_, _, _, rfl, ?_⟩
          rw [flat_range]
          exact F5.weak (by show 84 * i + 4 * j + 2 * 2 ≤ 84 * i + 4 * (j + 1); omega)
      · rintro σ H3 ⟨v3, v4, v5, rfl, F3⟩
        refine ⟨_, _, _, _, rfl, ?_⟩
        rw [flat_range]
        exact F3.weak (by omega)
    · rintro σ H2 ⟨v2, v3, v4, v5, rfl, f1, zs, f2, f3, f4, f5⟩
      have hzl : zs.length ≤ 1000 := by
        have e := congrArg List.length f4
        rw [List.length_map] at e
        rw [e]
        exact stM_len n (by omega)
      refine ⟨_, rfl, lf, zs, rfl, SqL.of f2, f3, hzl, fun l zs' hl hp hs => ?_⟩
      have s3 := (Same.refl H2).upd_free (o := .lst (zs'.map fun z => V.ref z.1)) hl
      refine k l zs' _ (f1.trans s3) upd_same (fun z hz => fla_same (f3 z (hp.mem_iff.mp hz)) s3) (fun kk => ?_) hs
      rw [(hp.map (·.2)).mem_iff, f4]
      exact mem_stM
end
end K63
namespace K63
open PySem L2 K20 K21 K60 K61 SO
section
variable {P : Program} {w : World} {K : PySem.W.Frag} {mg : Str → Option Value} {base : Heap}

def spDu : Sp := fun vs H Q _ => ∃ (m p : Addr) (many : Int) (rs : Rms) (run : List Int), vs = [.ref m, .ref p] ∧ MAt H m many rs ∧ Good many rs ∧ H p = some (.tup (run.map V.int)) ∧ Lts many run ∧ run.length ≤ 20 ∧ gd rs (walkM rs 0 run) = false ∧ ∀ (a : Addr) (c : Cand) (H' : Hp), Same H H' → CandA H' a c → FirstL rs many run c → Q (.ref a) H'
abbrev nDu : List Str := ["_law_machine_here", "_law_run_here", "_law_size", "_law_start", "_law_behind_here", "_law_stop", "_law_tail"]
theorem scDu : FnScope nDu ["_law_machine_here", "_law_run_here"] (defScope sDu) := ⟨rfl, rfl, rfl, by decide +kernel, rfl, by decide +kernel, by decide +kernel⟩
theorem dec0 (hd : Bool) : decide (V.int (1 - i01 hd) = V.int 0) = hd := by cases hd <;> decide
theorem dec1 (tl : Bool) : decide (V.int (i01 tl) = V.int 1) = tl := by cases tl <;> decide
theorem ok_du {f fS fT : Addr} {fd fdS fdT : FuncData} (F : Fun K "_law_due" "_law_due" sDu f fd) (T : Txt mg)
    (FS : Fun K "_law_stretches" "_law_stretches" sSs fS fdS) (bS : Binds K fdS ["_law_length"] []) (gS : mg "_law_stretches" = some (.ref fS)) (GS : FnOk P w K mg base CX0 1 fS fdS ["_law_length"] spSs)
    (FT : Fun K "_law_there" "_law_there" sTh fT fdT) (bT : Binds K fdT ["_law_machine_here", "_law_run_here", "_law_head", "_law_tail"] []) (gT : mg "_law_there" = some (.ref fT)) (GT : FnOk P w K mg base CX0 2 fT fdT ["_law_machine_here", "_law_run_here", "_law_head", "_law_tail"] spTh) :
    FnOk P w K mg base CX0 3 f fd ["_law_machine_here", "_law_run_here"] spDu := by
  refine F.ok scDu (fun vs H Q E h => ?_) (fun cdv A outer s H vs Q E hr h => ?_)
  · obtain ⟨m, p, many, rs, run, rfl, _⟩ := h
    rfl
  · obtain ⟨m, p, many, rs, run, rfl, M, G, hp, hl, h20, hg, k⟩ := h
    have hr1 : Room 1 _ := hr.mono (by decide)
    refine ⟨_, pss_cons (ps_for PassesOwn.never rfl (pi_list (pe_call GS hr1 rfl gS FS.kp bS .nil pass0 (pa_cons (pe_callB call_len_seq (by rfl) T.len PySem.boot_len (pa_cons (pv 1) pa_nil)) pa_nil))) (pg_tup (n := 5) rfl (pgs_cons (pg_name (i := 2) scDu.nd rfl (Or.inl rfl)) (pgs_cons (pg_name (i := 3) scDu.nd rfl (Or.inl rfl)) (pgs_cons (pg_name (i := 4) scDu.nd rfl (Or.inl rfl)) (pgs_cons (pg_name (i := 5) scDu.nd rfl (Or.inl rfl)) (pgs_cons (pg_name (i := 6) scDu.nd rfl (Or.inl rfl)) pgs_nil))))))
        (pss_one (ps_if (pt_not (pt_val (pe_call GT hr rfl gT FT.kp bT .nil pass0 (pa_cons (pv 0) (pa_cons (pe_slice sl_tupA (pv 1) (po_some (pv 3)) (po_some (pv 5))) (pa_cons (pe_cmpR op_eq (pv 4) pe_int (nomark _)) (pa_cons (pe_cmpR op_eq (pv 6) pe_int (nomark _)) pa_nil)))))))
          (pss_one (ps_ret (pe_tup (pa_cons (pv 3) (pa_cons (pv 5) (pa_cons (pe_cmpR op_eq (pv 4) pe_int (nomark _)) (pa_cons (pe_cmpR op_eq (pv 6) pe_int (nomark _)) pa_nil))))))) pss_nil)))
      (pss_one (ps_ret pe_non)), ?_⟩
    have hrl : (run.map V.int).length = run.length := List.length_map _
    refine ⟨_, rfl, p, _, rfl, .inr (SqT.of hp), run.length, by rw [hrl]; rfl, h20, fun l zs H1 s1 hll hF hmem hsrt => ?_⟩
    refine ⟨l, rfl, ⟨_, SqL.of hll⟩, ?_⟩
    refine for_list (K := K) (a := l) (xs := zs.map fun z => V.ref z.1) (fun i σ H2 => ∃ v2 v3 v4 v5 v6 : Option V, σ = [some (.ref m), some (.ref p), v2, v3, v4, v5, v6] ∧ Same H1 H2 ∧ ∀ c, Val run.length c → KCc c ∈ (zs.take i).map (·.2) → ¬ OddC rs many run c) ⟨none, none, none, none, none, rfl, Same.refl H1, fun c _ hc => by cases hc⟩ (fun i σ H2 _ ⟨_, _, _, _, _, _, s, _⟩ => SqL.of (s _ _ hll)) ?_ ?_
    · rintro i x σ H2 hx ⟨v2, v3, v4, v5, v6, rfl, s2, hno⟩
      rw [List.getElem?_map] at hx
      obtain ⟨z, ez, rfl⟩ := Option.map_eq_some_iff.mp hx
      have hzm := List.mem_of_getElem? ez
      obtain ⟨c, vc, ec⟩ := (hmem z.2).mp (List.mem_map_of_mem hzm)
      obtain ⟨hz1, _⟩ := fla_same (hF z hzm) s2
      rw [ec] at hz1
      obtain ⟨b, e, hd, tl⟩ := c
      have v1 : b ≤ e := vc.le
      have hz1 : H2 z.1 = some (.tup [.int ((e : Int) - (b : Int) + i01 hd + i01 tl), .int (b : Int), .int (1 - i01 hd), .int (e : Int), .int (i01 tl)]) := hz1
      have s12 := s1.trans s2
      refine ⟨z.1, _, rfl, SqT.of hz1, rfl, _, _, rfl, _, _, rfl, _, _, rfl, _, _, rfl, _, _, rfl, rfl, ?_⟩
      refine ⟨_, rfl, _, rfl, _, rfl, _, rfl, _, rfl, _, rfl, p, _, rfl, s12 _ _ hp, fun pz H3 s3 hpz => ?_⟩
      have hpz : H3 pz = some (.tup ((sl run b e).map V.int)) := by
        rw [hpz, show ((e : Nat) : Int) = (b : Int) + ((e - b : Nat) : Int) by omega, cut_tw]
        rfl
      refine ⟨_, rfl, rfl, _, rfl, rfl, ?_⟩
      rw [dec0, dec1]
      have s13 := s12.trans s3
      refine ⟨m, pz, hd, tl, many, rs, sl run b e, rfl, M.same s13, G, hpz, sl_lts hl b e, fun v H4 s4 hv => ?_⟩
      have s14 := s13.trans s4
      refine ⟨v, rfl, ?_⟩
      cases v with
      | true =>
        refine iteF ⟨_, _, _, _, _, rfl, s2.trans (s3.trans s4), fun c' vc' hc' => ?_⟩
        rw [List.take_add_one, ez, List.map_append] at hc'
        rcases List.mem_append.mp hc' with h | h
        · exact hno c' vc' h
        · have h : KCc c' = z.2 := by simpa using h
          rw [ec] at h
          have := KCc_inj h
          subst this
          exact fun ho => ho (hv.mp rfl)
      | false =>
        have hodd : OddC rs many run (b, e, hd, tl) := fun h => by
          have := hv.mpr h
          cases this
        refine iteT ⟨_, rfl, _, rfl, _, rfl, rfl, _, rfl, rfl, ?_⟩
        rw [dec0, dec1]
        refine ⟨(by show 4 ≤ sizeLine; decide), fun q hq => ?_⟩
        refine k q (b, e, hd, tl) _ (s14.trans ((Same.refl H4).upd_free hq)) upd_same ⟨vc, hodd, fun c' vc' ho' => ?_⟩
        have hm' : KCc c' ∈ zs.map (·.2) := (hmem _).mpr ⟨c', vc', rfl⟩
        obtain ⟨z', hz', ez'⟩ := List.mem_map.mp hm'
        obtain ⟨j, hj, ej⟩ := List.getElem_of_mem hz'
        obtain ⟨hi, ei⟩ := List.getElem?_eq_some_iff.mp ez
        have hji : ¬ j < i := fun hlt => by
          refine hno c' vc' ?_ ho'
          rw [← ez', ← ej]
          exact List.mem_map_of_mem (List.mem_take_iff_getElem.mpr ⟨j, by omega, rfl⟩)
        rw [← ez', ← ec]
        by_cases he : i = j
        · subst he
          rw [← ej, ei]
          exact lex_irr _
        · have := List.pairwise_iff_getElem.mp hsrt i j hi hj (by omega)
          rw [ei, ej] at this
          exact this
    · rintro σ H2 ⟨v2, v3, v4, v5, v6, rfl, s2, hno⟩
      exfalso
      rw [List.length_map, List.take_length] at hno
      refine hno (0, run.length, true, true) ⟨Nat.zero_le _, Nat.le_refl _, fun _ => rfl, fun _ => rfl⟩ ((hmem _).mpr ⟨_, ⟨Nat.zero_le _, Nat.le_refl _, fun _ => rfl, fun _ => rfl⟩, rfl⟩) ?_
      rintro ⟨x, y, _, _, a, b, c⟩
      rw [a rfl, b rfl] at c
      have e1 : sl run 0 run.length = run := by
        unfold sl
        rw [List.drop_zero, Nat.sub_zero, List.take_length]
      have c : gd rs (walkM rs 0 (sl run 0 run.length)) = true := c
      rw [e1, hg] at c
      cases c

abbrev nLaw : List Str := ["_law_script", "_law_machine_here", "_law_start", "_law_longest", "_law_k", "_law_run_here", "_law_found"]
theorem scLaw : FnScope nLaw ["_law_script"] (defScope sLaw) := ⟨rfl, rfl, rfl, by decide +kernel, rfl, by decide +kernel, by decide +kernel⟩
def dC (c : Cand) : PyData := .tuple [.int (c.1 : Int), .int (c.2.1 : Int), .bool c.2.2.1, .bool c.2.2.2]
theorem dC_ok (c : Cand) : DOk (dC c) := ⟨rfl, by rw [show (dC c).depth = 1 from rfl]; decide⟩
theorem dC_at {H : Hp} {a : Addr} {c : Cand} (h : CandA H a c) : DAt K H (.ref a) (dC c) := .tup (SqT.of h) (.cons (.int _) (.cons (.int _) (.cons (.bl _) (.cons (.bl _) .nil))))
theorem ok_law {f fC fM fU fO fD fW fE : Addr} {fd fdC fdM fdU fdO fdD fdW fdE : FuncData} (F : Fun K "law" "law" sLaw f fd) (T : Txt mg)
    (FC : Fun K "_law_cell_at" "_law_cell_at" sCe fC fdC) (bC : Binds K fdC ["_law_script", "_law_k"] []) (gC : mg "_law_cell_at" = some (.ref fC)) (GC : FnOk P w K mg base CX0 1 fC fdC ["_law_script", "_law_k"] (spCe K))
    (FM : Fun K "_law_machine" "_law_machine" sMa fM fdM) (bM : Binds K fdM ["_law_script", "_law_start", "_law_most"] []) (gM : mg "_law_machine" = some (.ref fM)) (GM : FnOk P w K mg base CX0 2 fM fdM ["_law_script", "_law_start", "_law_most"] (spMg K))
    (FU : Fun K "_law_run" "_law_run" sRu fU fdU) (bU : Binds K fdU ["_law_cell", "_law_many", "_law_most"] []) (gU : mg "_law_run" = some (.ref fU)) (GU : FnOk P w K mg base CX0 1 fU fdU ["_law_cell", "_law_many", "_law_most"] spRn)
    (FO : Fun K "_law_room" "_law_room" sRo fO fdO) (bO : Binds K fdO ["_law_machine_here", "_law_room_here", "_law_run_here"] []) (gO : mg "_law_room" = some (.ref fO)) (GO : FnOk P w K mg base CX0 1 fO fdO ["_law_machine_here", "_law_room_here", "_law_run_here"] spRB)
    (FD : Fun K "odd" "odd" sOd fD fdD) (bD : Binds K fdD ["machine", "run"] []) (gD : mg "odd" = some (.ref fD)) (GD : FnOk P w K mg base CX0 4 fD fdD ["machine", "run"] spOo)
    (FW : Fun K "_law_whole" "_law_whole" sWh fW fdW) (bW : Binds K fdW ["_law_found"] []) (gW : mg "_law_whole" = some (.ref fW)) (GW : FnOk P w K mg base CX0 1 fW fdW ["_law_found"] spWh)
    (FE : Fun K "_law_due" "_law_due" sDu fE fdE) (bE : Binds K fdE ["_law_machine_here", "_law_run_here"] []) (gE : mg "_law_due" = some (.ref fE)) (GE : FnOk P w K mg base CX0 3 fE fdE ["_law_machine_here", "_law_run_here"] spDu) :
    FnOk P w K mg base CX0 5 f fd ["_law_script"] (spLaw K) := by
  refine F.ok scLaw (fun vs H Q E h => ?_) (fun cdv A outer s H vs Q E hr h => ?_)
  · obtain ⟨a, ns, rfl, _⟩ := h
    rfl
  · obtain ⟨a, ns, rfl, hS, hlen, k⟩ := h
    have hr1 : Room 1 _ := hr.mono (by decide)
    have hr2 : Room 2 _ := hr.mono (by decide)
    have hr3 : Room 3 _ := hr.mono (by decide)
    have hu64 := hr.units
    refine ⟨_, pss_cons (ps_set (i := 1) scLaw.nd rfl (Or.inl rfl) (pe_call GM hr2 rfl gM FM.kp bM .nil pass0 (pa_cons (pv 0) (pa_cons pe_int (pa_cons pe_int pa_nil)))))
      (pss_cons (ps_cut (ps_set (i := 2) scLaw.nd rfl (Or.inl rfl) (pe_op op_add pe_int (pe_op op_mul (pe_callB call_len_seq (by rfl) T.len PySem.boot_len (pa_cons (pe_ix ix_tup (pv 1) pe_int (fun _ _ => rfl)) pa_nil)) (pe_op op_add (pe_ix ix_tup (pv 1) pe_int (fun _ _ => rfl)) pe_int)))))
      (pss_cons (ps_cut (ps_set (i := 3) scLaw.nd rfl (Or.inl rfl) (pe_ix ix_list (pe_lst (pa_cons pe_int (pa_cons pe_int pa_nil))) (pe_callTy call_int1 (by rfl) T.int PyProof.Rows.boot_int (pa_cons (pe_cmpR op_eq (pe_op op_mod (pe_op op_fdiv (pe_call GC hr1 rfl gC FC.kp bC .nil pass0 (pa_cons (pv 0) (pa_cons pe_int pa_nil))) pe_int) pe_int) pe_int (nomark _)) pa_nil)) (fun _ _ => rfl))))
      (pss_cons (ps_for PassesOwn.never rfl (pi_range2 rfl T.range (pa_cons (pv 2) (pa_cons (pe_callB (call_max2 rfl) (by rfl) T.max PyProof.Rows.boot_max (pa_cons (pe_op op_add (pv 2) pe_int) (pa_cons (pe_callB (call_min2 rfl) (by rfl) T.min PyProof.Rows.boot_min (pa_cons (pe_callB call_len_seq (by rfl) T.len PySem.boot_len (pa_cons (pv 0) pa_nil)) (pa_cons (pe_op op_add (pv 2) pe_int) pa_nil))) pa_nil))) pa_nil))) (pg_name (i := 4) scLaw.nd rfl (Or.inl rfl))
        (pss_cons (ps_set (i := 5) scLaw.nd rfl (Or.inl rfl) (pe_call GU hr1 rfl gU FU.kp bU .nil pass0 (pa_cons (pe_call GC hr1 rfl gC FC.kp bC .nil pass0 (pa_cons (pv 0) (pa_cons (pv 4) pa_nil))) (pa_cons (pe_ix ix_tup (pv 1) pe_int (fun _ _ => rfl)) (pa_cons (pv 3) pa_nil)))))
        (pss_cons (ps_cut (ps_set (i := 6) scLaw.nd rfl (Or.inl rfl) (pe_call GD hr rfl gD FD.kp bD .nil pass0 (pa_cons (pv 1) (pa_cons (pv 5) pa_nil)))))
        (pss_one (ps_if (pt_val (pe_ix ix_tup (pe_ix ix_tup (pe_ix ix_tup (pv 1) pe_int (fun _ _ => rfl)) (pe_call GO hr1 rfl gO FO.kp bO .nil pass0 (pa_cons (pv 1) (pa_cons pe_int (pa_cons (pv 5) pa_nil)))) (fun _ _ => rfl)) pe_int (fun _ _ => rfl)))
          (pss_one (ps_if (pt_cmp (pc_notN (pv 6))) (pss_one (ps_ret pe_bl)) pss_nil))
          (pss_cons (ps_if (PW.pt (pw_or (pt_not (pt_val (pe_callB call_isinst (by rfl) T.isin PyProof.Rows.boot_isinstance (pa_cons (pv 6) (pa_cons (pe_bltn (v := .ty "tuple") (by rfl) T.tuple PyProof.Rows.boot_tuple rfl) pa_nil))))) (pw_or1 (pt_cmpR (op_neD hu64) (pv 6) (pe_call GE hr3 rfl gE FE.kp bE .nil pass0 (pa_cons (pv 1) (pa_cons (pv 5) pa_nil))) (nomark _))))) (pss_one (ps_ret pe_bl)) pss_nil)
          (pss_cons (ps_if (PW.pt (pw_or (pt_not (pt_val (pe_call GW hr1 rfl gW FW.kp bW .nil pass0 (pa_cons (pe_ix ix_tup (pv 6) pe_int (fun _ _ => rfl)) pa_nil)))) (pw_or1 (pt_not (pt_val (pe_call GW hr1 rfl gW FW.kp bW .nil pass0 (pa_cons (pe_ix ix_tup (pv 6) pe_int (fun _ _ => rfl)) pa_nil))))))) (pss_one (ps_ret pe_bl)) pss_nil)
          (pss_one (ps_if (PW.pt (pw_or (pt_not (pt_val (pe_callB call_isinst (by rfl) T.isin PyProof.Rows.boot_isinstance (pa_cons (pe_ix ix_tup (pv 6) pe_int (fun _ _ => rfl)) (pa_cons (pe_bltn (v := .ty "bool") (by rfl) T.bool PyProof.Rows.boot_bool rfl) pa_nil))))) (pw_or1 (pt_not (pt_val (pe_callB call_isinst (by rfl) T.isin PyProof.Rows.boot_isinstance (pa_cons (pe_ix ix_tup (pv 6) pe_int (fun _ _ => rfl)) (pa_cons (pe_bltn (v := .ty "bool") (by rfl) T.bool PyProof.Rows.boot_bool rfl) pa_nil)))))))) (pss_one (ps_ret pe_bl)) pss_nil)))))))))
      (pss_one (ps_ret pe_bl))))), ?_⟩
    refine ⟨_, rfl, a, ns, 0, 5, rfl, hS, by decide, by decide, by decide, by decide, fun m many rs H1 s1 M G h5 => ?_⟩
    obtain ⟨pr, qs, m1, m2, m3⟩ := id M
    have hn : (qs.map V.ref).length = rs.length := by rw [List.length_map]; exact m3.1
    have g0 := G.pos
    have g1 := G.le
    have gm := G.mn
    have hp0 : (0 : Int) < rs.length := by omega
    have p0 : 0 ≤ (rs.length : Int) * (many + 1) := Int.mul_nonneg (by omega) (by omega)
    have p1 : (rs.length : Int) * (many + 1) ≤ 12 * 9 := Int.mul_le_mul (by omega) (by omega) (by omega) (by omega)
    refine ⟨fun σ' H2 => ∃ st : Int, 1 ≤ st ∧ st ≤ 109 ∧ σ' = [some (.ref a), some (.ref m), some (.int st), none, none, none, none] ∧ H1 = H2, ?_, ?_⟩
    · refine ⟨_, rfl, m, _, _, _, rfl, rfl, SqT.of m1, rfl, pr, _, rfl, .inr (SqT.of m2), _, rfl, m, _, _, _, rfl, rfl, SqT.of m1, rfl, _, _, rfl, rfl, _, _, rfl, rfl, .inl ⟨by omega, by omega⟩, _, _, rfl, rfl, ?_⟩
      rw [hn]
      exact ⟨1 + (rs.length : Int) * (many + 1), by omega, by omega, rfl, rfl⟩
    rintro σ' H1' ⟨st, st0, st1, rfl, rfl⟩
    refine ⟨fun σ' H2 => ∃ lo : Int, 7 ≤ lo ∧ lo ≤ 20 ∧ σ' = [some (.ref a), some (.ref m), some (.int st), some (.int lo), none, none, none] ∧ Same H1 H2, ?_, ?_⟩
    · refine ⟨(by show 2 ≤ sizeLine; decide), fun l hl => ?_⟩
      have sl' := (Same.refl H1).upd_free (o := .lst [V.int 7, .int 20]) hl
      have ql : upd H1 l (.lst [V.int 7, .int 20]) l = some (.lst [V.int 7, .int 20]) := upd_same
      generalize upd H1 l (.lst [V.int 7, .int 20]) = H2 at sl' ql ⊢
      refine ⟨_, rfl, a, ns, 0, rfl, (s1.trans sl').seq hS, by decide, by decide, fun z0 H3 s3 => ?_⟩
      refine ⟨_, _, rfl, rfl, ⟨by decide, by decide⟩, _, _, rfl, rfl, (by show (0 : Int) < 8; decide), rfl, .inr ⟨_, rfl, ?_⟩⟩
      have ql3 := s3 _ _ ql
      by_cases h3 : decide (V.int (z0 / 160 % 8) = V.int 3) = true
      · exact ⟨l, _, _, .int 20, rfl, rfl, SqL.of ql3, by show atI _ (if decide (V.int (z0 / 160 % 8) = V.int 3) = true then 1 else 0) = _; rw [if_pos h3]; rfl, 20, by decide, by decide, rfl, sl'.trans s3⟩
      · exact ⟨l, _, _, .int 7, rfl, rfl, SqL.of ql3, by show atI _ (if decide (V.int (z0 / 160 % 8) = V.int 3) = true then 1 else 0) = _; rw [if_neg h3]; rfl, 7, by decide, by decide, rfl, sl'.trans s3⟩
    rintro σ' H2 ⟨lo, lo0, lo1, rfl, t2⟩
    have hi0 : ∀ z : Int, (if (if st + 4 < z then st + 4 else z) > st + 1 then (if st + 4 < z then st + 4 else z) else st + 1) ≤ 200 := fun z => by
      split <;> (try split) <;> omega
    have hi1 : ∀ z : Int, 0 ≤ (if (if st + 4 < z then st + 4 else z) > st + 1 then (if st + 4 < z then st + 4 else z) else st + 1) := fun z => by
      split <;> (try split) <;> omega
    refine ⟨_, rfl, _, rfl, _, _, rfl, rfl, _, rfl, a, _, rfl, .inl ((s1.trans t2).seq hS), _, rfl, _, _, rfl, rfl, _, _, rfl, _, _, rfl, ?_⟩
    have hA := hi0 ((ns.map V.int).length : Int)
    have hB := hi1 ((ns.map V.int).length : Int)
    refine ⟨_, _, rfl, ⟨by omega, by omega, Int.le_trans (by decide) hB, Int.lt_of_le_of_lt hA (by decide)⟩, ?_⟩
    generalize hhi : (if (if st + 4 < ((ns.map V.int).length : Int) then st + 4 else ((ns.map V.int).length : Int)) > st + 1 then (if st + 4 < ((ns.map V.int).length : Int) then st + 4 else ((ns.map V.int).length : Int)) else st + 1) = hi at hA hB
    refine for_range (lo := st) (n := (hi - st).toNat) (fun i σ H3 => ∃ (v4 v5 v6 : Option V), σ = [some (.ref a), some (.ref m), some (.int st), some (.int lo), v4, v5, v6] ∧ Same H1 H3) ⟨none, none, none, rfl, t2⟩ ?_ ?_
    · rintro i σ H3 hi' ⟨v4, v5, v6, rfl, t3⟩
      refine ⟨_, rfl, _, rfl, a, ns, _, rfl, (s1.trans t3).seq hS, by omega, by omega, fun c H4 s4 => ?_⟩
      have t4 := t3.trans s4
      refine ⟨_, rfl, m, _, _, _, rfl, rfl, SqT.of (t4 _ _ m1), rfl, _, rfl, c, many, lo, rfl, by omega, by omega, by omega, by omega, fun p run H5 s5 hp hl hrl => ?_⟩
      have t5 := t4.trans s5
      refine ⟨fun σ' H6 => ∃ v : V, σ' = [some (.ref a), some (.ref m), some (.int st), some (.int lo), some (.int (st + (i : Int))), some (.ref p), some v] ∧ Same H5 H6 ∧ ((gd rs (walkM rs 0 run) = true ∧ v = .non) ∨ (gd rs (walkM rs 0 run) = false ∧ ∃ ca cc, v = .ref ca ∧ CandA H6 ca cc ∧ Fst rs many run cc)), ?_, ?_⟩
      · exact ⟨_, rfl, _, rfl, m, p, many, rs, run, rfl, M.same t5, G, by omega, hp, hl, by omega, (fun hg H6 s6 => ⟨_, rfl, s6, .inl ⟨hg, rfl⟩⟩), fun hg ca cc H6 s6 hca FC => ⟨_, rfl, s6, .inr ⟨hg, ca, cc, rfl, hca, FC⟩⟩⟩
      rintro σ' H6 ⟨v, rfl, s6, hv⟩
      have t6 := t5.trans s6
      have hp6 := s6 _ _ hp
      have hw := walk_in G run 0 (Int.le_refl 0) hp0 hl
      obtain ⟨q, z, e1, e2⟩ := truth G (m3.same t6) hw.1 hw.2
      refine ⟨_, rfl, m, _, _, _, rfl, rfl, SqT.of (t6 _ _ m1), rfl, _, rfl, _, rfl, m, p, 0, many, rs, run, rfl, M.same t6, G, Int.le_refl 0, hp0, hp6, hl, pr, _, _, _, rfl, rfl, SqT.of (t6 _ _ m2), e1, q, _, _, _, rfl, rfl, SqT.of e2, rfl, ?_⟩
      refine ⟨gd rs (walkM rs 0 run), rfl, ite_K (fun hg => ?_) (fun hg => ?_)⟩
      · rcases hv with ⟨_, rfl⟩ | ⟨hf, _⟩
        · exact ⟨_, rfl, false, rfl, iteF ⟨_, _, _, rfl, t6⟩⟩
        · rw [hg] at hf
          cases hf
      · rcases hv with ⟨hf, _⟩ | ⟨_, ca, cc, rfl, hca, FC⟩
        · rw [hg] at hf
          cases hf
        refine ⟨_, rfl, _, _, _, true, rfl, .tup hca, rfl, true, rfl, iteF ?_⟩
        refine ⟨_, rfl, _, rfl, _, rfl, m, p, many, rs, run, rfl, M.same t6, G, hp6, hl, by omega, hg, fun da dc H7 s7 hda FL => ?_⟩
        have := first_eq FC FL
        subst this
        have hca7 : CandA H7 ca cc := s7 _ _ hca
        refine ⟨dC cc, dC cc, dC_at hca7, dC_at hda, dC_ok _, dC_ok _, _, rfl, ?_⟩
        have heq : (!PyData.eqv (dC cc) (dC cc)) = false := by
          rw [SeqAt.eqv_refl _ (dC_ok cc).1]
          rfl
        show if (!PyData.eqv (dC cc) (dC cc)) = true then _ else _
        rw [heq]
        refine iteF ?_
        have hca7 : H7 ca = some (.tup [.int (cc.1 : Int), .int (cc.2.1 : Int), .bl cc.2.2.1, .bl cc.2.2.2]) := hca7
        refine ⟨_, rfl, ca, _, _, .int (cc.1 : Int), rfl, rfl, SqT.of hca7, rfl, (cc.1 : Int), rfl, true, rfl, iteF ?_⟩
        refine ⟨_, rfl, ca, _, _, .int (cc.2.1 : Int), rfl, rfl, SqT.of hca7, rfl, (cc.2.1 : Int), rfl, true, rfl, iteF ?_⟩
        refine ⟨_, rfl, ca, _, _, .bl cc.2.2.1, rfl, rfl, SqT.of hca7, rfl, _, _, _, true, rfl, .bl cc.2.2.1, rfl, true, rfl, iteF ?_⟩
        refine ⟨_, rfl, ca, _, _, .bl cc.2.2.2, rfl, rfl, SqT.of hca7, rfl, _, _, _, true, rfl, .bl cc.2.2.2, rfl, true, rfl, iteF ?_⟩
        exact ⟨_, _, _, rfl, t6.trans s7⟩
    · rintro σ H3 ⟨v4, v5, v6, rfl, t3⟩
      exact k _
end
end K63
namespace K21
open PySem L2 SO K20 K60 K61 K63
abbrev spLaw (K : PySem.W.Frag) : Sp := K20.spLaw K
section
variable {P : Program} {w : World} {K : PySem.W.Frag} {mg : Str → Option Value} {base : Heap} 
theorem ok_all {f  fRB fLB fWy fLI fRG fUs fOn fLo fSz fOd fCe fMa fRu fRo fWh fBh fTh fSs fDu : Addr} {fd  fdRB fdLB fdWy fdLI fdRG fdUs fdOn fdLo fdSz fdOd fdCe fdMa fdRu fdRo fdWh fdBh fdTh fdSs fdDu : FuncData} (F : Fun K "law" "law" sLaw f fd) (T : Txt mg)
    (FRB : Fun K "room_behind" "room_behind" sRB fRB fdRB) (bRB : Binds K fdRB ["machine", "room", "run"] []) (gRB : mg "room_behind" = some (.ref fRB))
    (FLB : Fun K "lets_by" "lets_by" sLB fLB fdLB) (bLB : Binds K fdLB ["machine", "run"] []) (gLB : mg "lets_by" = some (.ref fLB))
    (FWy : Fun K "ways" "ways" sWy fWy fdWy) (bWy : Binds K fdWy ["machine"] []) (gWy : mg "ways" = some (.ref fWy))
    (FLI : Fun K "letter_into" "letter_into" sLI fLI fdLI) (bLI : Binds K fdLI ["nexts", "known"] []) (gLI : mg "letter_into" = some (.ref fLI))
    (FRG : Fun K "runs_to_good" "runs_to_good" sRG fRG fdRG) (bRG : Binds K fdRG ["machine"] []) (gRG : mg "runs_to_good" = some (.ref fRG))
    (FUs : Fun K "useful" "useful" sUs fUs fdUs) (bUs : Binds K fdUs ["machine"] []) (gUs : mg "useful" = some (.ref fUs))
    (FOn : Fun K "rooms_on" "rooms_on" sOn fOn fdOn) (bOn : Binds K fdOn ["machine", "rooms", "letter", "known"] []) (gOn : mg "rooms_on" = some (.ref fOn))
    (FLo : Fun K "least_odd" "least_odd" sLo fLo fdLo) (bLo : Binds K fdLo ["machine", "run", "start", "head", "known"] []) (gLo : mg "least_odd" = some (.ref fLo))
    (FSz : Fun K "size_of" "size_of" sSz fSz fdSz) (bSz : Binds K fdSz ["stretch"] []) (gSz : mg "size_of" = some (.ref fSz))
    (FOd : Fun K "odd" "odd" sOd fOd fdOd) (bOd : Binds K fdOd ["machine", "run"] []) (gOd : mg "odd" = some (.ref fOd))
    (FCe : Fun K "_law_cell_at" "_law_cell_at" sCe fCe fdCe) (bCe : Binds K fdCe ["_law_script", "_law_k"] []) (gCe : mg "_law_cell_at" = some (.ref fCe))
    (FMa : Fun K "_law_machine" "_law_machine" sMa fMa fdMa) (bMa : Binds K fdMa ["_law_script", "_law_start", "_law_most"] []) (gMa : mg "_law_machine" = some (.ref fMa))
    (FRu : Fun K "_law_run" "_law_run" sRu fRu fdRu) (bRu : Binds K fdRu ["_law_cell", "_law_many", "_law_most"] []) (gRu : mg "_law_run" = some (.ref fRu))
    (FRo : Fun K "_law_room" "_law_room" sRo fRo fdRo) (bRo : Binds K fdRo ["_law_machine_here", "_law_room_here", "_law_run_here"] []) (gRo : mg "_law_room" = some (.ref fRo))
    (FWh : Fun K "_law_whole" "_law_whole" sWh fWh fdWh) (bWh : Binds K fdWh ["_law_found"] []) (gWh : mg "_law_whole" = some (.ref fWh))
    (FBh : Fun K "_law_behind" "_law_behind" sBh fBh fdBh) (bBh : Binds K fdBh ["_law_machine_here", "_law_room_here"] []) (gBh : mg "_law_behind" = some (.ref fBh))
    (FTh : Fun K "_law_there" "_law_there" sTh fTh fdTh) (bTh : Binds K fdTh ["_law_machine_here", "_law_run_here", "_law_head", "_law_tail"] []) (gTh : mg "_law_there" = some (.ref fTh))
    (FSs : Fun K "_law_stretches" "_law_stretches" sSs fSs fdSs) (bSs : Binds K fdSs ["_law_length"] []) (gSs : mg "_law_stretches" = some (.ref fSs))
    (FDu : Fun K "_law_due" "_law_due" sDu fDu fdDu) (bDu : Binds K fdDu ["_law_machine_here", "_law_run_here"] []) (gDu : mg "_law_due" = some (.ref fDu))
    : FnOk P w K mg base CX0 5 f fd ["_law_script"] (spLaw K) := by
  have GLB : FnOk P w K mg base CX0 2 fLB fdLB ["machine", "run"] spLB := ok_lb FLB FRB bRB gRB
  have GUs : FnOk P w K mg base CX0 3 fUs fdUs ["machine"] spUs := ok_us FUs T FRG bRG gRG FLI bLI gLI FWy bWy gWy
  have GLo : FnOk P w K mg base CX0 2 fLo fdLo ["machine", "run", "start", "head", "known"] (spLo P w) := ok_lo FLo T FOn bOn gOn
  have GSz : FnOk P w K mg base CX0 1 fSz fdSz ["stretch"] spSz := ok_sz FSz T
  have GOd : FnOk P w K mg base CX0 4 fOd fdOd ["machine", "run"] spOo := ok_oo FOd T FLB bLB gLB GLB FUs bUs gUs GUs FLo bLo gLo GLo FSz bSz gSz GSz
  have GCe : FnOk P w K mg base CX0 1 fCe fdCe ["_law_script", "_law_k"] (spCe K) := ok_ce FCe T
  have GMa : FnOk P w K mg base CX0 2 fMa fdMa ["_law_script", "_law_start", "_law_most"] (spMg K) := ok_ma FMa T FCe bCe gCe
  have GRu : FnOk P w K mg base CX0 1 fRu fdRu ["_law_cell", "_law_many", "_law_most"] spRn := ok_ru FRu T
  have GRo : FnOk P w K mg base CX0 1 fRo fdRo ["_law_machine_here", "_law_room_here", "_law_run_here"] spRB := ok_ro FRo
  have GWh : FnOk P w K mg base CX0 1 fWh fdWh ["_law_found"] spWh := ok_wh FWh T
  have GTh : FnOk P w K mg base CX0 2 fTh fdTh ["_law_machine_here", "_law_run_here", "_law_head", "_law_tail"] spTh := ok_th FTh T FBh bBh gBh FRo bRo gRo
  have GSs : FnOk P w K mg base CX0 1 fSs fdSs ["_law_length"] spSs := ok_ss FSs T
  have GDu : FnOk P w K mg base CX0 3 fDu fdDu ["_law_machine_here", "_law_run_here"] spDu := ok_du FDu T FSs bSs gSs GSs FTh bTh gTh GTh
  exact ok_law F T FCe bCe gCe GCe FMa bMa gMa GMa FRu bRu gRu GRu FRo bRo gRo GRo FOd bOd gOd GOd FWh bWh gWh GWh FDu bDu gDu GDu
end
end K21

namespace K21
open PySem L2
theorem all_mk {l : PySem.W.OpenLaw} {w : World} {K : PySem.W.Frag} {h : Heap} {mg : Str → Option Value} {fa  fRB fLB fWy fLI fRG fUs fOn fLo fSz fOd fCe fMa fRu fRo fWh fBh fTh fSs fDu fZ : Addr} (X : K.In h) (G : h.Ns mainGlobals mg) (hfa : mg "law" = some (.ref fa))
    {odRB anRB odLB anLB odWy anWy odLI anLI odRG anRG odUs anUs odOn anOn odLo anLo odSz anSz odOd anOd odCe anCe odMa anMa odRu anRu odRo anRo odWh anWh odBh anBh odTh anTh odSs anSs odDu anDu odZ anZ : Option Addr} {slRB slLB slWy slLI slRG slUs slOn slLo slSz slOd slCe slMa slRu slRo slWh slBh slTh slSs slDu slZ : Array (Option Value)} {ocRB kVRB dcRB pmRB cdRB ctRB ocLB kVLB dcLB pmLB cdLB ctLB ocWy kVWy dcWy pmWy cdWy ctWy ocLI kVLI dcLI pmLI cdLI ctLI ocRG kVRG dcRG pmRG cdRG ctRG ocUs kVUs dcUs pmUs cdUs ctUs ocOn kVOn dcOn pmOn cdOn ctOn ocLo kVLo dcLo pmLo cdLo ctLo ocSz kVSz dcSz pmSz cdSz ctSz ocOd kVOd dcOd pmOd cdOd ctOd ocCe kVCe dcCe pmCe cdCe ctCe ocMa kVMa dcMa pmMa cdMa ctMa ocRu kVRu dcRu pmRu cdRu ctRu ocRo kVRo dcRo pmRo cdRo ctRo ocWh kVWh dcWh pmWh cdWh ctWh ocBh kVBh dcBh pmBh cdBh ctBh ocTh kVTh dcTh pmTh cdTh ctTh ocSs kVSs dcSs pmSs cdSs ctSs ocDu kVDu dcDu pmDu cdDu ctDu ocZ kVZ dcZ pmZ cdZ ctZ : Value}
    (aRB : PySem.W.nsIn K mainGlobals "room_behind" = some (some (.ref fRB)))
    (lRB : K.lookup fRB = some ⟨ocRB, odRB, .func (PySem.W.fnOf "room_behind" "room_behind" (defArgs sRB) (defBody sRB) (defScope sRB) .none kVRB dcRB pmRB anRB cdRB ctRB), slRB⟩)
    (cRB : PySem.W.codeIn K cdRB "room_behind" = true)
    (kRB : PySem.W.keepIn K (.ref fRB) = true)
    (aLB : PySem.W.nsIn K mainGlobals "lets_by" = some (some (.ref fLB)))
    (lLB : K.lookup fLB = some ⟨ocLB, odLB, .func (PySem.W.fnOf "lets_by" "lets_by" (defArgs sLB) (defBody sLB) (defScope sLB) .none kVLB dcLB pmLB anLB cdLB ctLB), slLB⟩)
    (cLB : PySem.W.codeIn K cdLB "lets_by" = true)
    (kLB : PySem.W.keepIn K (.ref fLB) = true)
    (aWy : PySem.W.nsIn K mainGlobals "ways" = some (some (.ref fWy)))
    (lWy : K.lookup fWy = some ⟨ocWy, odWy, .func (PySem.W.fnOf "ways" "ways" (defArgs sWy) (defBody sWy) (defScope sWy) .none kVWy dcWy pmWy anWy cdWy ctWy), slWy⟩)
    (cWy : PySem.W.codeIn K cdWy "ways" = true)
    (kWy : PySem.W.keepIn K (.ref fWy) = true)
    (aLI : PySem.W.nsIn K mainGlobals "letter_into" = some (some (.ref fLI)))
    (lLI : K.lookup fLI = some ⟨ocLI, odLI, .func (PySem.W.fnOf "letter_into" "letter_into" (defArgs sLI) (defBody sLI) (defScope sLI) .none kVLI dcLI pmLI anLI cdLI ctLI), slLI⟩)
    (cLI : PySem.W.codeIn K cdLI "letter_into" = true)
    (kLI : PySem.W.keepIn K (.ref fLI) = true)
    (aRG : PySem.W.nsIn K mainGlobals "runs_to_good" = some (some (.ref fRG)))
    (lRG : K.lookup fRG = some ⟨ocRG, odRG, .func (PySem.W.fnOf "runs_to_good" "runs_to_good" (defArgs sRG) (defBody sRG) (defScope sRG) .none kVRG dcRG pmRG anRG cdRG ctRG), slRG⟩)
    (cRG : PySem.W.codeIn K cdRG "runs_to_good" = true)
    (kRG : PySem.W.keepIn K (.ref fRG) = true)
    (aUs : PySem.W.nsIn K mainGlobals "useful" = some (some (.ref fUs)))
    (lUs : K.lookup fUs = some ⟨ocUs, odUs, .func (PySem.W.fnOf "useful" "useful" (defArgs sUs) (defBody sUs) (defScope sUs) .none kVUs dcUs pmUs anUs cdUs ctUs), slUs⟩)
    (cUs : PySem.W.codeIn K cdUs "useful" = true)
    (kUs : PySem.W.keepIn K (.ref fUs) = true)
    (aOn : PySem.W.nsIn K mainGlobals "rooms_on" = some (some (.ref fOn)))
    (lOn : K.lookup fOn = some ⟨ocOn, odOn, .func (PySem.W.fnOf "rooms_on" "rooms_on" (defArgs sOn) (defBody sOn) (defScope sOn) .none kVOn dcOn pmOn anOn cdOn ctOn), slOn⟩)
    (cOn : PySem.W.codeIn K cdOn "rooms_on" = true)
    (kOn : PySem.W.keepIn K (.ref fOn) = true)
    (aLo : PySem.W.nsIn K mainGlobals "least_odd" = some (some (.ref fLo)))
    (lLo : K.lookup fLo = some ⟨ocLo, odLo, .func (PySem.W.fnOf "least_odd" "least_odd" (defArgs sLo) (defBody sLo) (defScope sLo) .none kVLo dcLo pmLo anLo cdLo ctLo), slLo⟩)
    (cLo : PySem.W.codeIn K cdLo "least_odd" = true)
    (kLo : PySem.W.keepIn K (.ref fLo) = true)
    (aSz : PySem.W.nsIn K mainGlobals "size_of" = some (some (.ref fSz)))
    (lSz : K.lookup fSz = some ⟨ocSz, odSz, .func (PySem.W.fnOf "size_of" "size_of" (defArgs sSz) (defBody sSz) (defScope sSz) .none kVSz dcSz pmSz anSz cdSz ctSz), slSz⟩)
    (cSz : PySem.W.codeIn K cdSz "size_of" = true)
    (kSz : PySem.W.keepIn K (.ref fSz) = true)
    (aOd : PySem.W.nsIn K mainGlobals "odd" = some (some (.ref fOd)))
    (lOd : K.lookup fOd = some ⟨ocOd, odOd, .func (PySem.W.fnOf "odd" "odd" (defArgs sOd) (defBody sOd) (defScope sOd) .none kVOd dcOd pmOd anOd cdOd ctOd), slOd⟩)
    (cOd : PySem.W.codeIn K cdOd "odd" = true)
    (kOd : PySem.W.keepIn K (.ref fOd) = true)
    (aCe : PySem.W.nsIn K mainGlobals "_law_cell_at" = some (some (.ref fCe)))
    (lCe : K.lookup fCe = some ⟨ocCe, odCe, .func (PySem.W.fnOf "_law_cell_at" "_law_cell_at" (defArgs sCe) (defBody sCe) (defScope sCe) .none kVCe dcCe pmCe anCe cdCe ctCe), slCe⟩)
    (cCe : PySem.W.codeIn K cdCe "_law_cell_at" = true)
    (kCe : PySem.W.keepIn K (.ref fCe) = true)
    (aMa : PySem.W.nsIn K mainGlobals "_law_machine" = some (some (.ref fMa)))
    (lMa : K.lookup fMa = some ⟨ocMa, odMa, .func (PySem.W.fnOf "_law_machine" "_law_machine" (defArgs sMa) (defBody sMa) (defScope sMa) .none kVMa dcMa pmMa anMa cdMa ctMa), slMa⟩)
    (cMa : PySem.W.codeIn K cdMa "_law_machine" = true)
    (kMa : PySem.W.keepIn K (.ref fMa) = true)
    (aRu : PySem.W.nsIn K mainGlobals "_law_run" = some (some (.ref fRu)))
    (lRu : K.lookup fRu = some ⟨ocRu, odRu, .func (PySem.W.fnOf "_law_run" "_law_run" (defArgs sRu) (defBody sRu) (defScope sRu) .none kVRu dcRu pmRu anRu cdRu ctRu), slRu⟩)
    (cRu : PySem.W.codeIn K cdRu "_law_run" = true)
    (kRu : PySem.W.keepIn K (.ref fRu) = true)
    (aRo : PySem.W.nsIn K mainGlobals "_law_room" = some (some (.ref fRo)))
    (lRo : K.lookup fRo = some ⟨ocRo, odRo, .func (PySem.W.fnOf "_law_room" "_law_room" (defArgs sRo) (defBody sRo) (defScope sRo) .none kVRo dcRo pmRo anRo cdRo ctRo), slRo⟩)
    (cRo : PySem.W.codeIn K cdRo "_law_room" = true)
    (kRo : PySem.W.keepIn K (.ref fRo) = true)
    (aWh : PySem.W.nsIn K mainGlobals "_law_whole" = some (some (.ref fWh)))
    (lWh : K.lookup fWh = some ⟨ocWh, odWh, .func (PySem.W.fnOf "_law_whole" "_law_whole" (defArgs sWh) (defBody sWh) (defScope sWh) .none kVWh dcWh pmWh anWh cdWh ctWh), slWh⟩)
    (cWh : PySem.W.codeIn K cdWh "_law_whole" = true)
    (kWh : PySem.W.keepIn K (.ref fWh) = true)
    (aBh : PySem.W.nsIn K mainGlobals "_law_behind" = some (some (.ref fBh)))
    (lBh : K.lookup fBh = some ⟨ocBh, odBh, .func (PySem.W.fnOf "_law_behind" "_law_behind" (defArgs sBh) (defBody sBh) (defScope sBh) .none kVBh dcBh pmBh anBh cdBh ctBh), slBh⟩)
    (cBh : PySem.W.codeIn K cdBh "_law_behind" = true)
    (kBh : PySem.W.keepIn K (.ref fBh) = true)
    (aTh : PySem.W.nsIn K mainGlobals "_law_there" = some (some (.ref fTh)))
    (lTh : K.lookup fTh = some ⟨ocTh, odTh, .func (PySem.W.fnOf "_law_there" "_law_there" (defArgs sTh) (defBody sTh) (defScope sTh) .none kVTh dcTh pmTh anTh cdTh ctTh), slTh⟩)
    (cTh : PySem.W.codeIn K cdTh "_law_there" = true)
    (kTh : PySem.W.keepIn K (.ref fTh) = true)
    (aSs : PySem.W.nsIn K mainGlobals "_law_stretches" = some (some (.ref fSs)))
    (lSs : K.lookup fSs = some ⟨ocSs, odSs, .func (PySem.W.fnOf "_law_stretches" "_law_stretches" (defArgs sSs) (defBody sSs) (defScope sSs) .none kVSs dcSs pmSs anSs cdSs ctSs), slSs⟩)
    (cSs : PySem.W.codeIn K cdSs "_law_stretches" = true)
    (kSs : PySem.W.keepIn K (.ref fSs) = true)
    (aDu : PySem.W.nsIn K mainGlobals "_law_due" = some (some (.ref fDu)))
    (lDu : K.lookup fDu = some ⟨ocDu, odDu, .func (PySem.W.fnOf "_law_due" "_law_due" (defArgs sDu) (defBody sDu) (defScope sDu) .none kVDu dcDu pmDu anDu cdDu ctDu), slDu⟩)
    (cDu : PySem.W.codeIn K cdDu "_law_due" = true)
    (kDu : PySem.W.keepIn K (.ref fDu) = true)
    (aZ : PySem.W.nsIn K mainGlobals "law" = some (some (.ref fZ)))
    (lZ : K.lookup fZ = some ⟨ocZ, odZ, .func (PySem.W.fnOf "law" "law" (defArgs sLaw) (defBody sLaw) (defScope sLaw) .none kVZ dcZ pmZ anZ cdZ ctZ), slZ⟩)
    (cZ : PySem.W.codeIn K cdZ "law" = true)
    (kZ : PySem.W.keepIn K (.ref fZ) = true)
    (zlen : PySem.W.nsIn K mainGlobals "len" = some none)
    (zrange : PySem.W.nsIn K mainGlobals "range" = some none)
    (ztuple : PySem.W.nsIn K mainGlobals "tuple" = some none)
    (zisin : PySem.W.nsIn K mainGlobals "isinstance" = some none)
    (zint : PySem.W.nsIn K mainGlobals "int" = some none)
    (zbool : PySem.W.nsIn K mainGlobals "bool" = some none)
    (zenum : PySem.W.nsIn K mainGlobals "enumerate" = some none)
    (zmax : PySem.W.nsIn K mainGlobals "max" = some none)
    (zmin : PySem.W.nsIn K mainGlobals "min" = some none)
    (zsorted : PySem.W.nsIn K mainGlobals "sorted" = some none)
    (zset : PySem.W.nsIn K mainGlobals "set" = some none)
    (zany : PySem.W.nsIn K mainGlobals "any" = some none)
    : ∃ fd : FuncData, (∀ (s : Shared) (v : Value), BindsTo s fd ⟨[v], []⟩ [("_law_script", v)]) ∧ ∀ base : Heap, K.In base → base.Ns mainGlobals mg → FnOk l.prog w K mg base CX0 5 fa fd ["_law_script"] (spLaw K) := by
  have e := hfa.symm.trans (PySem.W.mg_of X G aZ)
  cases e
  have T : Txt mg := ⟨PySem.W.mg_none_of X G zlen, PySem.W.mg_none_of X G zrange, PySem.W.mg_none_of X G ztuple, PySem.W.mg_none_of X G zisin, PySem.W.mg_none_of X G zint, PySem.W.mg_none_of X G zbool, PySem.W.mg_none_of X G zenum, PySem.W.mg_none_of X G zmax, PySem.W.mg_none_of X G zmin, PySem.W.mg_none_of X G zsorted, PySem.W.mg_none_of X G zset, PySem.W.mg_none_of X G zany⟩
  have FRB := fun_mk (st := sRB) lRB cRB kRB
  have bRB := FRB.binds (ps := ["machine", "room", "run"]) fun _ _ _ _ _ _ us hl => match us, hl with | [_, _, _], _ => rfl
  have FLB := fun_mk (st := sLB) lLB cLB kLB
  have bLB := FLB.binds (ps := ["machine", "run"]) fun _ _ _ _ _ _ us hl => match us, hl with | [_, _], _ => rfl
  have FWy := fun_mk (st := sWy) lWy cWy kWy
  have bWy := FWy.binds (ps := ["machine"]) fun _ _ _ _ _ _ us hl => match us, hl with | [_], _ => rfl
  have FLI := fun_mk (st := sLI) lLI cLI kLI
  have bLI := FLI.binds (ps := ["nexts", "known"]) fun _ _ _ _ _ _ us hl => match us, hl with | [_, _], _ => rfl
  have FRG := fun_mk (st := sRG) lRG cRG kRG
  have bRG := FRG.binds (ps := ["machine"]) fun _ _ _ _ _ _ us hl => match us, hl with | [_], _ => rfl
  have FUs := fun_mk (st := sUs) lUs cUs kUs
  have bUs := FUs.binds (ps := ["machine"]) fun _ _ _ _ _ _ us hl => match us, hl with | [_], _ => rfl
  have FOn := fun_mk (st := sOn) lOn cOn kOn
  have bOn := FOn.binds (ps := ["machine", "rooms", "letter", "known"]) fun _ _ _ _ _ _ us hl => match us, hl with | [_, _, _, _], _ => rfl
  have FLo := fun_mk (st := sLo) lLo cLo kLo
  have bLo := FLo.binds (ps := ["machine", "run", "start", "head", "known"]) fun _ _ _ _ _ _ us hl => match us, hl with | [_, _, _, _, _], _ => rfl
  have FSz := fun_mk (st := sSz) lSz cSz kSz
  have bSz := FSz.binds (ps := ["stretch"]) fun _ _ _ _ _ _ us hl => match us, hl with | [_], _ => rfl
  have FOd := fun_mk (st := sOd) lOd cOd kOd
  have bOd := FOd.binds (ps := ["machine", "run"]) fun _ _ _ _ _ _ us hl => match us, hl with | [_, _], _ => rfl
  have FCe := fun_mk (st := sCe) lCe cCe kCe
  have bCe := FCe.binds (ps := ["_law_script", "_law_k"]) fun _ _ _ _ _ _ us hl => match us, hl with | [_, _], _ => rfl
  have FMa := fun_mk (st := sMa) lMa cMa kMa
  have bMa := FMa.binds (ps := ["_law_script", "_law_start", "_law_most"]) fun _ _ _ _ _ _ us hl => match us, hl with | [_, _, _], _ => rfl
  have FRu := fun_mk (st := sRu) lRu cRu kRu
  have bRu := FRu.binds (ps := ["_law_cell", "_law_many", "_law_most"]) fun _ _ _ _ _ _ us hl => match us, hl with | [_, _, _], _ => rfl
  have FRo := fun_mk (st := sRo) lRo cRo kRo
  have bRo := FRo.binds (ps := ["_law_machine_here", "_law_room_here", "_law_run_here"]) fun _ _ _ _ _ _ us hl => match us, hl with | [_, _, _], _ => rfl
  have FWh := fun_mk (st := sWh) lWh cWh kWh
  have bWh := FWh.binds (ps := ["_law_found"]) fun _ _ _ _ _ _ us hl => match us, hl with | [_], _ => rfl
  have FBh := fun_mk (st := sBh) lBh cBh kBh
  have bBh := FBh.binds (ps := ["_law_machine_here", "_law_room_here"]) fun _ _ _ _ _ _ us hl => match us, hl with | [_, _], _ => rfl
  have FTh := fun_mk (st := sTh) lTh cTh kTh
  have bTh := FTh.binds (ps := ["_law_machine_here", "_law_run_here", "_law_head", "_law_tail"]) fun _ _ _ _ _ _ us hl => match us, hl with | [_, _, _, _], _ => rfl
  have FSs := fun_mk (st := sSs) lSs cSs kSs
  have bSs := FSs.binds (ps := ["_law_length"]) fun _ _ _ _ _ _ us hl => match us, hl with | [_], _ => rfl
  have FDu := fun_mk (st := sDu) lDu cDu kDu
  have bDu := FDu.binds (ps := ["_law_machine_here", "_law_run_here"]) fun _ _ _ _ _ _ us hl => match us, hl with | [_, _], _ => rfl
  have FZ := fun_mk (st := sLaw) lZ cZ kZ
  have gRB := PySem.W.mg_of X G aRB
  have gLB := PySem.W.mg_of X G aLB
  have gWy := PySem.W.mg_of X G aWy
  have gLI := PySem.W.mg_of X G aLI
  have gRG := PySem.W.mg_of X G aRG
  have gUs := PySem.W.mg_of X G aUs
  have gOn := PySem.W.mg_of X G aOn
  have gLo := PySem.W.mg_of X G aLo
  have gSz := PySem.W.mg_of X G aSz
  have gOd := PySem.W.mg_of X G aOd
  have gCe := PySem.W.mg_of X G aCe
  have gMa := PySem.W.mg_of X G aMa
  have gRu := PySem.W.mg_of X G aRu
  have gRo := PySem.W.mg_of X G aRo
  have gWh := PySem.W.mg_of X G aWh
  have gBh := PySem.W.mg_of X G aBh
  have gTh := PySem.W.mg_of X G aTh
  have gSs := PySem.W.mg_of X G aSs
  have gDu := PySem.W.mg_of X G aDu
  exact ⟨PySem.W.fnOf "law" "law" (defArgs sLaw) (defBody sLaw) (defScope sLaw) .none kVZ dcZ pmZ anZ cdZ ctZ, fun s v => .of_eq rfl, fun base _ _ => ok_all FZ T  FRB bRB gRB FLB bLB gLB FWy bWy gWy FLI bLI gLI FRG bRG gRG FUs bUs gUs FOn bOn gOn FLo bLo gLo FSz bSz gSz FOd bOd gOd FCe bCe gCe FMa bMa gMa FRu bRu gRu FRo bRo gRo FWh bWh gWh FBh bBh gBh FTh bTh gTh FSs bSs gSs FDu bDu gDu⟩
theorem walk {l : PySem.W.OpenLaw} {q : Program} {loose : List Str} {XP : (Str → Option Value) → Heap → Prop} {YP : World → Heap → Prop} {d : DefRec} {K : Params → PySem.W.Frag} (hn : l.most = some 63) (hdf : d.params.defaults = [])
    (hY : ∀ (w : World) (h : Heap), YP w h → (K w.params).In h)
    (F : ∀ (w : World) (mg : Str → Option Value) (fa : Addr) (h : Heap), (K w.params).In h → h.Ns mainGlobals mg → mg d.name = some (.ref fa) →
      ∃ fd : FuncData, (∀ (s : Shared) (u : Value), BindsTo s fd ⟨[u], []⟩ [("_law_script", u)]) ∧ ∀ base : Heap, (K w.params).In base → base.Ns mainGlobals mg → FnOk l.prog w (K w.params) mg base CX0 5 fa fd ["_law_script"] (spLaw (K w.params))) :
    PySem.W.WalkO q loose XP YP l.row.toRowW d [] (fun f vs => PySem.call f vs) :=
  L2.walk_of (n := 63) (k := 5) (x := "_law_script") (CX := fun _ => CX0) (sp := fun w => spLaw (K w.params)) hn (by decide) hdf ⟨rfl, by decide, by decide⟩ hY F (fun _ _ a ns hl _ hS => ⟨a, ns, rfl, hS, hl, fun _ => rfl⟩) fun _ _ _ _ _ z => z
end K21
open PySem PySem.W PyProof.Rows
set_option maxRecDepth 100000 in
set_option maxHeartbeats 0 in
theorem PySem.Challenge.cw_logloom_k62_whole_first_odd_stretch_holds : PySem.Challenge.rw_logloom_k62_whole_first_odd_stretch.Holds := by
  w_on; o_law
  refine PySem.W.holds_open (q := K21.hQ) (loose := []) (Xt := K21.hX)
    (XP := PySem.W.XL K21.hQ [])
    (Yf := (PySem.W.kHook K21.hK K21.hA K21.hE).obs) (Ya := (PySem.W.kHook K21.hK K21.hA K21.hE).val)
    (YP := (PySem.W.kHook K21.hK K21.hA K21.hE).says)
    (N := 1422) K21.hL (PySem.W.kHook K21.hK K21.hA K21.hE).of (PySem.W.kHook K21.hK K21.hA K21.hE).keeps
    (fun s e => PySem.W.xl_of s (Bool.and_eq_true_iff.mp e).1) PySem.W.XL.keeps
    rfl rfl rfl
    (fun s e => PySem.W.recFacts_of (Bool.and_eq_true_iff.mp e).2)
    rfl (by first | assumption | decide +kernel) (by decide +kernel)
    ⟨rfl, rfl, rfl, rfl, rfl, by decide +kernel⟩ ?hw ?hc
  case hw => w_witness2
  k_fill
  refine K21.walk (l := PySem.Challenge.rw_logloom_k62_whole_first_odd_stretch) rfl rfl (fun w h Y => PySem.W.kIn_of Y) ?F
  case F =>
    intro w mg fa h KX G hmg
    refine' K21.all_mk KX G hmg ?aRB ?lRB ?cRB ?kRB ?aLB ?lLB ?cLB ?kLB ?aWy ?lWy ?cWy ?kWy ?aLI ?lLI ?cLI ?kLI ?aRG ?lRG ?cRG ?kRG ?aUs ?lUs ?cUs ?kUs ?aOn ?lOn ?cOn ?kOn ?aLo ?lLo ?cLo ?kLo ?aSz ?lSz ?cSz ?kSz ?aOd ?lOd ?cOd ?kOd ?aCe ?lCe ?cCe ?kCe ?aMa ?lMa ?cMa ?kMa ?aRu ?lRu ?cRu ?kRu ?aRo ?lRo ?cRo ?kRo ?aWh ?lWh ?cWh ?kWh ?aBh ?lBh ?cBh ?kBh ?aTh ?lTh ?cTh ?kTh ?aSs ?lSs ?cSs ?kSs ?aDu ?lDu ?cDu ?kDu ?aZ ?lZ ?cZ ?kZ ?zlen ?zrange ?ztuple ?zisin ?zint ?zbool ?zenum ?zmax ?zmin ?zsorted ?zset ?zany
    (case aRB => k_is)
    (case lRB => k_is)
    (case cRB => k_is)
    (case kRB => k_is)
    (case aLB => k_is)
    (case lLB => k_is)
    (case cLB => k_is)
    (case kLB => k_is)
    (case aWy => k_is)
    (case lWy => k_is)
    (case cWy => k_is)
    (case kWy => k_is)
    (case aLI => k_is)
    (case lLI => k_is)
    (case cLI => k_is)
    (case kLI => k_is)
    (case aRG => k_is)
    (case lRG => k_is)
    (case cRG => k_is)
    (case kRG => k_is)
    (case aUs => k_is)
    (case lUs => k_is)
    (case cUs => k_is)
    (case kUs => k_is)
    (case aOn => k_is)
    (case lOn => k_is)
    (case cOn => k_is)
    (case kOn => k_is)
    (case aLo => k_is)
    (case lLo => k_is)
    (case cLo => k_is)
    (case kLo => k_is)
    (case aSz => k_is)
    (case lSz => k_is)
    (case cSz => k_is)
    (case kSz => k_is)
    (case aOd => k_is)
    (case lOd => k_is)
    (case cOd => k_is)
    (case kOd => k_is)
    (case aCe => k_is)
    (case lCe => k_is)
    (case cCe => k_is)
    (case kCe => k_is)
    (case aMa => k_is)
    (case lMa => k_is)
    (case cMa => k_is)
    (case kMa => k_is)
    (case aRu => k_is)
    (case lRu => k_is)
    (case cRu => k_is)
    (case kRu => k_is)
    (case aRo => k_is)
    (case lRo => k_is)
    (case cRo => k_is)
    (case kRo => k_is)
    (case aWh => k_is)
    (case lWh => k_is)
    (case cWh => k_is)
    (case kWh => k_is)
    (case aBh => k_is)
    (case lBh => k_is)
    (case cBh => k_is)
    (case kBh => k_is)
    (case aTh => k_is)
    (case lTh => k_is)
    (case cTh => k_is)
    (case kTh => k_is)
    (case aSs => k_is)
    (case lSs => k_is)
    (case cSs => k_is)
    (case kSs => k_is)
    (case aDu => k_is)
    (case lDu => k_is)
    (case cDu => k_is)
    (case kDu => k_is)
    (case aZ => k_is)
    (case lZ => k_is)
    (case cZ => k_is)
    (case kZ => k_is)
    (case zlen => k_is)
    (case zrange => k_is)
    (case ztuple => k_is)
    (case zisin => k_is)
    (case zint => k_is)
    (case zbool => k_is)
    (case zenum => k_is)
    (case zmax => k_is)
    (case zmin => k_is)
    (case zsorted => k_is)
    (case zset => k_is)
    (case zany => k_is)

