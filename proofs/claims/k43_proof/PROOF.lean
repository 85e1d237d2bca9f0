import PyProof.Rows.All
import Wide.All
import OpenK.AllK
import Wide.FinOn
import Lean
import PyProof.EqAt
import PyProof.EqKinds
import PyProof.TupleCall
import PySem.Challenge.RW_logloom_k43_whole_fewest_shown
set_option Elab.async false
set_option linter.all false
set_option maxRecDepth 100000
namespace HT
open PySem PySem.W
abbrev annR:Option Value:=some (.ref 6)
noncomputable abbrev okQ:Thread->Bool:=Fast.tw6613529449190102663 11 annR
noncomputable abbrev stQ (p:Program) (w:World):SharedT->Thread->Option (SharedT×Thread):=
 Fast.tw10156331382660048174 (Fast.tw11892475500146522536 Fast.tw14364793385576792824) p w
noncomputable def runQ (p:Program) (w:World):Nat->SharedT->Thread->Option SharedT
 |0,_,_=>none
 |fuel+1,a,th=>@Bool.rec (fun _=>Option SharedT)
   (@Bool.rec (fun _=>Option SharedT) none (@Option.rec (SharedT×Thread) (fun _=>Option SharedT) none (fun r=>runQ p w fuel r.1 r.2) (stQ p w a th)) (okQ th))
   (some a) (through th)
theorem okQ_is (th:Thread):okQ th=stepOk 11 annR th:=by
 show Fast.tw6613529449190102663 11 annR th=_
 rw[<- Fast.te6613529449190102663]
theorem stQ_is (p:Program)(w:World)(a:SharedT)(th:Thread):stQ p w a th=stepT (denote treeTable) p w a th:=by
 show Fast.tw10156331382660048174 (Fast.tw11892475500146522536 Fast.tw14364793385576792824) p w a th=_
 rw[<- Fast.te10156331382660048174,<- Fast.te11892475500146522536,<- Fast.te14364793385576792824]
theorem runQ_top {p:Program}{w:World}:∀(fuel:Nat) (a b:SharedT) (th:Thread),
  runQ p w fuel a th=some b->topRun treeTable p w 11 annR fuel a.abs th=some b.abs
 |0,_,_,_,e=>by cases e
 |fuel+1,a,b,th,e=>by
  unfold runQ at e
  unfold topRun
  rw[okQ_is,stQ_is] at e
  cases e1:through th
  ·rw[e1] at e
   cases e2:stepOk 11 annR th
   ·rw[e2] at e;cases e
   ·rw[e2] at e
    cases e3:stepT (denote treeTable) p w a th with
    |none=>rw[e3] at e;cases e
    |some r=>
     rw[e3] at e
     have e4:=stepT_spec (s':=r.1) (t':=r.2) e3
     rw[e4]
     exact runQ_top fuel r.1 b r.2 e
  ·rw[e1] at e
   have:a=b:=Option.some.inj e
   rw[this]
noncomputable def bT (P:Params):BT:=
 .node (boot_o_0 P)
  (.node (boot_o_1 P) (.node (boot_o_3 P) (.node (boot_o_7 P) .nil .nil) .nil) (.node (boot_o_5 P) (.node (boot_o_9 P) .nil .nil) .nil))
  (.node (boot_o_2 P) (.node (boot_o_4 P) (.node (boot_o_8 P) .nil .nil) .nil) (.node (boot_o_6 P) (.node (boot_o_10 P) .nil .nil) .nil))
theorem bT_boot:∀P,boot_heap P=absHeap (bT P) 11 {}:=fun P=>by kernel_rfl
noncomputable abbrev at0 (w:World) (os:OsState):SharedT:=⟨bT w.params,11,{},Array.mk [],boot_drawn,boot_toks,os⟩
theorem at0_abs (w:World)(os:OsState):(at0 w os).abs=⟨boot_heap w.params,Array.mk [],boot_drawn,boot_toks,os⟩:=by
 rw[bT_boot];rfl
theorem boot_looks:∀P:Params,(((boot_heap P).isNs mainGlobals&&(#[]:Array GenState).size==0)=true/\(boot_heap P).objs.size=11)∧
  (boot_heap P).nsMap mainGlobals "__annotations__"=annR:=fun P=>⟨⟨by kernel_rfl,by kernel_rfl⟩,by kernel_rfl⟩
noncomputable abbrev kept (p:Program) (P:Params) (b:Shared):Bool:=
 staticsOk (importedModules p.main.body) (boot_heap P) b.heap&&namesBound p b.heap&&gensDone b&&laidKept (boot_heap P) b.heap
theorem left1 {p q:Program}{loose:List Str}{Xt:Shared->Bool}{α:Type}{Yf:Shared->α}{Ya:World->α}{N:Nat}{g0:Bool}
  (e:opening p=plainProg p.main.scope.names) (hN:Nat.ble 600 N=true) (f:∀s,fenceModules? p s=some s)
  (run:∀(w:World) (os:OsState),(runQ p w N (at0 w os) (topStub p)).map (fun b=>
   (kept p w.params b.abs,Fast.tw4187177175401517315 q loose (importedModules p.main.body) Xt g0 b.abs,Yf b.abs))=some (true,openGood q loose,Ya w)):
  LeftO p q loose Xt Yf Ya N g0:=by
 intro w
 obtain⟨⟨hp,gs,d,k,os⟩,o1,o2⟩:=Option.map_eq_some_iff.mp (boot_open e hN f w)
 obtain⟨rfl,rfl,rfl,rfl⟩:hp=boot_heap w.params/\gs=Array.mk []/\d=boot_drawn/\k=boot_toks:=by
  simpa using o2
 obtain⟨⟨z1,z2⟩,z3⟩:=boot_looks w.params
 have r:=run w os
 rw[<- Fast.te4187177175401517315] at r
 obtain⟨b,r1,r2⟩:=Option.map_eq_some_iff.mp r
 rw[Prod.mk.injEq,Prod.mk.injEq] at r2
 have r3:=runQ_top N _ b _ r1
 rw[at0_abs] at r3
 have r4:topFrom treeTable p w N ⟨boot_heap w.params,Array.mk [],boot_drawn,boot_toks,os⟩=some b.abs:=by
  have k1:kept p w.params b.abs=true:=r2.1
  unfold kept at k1
  unfold topFrom
  simp only[z1,z2,z3,r3,Option.bind_some,k1]
 have r5:openEnds treeTable p w N=some b.abs:=by
  unfold openEnds
  simp only[o1,Option.bind_some,r4]
 rw[r5]
 exact congrArg some (by rw[<- r2.2.1,<- r2.2.2])
theorem left3 {p q:Program}{loose:List Str}{Xt:Shared->Bool}{α:Type}{Yf:Shared->α}{Ya:World->α}{N:Nat}{g0:Bool}(e:opening p=plainProg p.main.scope.names)(hN:Nat.ble 600 N=true)(f:∀s,fenceModules? p s=some s)
 (r1:∀(w:World) (os:OsState),(runQ p w N (at0 w os) (topStub p)).map (fun b=>kept p w.params b.abs)=some true)
 (r2:∀(w:World) (os:OsState),(runQ p w N (at0 w os) (topStub p)).map (fun b=>Fast.tw4187177175401517315 q loose (importedModules p.main.body) Xt g0 b.abs)=some (openGood q loose))
 (r3:∀(w:World) (os:OsState),(runQ p w N (at0 w os) (topStub p)).map (fun b=>Yf b.abs)=some (Ya w)):LeftO p q loose Xt Yf Ya N g0:=
 left1 e hN f fun w os=>by
 obtain⟨b,e1,e2⟩:=Option.map_eq_some_iff.mp (r1 w os)
 have h2:=r2 w os
 have h3:=r3 w os
 rw[e1] at h2 h3 ⊢
 exact congrArg some (Prod.ext e2 (Prod.ext (Option.some.inj h2) (Option.some.inj h3)))
end HT
namespace L2
open PySem
def inClass (s:Stmt)(j:Nat):Stmt:=match s with
 |.ClassDef _ _ _ body _ _ _ _ _ _ _=>body.getD j (.Pass ⟨0,0,0,0⟩)
 |_=>.Pass ⟨0,0,0,0⟩
def defArgs (s:Stmt):Arguments:=match s with
 |.FunctionDef _ a _ _ _ _ _ _ _ _=>a
 |_=>{ posonlyargs:=[],args:=[],vararg:=none,kwonlyargs:=[],kw_defaults:=[],kwarg:=none,defaults:=[] }
def defBody (s:Stmt):List Stmt:=match s with
 |.FunctionDef _ _ b _ _ _ _ _ _ _=>b
 |_=>[]
def defScope (s:Stmt):Scope:=match s with
 |.FunctionDef _ _ _ _ _ _ sc _ _ _=>sc
 |_=>{ kind:=.function,names:=[],isGenerator:=false,isCoroutine:=false }
end L2
namespace K21
open PySem L2
def top (i:Nat):Stmt:=PySem.Challenge.pw_logloom_k43_whole_fewest_shown.main.body.getD i (.Pass ⟨0,0,0,0⟩)
abbrev sFk:Stmt:=top 20
abbrev sKl:Stmt:=top 21
abbrev sLs:Stmt:=top 23
abbrev sMr:Stmt:=top 24
abbrev cMod:Int:=2
structure Txt (mg:Str->Option Value):Prop where
 len:mg "len"=none
 range:mg "range"=none
 tuple:mg "tuple"=none
 isin:mg "isinstance"=none
 int:mg "int"=none
 bool:mg "bool"=none
 zip:mg "zip"=none
 set:mg "set"=none
 max:mg "max"=none
end K21
namespace BG
open PySem L2
def top (i:Nat):Stmt:=PySem.Challenge.pw_logloom_k43_whole_fewest_shown.main.body.getD i (.Pass ⟨0,0,0,0⟩)
abbrev sRo:Stmt:=top 1
abbrev sBg:Stmt:=top 3
abbrev sTb:Stmt:=top 4
abbrev sAp:Stmt:=top 5
abbrev sXw:Stmt:=inClass (top 8) 0
abbrev sXg:Stmt:=inClass (top 9) 0
abbrev sXc:Stmt:=inClass (top 10) 0
abbrev sSt:Stmt:=top 13
abbrev sRg:Stmt:=top 14
abbrev sRo2:Stmt:=top 15
abbrev sFs:Stmt:=top 16
abbrev sMb:Stmt:=top 17
abbrev sRd:Stmt:=top 18
abbrev sAb:Stmt:=top 26
abbrev sFl:Stmt:=top 27
abbrev sLo:Stmt:=top 28
abbrev sCe:Stmt:=top 30
abbrev sPk:Stmt:=top 31
abbrev sHi:Stmt:=top 32
abbrev sRu:Stmt:=top 33
abbrev sRi:Stmt:=top 34
abbrev sBe:Stmt:=top 35
abbrev sTw:Stmt:=top 36
abbrev sSz:Stmt:=top 37
abbrev sLr:Stmt:=top 38
abbrev sWk:Stmt:=top 39
abbrev sAg:Stmt:=top 40
abbrev sLaw:Stmt:=top 41
end BG
namespace BG
open PySem L2
abbrev tu0:Obj:={cls:=.type "tuple",data:=.seq #[]}
def hK:PySem.Params->W.Frag:=fun P=>
 (nat_lit 2,{cls:=.none,data:=.dict #[]})::
 (nat_lit 3,{cls:=.type "dict",data:=.dict #[⟨PyData.keyHash P "__name__",.str "__name__" 165,.str "law_logloom_k43_whole_fewest_shown" 421⟩,⟨PyData.keyHash P "__doc__",.str "__doc__" 166,.none⟩,⟨PyData.keyHash P "__package__",.str "__package__" 167,.none⟩,⟨PyData.keyHash P "__loader__",.str "__loader__" 168,.builtin "__main__.__loader__#opaque"⟩,⟨PyData.keyHash P "__spec__",.str "__spec__" 169,.none⟩,⟨PyData.keyHash P "__annotations__",.str "__annotations__" 170,.ref 6⟩,⟨PyData.keyHash P "__builtins__",.str "__builtins__" 171,.ref 4⟩,⟨PyData.keyHash P "__file__",.str "__file__" 173,.str "/claim/cut.py" 172⟩,⟨PyData.keyHash P "__cached__",.str "__cached__" 174,.none⟩,⟨PyData.keyHash P "run_order",.str "run_order" 195,.ref 21⟩,⟨PyData.keyHash P "beginnings",.str "beginnings" 208,.ref 28⟩,⟨PyData.keyHash P "tails_behind",.str "tails_behind" 214,.ref 33⟩,⟨PyData.keyHash P "apart",.str "apart" 220,.ref 38⟩,⟨PyData.keyHash P "LoomError",.str "LoomError" 240,.ref 48⟩,⟨PyData.keyHash P "TooWide",.str "TooWide" 265,.ref 68⟩,⟨PyData.keyHash P "TooGreat",.str "TooGreat" 290,.ref 87⟩,⟨PyData.keyHash P "Clash",.str "Clash" 315,.ref 106⟩,⟨PyData.keyHash P "MOST_WIDE",.str "MOST_WIDE" 319,.int 9 318⟩,⟨PyData.keyHash P "step_to",.str "step_to" 327,.ref 115⟩,⟨PyData.keyHash P "rooms_given",.str "rooms_given" 338,.ref 122⟩,⟨PyData.keyHash P "rooms_of",.str "rooms_of" 344,.ref 127⟩,⟨PyData.keyHash P "first_steps",.str "first_steps" 350,.ref 132⟩,⟨PyData.keyHash P "machine_by",.str "machine_by" 356,.ref 137⟩,⟨PyData.keyHash P "read_off",.str "read_off" 372,.ref 145⟩,⟨PyData.keyHash P "finer_kinds",.str "finer_kinds" 380,.ref 150⟩,⟨PyData.keyHash P "kinds_by_length",.str "kinds_by_length" 386,.ref 155⟩,⟨PyData.keyHash P "least",.str "least" 394,.ref 160⟩,⟨PyData.keyHash P "merged_room",.str "merged_room" 400,.ref 165⟩,⟨PyData.keyHash P "apart_behind",.str "apart_behind" 408,.ref 170⟩,⟨PyData.keyHash P "first_lonely",.str "first_lonely" 414,.ref 175⟩,⟨PyData.keyHash P "lonely",.str "lonely" 420,.ref 180⟩,⟨PyData.keyHash P "_law_cell_at",.str "_law_cell_at" 430,.ref 187⟩,⟨PyData.keyHash P "_law_pick",.str "_law_pick" 439,.ref 194⟩,⟨PyData.keyHash P "_law_hidden",.str "_law_hidden" 445,.ref 199⟩,⟨PyData.keyHash P "_law_run",.str "_law_run" 457,.ref 206⟩,⟨PyData.keyHash P "_law_right",.str "_law_right" 467,.ref 213⟩,⟨PyData.keyHash P "_law_begins",.str "_law_begins" 473,.ref 218⟩,⟨PyData.keyHash P "_law_two",.str "_law_two" 491,.ref 225⟩,⟨PyData.keyHash P "_law_sizes",.str "_law_sizes" 499,.ref 232⟩,⟨PyData.keyHash P "_law_read",.str "_law_read" 510,.ref 239⟩,⟨PyData.keyHash P "_law_walked",.str "_law_walked" 520,.ref 246⟩,⟨PyData.keyHash P "_law_again",.str "_law_again" 526,.ref 251⟩,⟨PyData.keyHash P "law",.str "law" 532,.ref 256⟩] 43})::
 (nat_lit 15,tu0)::
 (nat_lit 17,{cls:=.type "tuple",data:=.seq #[.str "run" 192]})::
 (nat_lit 18,tu0)::
 (nat_lit 20,{cls:=.type "code",data:=.fields #[.str "run_order" 189,.str "run_order" 190,.str "/claim/cut.py" 191,.int 2 0,.int 1 0,.int 0 0,.int 0 0,.int 3 0,.ref 15,.bool true,.int 181 0,.ref 16,.none,.ref 17,.ref 18,.ref 19,.int 193 0,.int 2 0,.str "/claim/cut.py" 194]})::
 (nat_lit 21,⟨(.type "function"),none,.func (W.fnOf "run_order" "run_order" (defArgs (top 1)) (defBody (top 1)) (defScope (top 1)) .none .none .none (.str "logloom.machines" 187) none (.ref 20) .none),#[]⟩)::
 (nat_lit 22,tu0)::
 (nat_lit 24,{cls:=.type "tuple",data:=.seq #[.str "good" 201,.str "bad" 202,.str "met" 203,.str "run" 204,.str "length" 205]})::
 (nat_lit 25,tu0)::
 (nat_lit 27,{cls:=.type "code",data:=.fields #[.str "beginnings" 198,.str "beginnings" 199,.str "/claim/cut.py" 200,.int 5 0,.int 2 0,.int 0 0,.int 0 0,.int 3 0,.ref 22,.bool true,.int 181 0,.ref 23,.none,.ref 24,.ref 25,.ref 26,.int 206 0,.int 5 0,.str "/claim/cut.py" 207]})::
 (nat_lit 28,⟨(.type "function"),none,.func (W.fnOf "beginnings" "beginnings" (defArgs (top 3)) (defBody (top 3)) (defScope (top 3)) .none .none .none (.str "logloom.beginnings" 196) none (.ref 27) .none),#[]⟩)::
 (nat_lit 29,tu0)::
 (nat_lit 32,{cls:=.type "code",data:=.fields #[.str "tails_behind" 209,.str "tails_behind" 210,.str "/claim/cut.py" 211,.int 11 0,.int 2 0,.int 0 0,.int 0 0,.int 3 0,.ref 29,.bool true,.int 181 0,.ref 30,.none,.none,.none,.ref 31,.int 212 0,.int 11 0,.str "/claim/cut.py" 213]})::
 (nat_lit 33,⟨(.type "function"),none,.func (W.fnOf "tails_behind" "tails_behind" (defArgs (top 4)) (defBody (top 4)) (defScope (top 4)) .none .none .none (.str "logloom.beginnings" 196) none (.ref 32) .none),#[]⟩)::
 (nat_lit 34,tu0)::
 (nat_lit 37,{cls:=.type "code",data:=.fields #[.str "apart" 215,.str "apart" 216,.str "/claim/cut.py" 217,.int 13 0,.int 4 0,.int 0 0,.int 0 0,.int 3 0,.ref 34,.bool true,.int 181 0,.ref 35,.none,.none,.none,.ref 36,.int 218 0,.int 13 0,.str "/claim/cut.py" 219]})::
 (nat_lit 38,⟨(.type "function"),none,.func (W.fnOf "apart" "apart" (defArgs (top 5)) (defBody (top 5)) (defScope (top 5)) .none .none .none (.str "logloom.beginnings" 196) none (.ref 37) .none),#[]⟩)::
 (nat_lit 39,{cls:=.type "tuple",data:=.seq #[.type "ValueError"]})::
 (nat_lit 46,tu0)::
 (nat_lit 47,{cls:=.type "dict",data:=.dict #[⟨PyData.keyHash P "__module__",.str "__module__" 230,.str "logloom.errors" 221⟩,⟨PyData.keyHash P "__firstlineno__",.str "__firstlineno__" 234,.int 19 233⟩,⟨PyData.keyHash P "__static_attributes__",.str "__static_attributes__" 235,.ref 46⟩,⟨PyData.keyHash P "__weakref__",.str "__weakref__" 237,.ref 49⟩,⟨PyData.keyHash P "__doc__",.str "__doc__" 238,.none⟩] 3})::
 (nat_lit 48,{cls:=.type "type",data:=Data.cls { name:=Str.ofString "LoomError",bases:=[.type "ValueError"],mro:=[.ref 48,.type "ValueError",.type "Exception",.type "BaseException",.type "object"],ns:=47,qualname:=Str.ofString "LoomError",subclasses:=[.ref 68,.ref 87,.ref 106]},slots:=#[some (.ref 39),none,some (.str "LoomError" 223),some (.str "LoomError" 231),some (.builtin "ValueError.__new__"),some (.bool true)]})::
 (nat_lit 49,{cls:=.type "getset_descriptor",data:=.fields #[.str "__weakref__" 236,.ref 48,.builtin "ExceptionGroup.__weakref__",.none]})::
 (nat_lit 52,{cls:=.type "tuple",data:=.seq #[.ref 48]})::
 (nat_lit 59,tu0)::
 (nat_lit 61,{cls:=.type "tuple",data:=.seq #[.str "self" 256,.str "number" 257]})::
 (nat_lit 62,tu0)::
 (nat_lit 64,{cls:=.type "code",data:=.fields #[.str "__init__" 253,.str "TooWide.__init__" 254,.str "/claim/cut.py" 255,.int 23 0,.int 2 0,.int 0 0,.int 0 0,.int 3 0,.ref 59,.bool true,.int 181 0,.ref 60,.none,.ref 61,.ref 62,.ref 63,.int 258 0,.int 23 0,.str "/claim/cut.py" 259]})::
 (nat_lit 65,⟨(.type "function"),none,.func (W.fnOf "__init__" "TooWide.__init__" (defArgs (inClass (top 8) 0)) (defBody (inClass (top 8) 0)) (defScope (inClass (top 8) 0)) .none .none .none (.str "logloom.errors" 221) none (.ref 64) .none),#[]⟩)::
 (nat_lit 66,{cls:=.type "tuple",data:=.seq #[.str "number" 261]})::
 (nat_lit 67,{cls:=.type "dict",data:=.dict #[⟨PyData.keyHash P "__module__",.str "__module__" 248,.str "logloom.errors" 221⟩,⟨PyData.keyHash P "__firstlineno__",.str "__firstlineno__" 252,.int 21 251⟩,⟨PyData.keyHash P "__init__",.str "__init__" 260,.ref 65⟩,⟨PyData.keyHash P "__static_attributes__",.str "__static_attributes__" 262,.ref 66⟩,⟨PyData.keyHash P "__doc__",.str "__doc__" 263,.none⟩] 2})::
 (nat_lit 68,{cls:=.type "type",data:=Data.cls { name:=Str.ofString "TooWide",bases:=[.ref 48],mro:=[.ref 68,.ref 48,.type "ValueError",.type "Exception",.type "BaseException",.type "object"],ns:=67,qualname:=Str.ofString "TooWide"},slots:=#[some (.ref 52),none,some (.str "TooWide" 241),some (.str "TooWide" 249),some (.builtin "ValueError.__new__"),some (.bool true)]})::
 (nat_lit 71,{cls:=.type "tuple",data:=.seq #[.ref 48]})::
 (nat_lit 78,tu0)::
 (nat_lit 80,{cls:=.type "tuple",data:=.seq #[.str "self" 281,.str "number" 282]})::
 (nat_lit 81,tu0)::
 (nat_lit 83,{cls:=.type "code",data:=.fields #[.str "__init__" 278,.str "TooGreat.__init__" 279,.str "/claim/cut.py" 280,.int 27 0,.int 2 0,.int 0 0,.int 0 0,.int 3 0,.ref 78,.bool true,.int 181 0,.ref 79,.none,.ref 80,.ref 81,.ref 82,.int 283 0,.int 27 0,.str "/claim/cut.py" 284]})::
 (nat_lit 84,⟨(.type "function"),none,.func (W.fnOf "__init__" "TooGreat.__init__" (defArgs (inClass (top 9) 0)) (defBody (inClass (top 9) 0)) (defScope (inClass (top 9) 0)) .none .none .none (.str "logloom.errors" 221) none (.ref 83) .none),#[]⟩)::
 (nat_lit 85,{cls:=.type "tuple",data:=.seq #[.str "number" 286]})::
 (nat_lit 86,{cls:=.type "dict",data:=.dict #[⟨PyData.keyHash P "__module__",.str "__module__" 273,.str "logloom.errors" 221⟩,⟨PyData.keyHash P "__firstlineno__",.str "__firstlineno__" 277,.int 25 276⟩,⟨PyData.keyHash P "__init__",.str "__init__" 285,.ref 84⟩,⟨PyData.keyHash P "__static_attributes__",.str "__static_attributes__" 287,.ref 85⟩,⟨PyData.keyHash P "__doc__",.str "__doc__" 288,.none⟩] 2})::
 (nat_lit 87,{cls:=.type "type",data:=Data.cls { name:=Str.ofString "TooGreat",bases:=[.ref 48],mro:=[.ref 87,.ref 48,.type "ValueError",.type "Exception",.type "BaseException",.type "object"],ns:=86,qualname:=Str.ofString "TooGreat"},slots:=#[some (.ref 71),none,some (.str "TooGreat" 266),some (.str "TooGreat" 274),some (.builtin "ValueError.__new__"),some (.bool true)]})::
 (nat_lit 90,{cls:=.type "tuple",data:=.seq #[.ref 48]})::
 (nat_lit 97,tu0)::
 (nat_lit 99,{cls:=.type "tuple",data:=.seq #[.str "self" 306,.str "run" 307]})::
 (nat_lit 100,tu0)::
 (nat_lit 102,{cls:=.type "code",data:=.fields #[.str "__init__" 303,.str "Clash.__init__" 304,.str "/claim/cut.py" 305,.int 31 0,.int 2 0,.int 0 0,.int 0 0,.int 3 0,.ref 97,.bool true,.int 181 0,.ref 98,.none,.ref 99,.ref 100,.ref 101,.int 308 0,.int 31 0,.str "/claim/cut.py" 309]})::
 (nat_lit 103,⟨(.type "function"),none,.func (W.fnOf "__init__" "Clash.__init__" (defArgs (inClass (top 10) 0)) (defBody (inClass (top 10) 0)) (defScope (inClass (top 10) 0)) .none .none .none (.str "logloom.errors" 221) none (.ref 102) .none),#[]⟩)::
 (nat_lit 104,{cls:=.type "tuple",data:=.seq #[.str "run" 311]})::
 (nat_lit 105,{cls:=.type "dict",data:=.dict #[⟨PyData.keyHash P "__module__",.str "__module__" 298,.str "logloom.errors" 221⟩,⟨PyData.keyHash P "__firstlineno__",.str "__firstlineno__" 302,.int 29 301⟩,⟨PyData.keyHash P "__init__",.str "__init__" 310,.ref 103⟩,⟨PyData.keyHash P "__static_attributes__",.str "__static_attributes__" 312,.ref 104⟩,⟨PyData.keyHash P "__doc__",.str "__doc__" 313,.none⟩] 2})::
 (nat_lit 106,{cls:=.type "type",data:=Data.cls { name:=Str.ofString "Clash",bases:=[.ref 48],mro:=[.ref 106,.ref 48,.type "ValueError",.type "Exception",.type "BaseException",.type "object"],ns:=105,qualname:=Str.ofString "Clash"},slots:=#[some (.ref 90),none,some (.str "Clash" 291),some (.str "Clash" 299),some (.builtin "ValueError.__new__"),some (.bool true)]})::
 (nat_lit 109,tu0)::
 (nat_lit 111,{cls:=.type "tuple",data:=.seq #[.str "run" 323,.str "given" 324]})::
 (nat_lit 112,tu0)::
 (nat_lit 114,{cls:=.type "code",data:=.fields #[.str "step_to" 320,.str "step_to" 321,.str "/claim/cut.py" 322,.int 35 0,.int 2 0,.int 0 0,.int 0 0,.int 3 0,.ref 109,.bool true,.int 181 0,.ref 110,.none,.ref 111,.ref 112,.ref 113,.int 325 0,.int 35 0,.str "/claim/cut.py" 326]})::
 (nat_lit 115,⟨(.type "function"),none,.func (W.fnOf "step_to" "step_to" (defArgs (top 13)) (defBody (top 13)) (defScope (top 13)) .none .none .none (.str "logloom.reading" 316) none (.ref 114) .none),#[]⟩)::
 (nat_lit 116,tu0)::
 (nat_lit 118,{cls:=.type "tuple",data:=.seq #[.str "starts" 331,.str "steps" 332,.str "given" 333,.str "run" 334,.str "step" 335]})::
 (nat_lit 119,tu0)::
 (nat_lit 121,{cls:=.type "code",data:=.fields #[.str "rooms_given" 328,.str "rooms_given" 329,.str "/claim/cut.py" 330,.int 37 0,.int 2 0,.int 0 0,.int 0 0,.int 3 0,.ref 116,.bool true,.int 181 0,.ref 117,.none,.ref 118,.ref 119,.ref 120,.int 336 0,.int 37 0,.str "/claim/cut.py" 337]})::
 (nat_lit 122,⟨(.type "function"),none,.func (W.fnOf "rooms_given" "rooms_given" (defArgs (top 14)) (defBody (top 14)) (defScope (top 14)) .none .none .none (.str "logloom.reading" 316) none (.ref 121) .none),#[]⟩)::
 (nat_lit 123,tu0)::
 (nat_lit 126,{cls:=.type "code",data:=.fields #[.str "rooms_of" 339,.str "rooms_of" 340,.str "/claim/cut.py" 341,.int 45 0,.int 2 0,.int 0 0,.int 0 0,.int 3 0,.ref 123,.bool true,.int 181 0,.ref 124,.none,.none,.none,.ref 125,.int 342 0,.int 45 0,.str "/claim/cut.py" 343]})::
 (nat_lit 127,⟨(.type "function"),none,.func (W.fnOf "rooms_of" "rooms_of" (defArgs (top 15)) (defBody (top 15)) (defScope (top 15)) .none .none .none (.str "logloom.reading" 316) none (.ref 126) .none),#[]⟩)::
 (nat_lit 128,tu0)::
 (nat_lit 131,{cls:=.type "code",data:=.fields #[.str "first_steps" 345,.str "first_steps" 346,.str "/claim/cut.py" 347,.int 47 0,.int 5 0,.int 0 0,.int 0 0,.int 3 0,.ref 128,.bool true,.int 181 0,.ref 129,.none,.none,.none,.ref 130,.int 348 0,.int 47 0,.str "/claim/cut.py" 349]})::
 (nat_lit 132,⟨(.type "function"),none,.func (W.fnOf "first_steps" "first_steps" (defArgs (top 16)) (defBody (top 16)) (defScope (top 16)) .none .none .none (.str "logloom.reading" 316) none (.ref 131) .none),#[]⟩)::
 (nat_lit 133,tu0)::
 (nat_lit 136,{cls:=.type "code",data:=.fields #[.str "machine_by" 351,.str "machine_by" 352,.str "/claim/cut.py" 353,.int 62 0,.int 4 0,.int 0 0,.int 0 0,.int 3 0,.ref 133,.bool true,.int 181 0,.ref 134,.none,.none,.none,.ref 135,.int 354 0,.int 62 0,.str "/claim/cut.py" 355]})::
 (nat_lit 137,⟨(.type "function"),none,.func (W.fnOf "machine_by" "machine_by" (defArgs (top 17)) (defBody (top 17)) (defScope (top 17)) .none .none .none (.str "logloom.reading" 316) none (.ref 136) .none),#[]⟩)::
 (nat_lit 138,{cls:=.type "tuple",data:=.seq #[.int 3 357]})::
 (nat_lit 139,tu0)::
 (nat_lit 141,{cls:=.type "tuple",data:=.seq #[.str "many" 361,.str "good" 362,.str "bad" 363,.str "most" 364,.str "run" 365,.str "starts" 366,.str "wide" 367,.str "size" 368,.str "steps" 369]})::
 (nat_lit 142,tu0)::
 (nat_lit 144,{cls:=.type "code",data:=.fields #[.str "read_off" 358,.str "read_off" 359,.str "/claim/cut.py" 360,.int 68 0,.int 4 0,.int 0 0,.int 0 0,.int 3 0,.ref 139,.bool true,.int 181 0,.ref 140,.none,.ref 141,.ref 142,.ref 143,.int 370 0,.int 68 0,.str "/claim/cut.py" 371]})::
 (nat_lit 145,⟨(.type "function"),none,.func (W.fnOf "read_off" "read_off" (defArgs (top 18)) (defBody (top 18)) (defScope (top 18)) (.ref 138) .none .none (.str "logloom.reading" 316) none (.ref 144) .none),#[]⟩)::
 (nat_lit 146,tu0)::
 (nat_lit 149,{cls:=.type "code",data:=.fields #[.str "finer_kinds" 375,.str "finer_kinds" 376,.str "/claim/cut.py" 377,.int 82 0,.int 2 0,.int 0 0,.int 0 0,.int 3 0,.ref 146,.bool true,.int 181 0,.ref 147,.none,.none,.none,.ref 148,.int 378 0,.int 82 0,.str "/claim/cut.py" 379]})::
 (nat_lit 150,⟨(.type "function"),none,.func (W.fnOf "finer_kinds" "finer_kinds" (defArgs (top 20)) (defBody (top 20)) (defScope (top 20)) .none .none .none (.str "logloom.parting" 373) none (.ref 149) .none),#[]⟩)::
 (nat_lit 151,tu0)::
 (nat_lit 154,{cls:=.type "code",data:=.fields #[.str "kinds_by_length" 381,.str "kinds_by_length" 382,.str "/claim/cut.py" 383,.int 89 0,.int 1 0,.int 0 0,.int 0 0,.int 3 0,.ref 151,.bool true,.int 181 0,.ref 152,.none,.none,.none,.ref 153,.int 384 0,.int 89 0,.str "/claim/cut.py" 385]})::
 (nat_lit 155,⟨(.type "function"),none,.func (W.fnOf "kinds_by_length" "kinds_by_length" (defArgs (top 21)) (defBody (top 21)) (defScope (top 21)) .none .none .none (.str "logloom.parting" 373) none (.ref 154) .none),#[]⟩)::
 (nat_lit 156,tu0)::
 (nat_lit 159,{cls:=.type "code",data:=.fields #[.str "least" 389,.str "least" 390,.str "/claim/cut.py" 391,.int 97 0,.int 1 0,.int 0 0,.int 0 0,.int 3 0,.ref 156,.bool true,.int 181 0,.ref 157,.none,.none,.none,.ref 158,.int 392 0,.int 97 0,.str "/claim/cut.py" 393]})::
 (nat_lit 160,⟨(.type "function"),none,.func (W.fnOf "least" "least" (defArgs (top 23)) (defBody (top 23)) (defScope (top 23)) .none .none .none (.str "logloom.least" 387) none (.ref 159) .none),#[]⟩)::
 (nat_lit 161,tu0)::
 (nat_lit 164,{cls:=.type "code",data:=.fields #[.str "merged_room" 395,.str "merged_room" 396,.str "/claim/cut.py" 397,.int 111 0,.int 3 0,.int 0 0,.int 0 0,.int 3 0,.ref 161,.bool true,.int 181 0,.ref 162,.none,.none,.none,.ref 163,.int 398 0,.int 111 0,.str "/claim/cut.py" 399]})::
 (nat_lit 165,⟨(.type "function"),none,.func (W.fnOf "merged_room" "merged_room" (defArgs (top 24)) (defBody (top 24)) (defScope (top 24)) .none .none .none (.str "logloom.least" 387) none (.ref 164) .none),#[]⟩)::
 (nat_lit 166,tu0)::
 (nat_lit 169,{cls:=.type "code",data:=.fields #[.str "apart_behind" 403,.str "apart_behind" 404,.str "/claim/cut.py" 405,.int 114 0,.int 4 0,.int 0 0,.int 0 0,.int 3 0,.ref 166,.bool true,.int 181 0,.ref 167,.none,.none,.none,.ref 168,.int 406 0,.int 114 0,.str "/claim/cut.py" 407]})::
 (nat_lit 170,⟨(.type "function"),none,.func (W.fnOf "apart_behind" "apart_behind" (defArgs (top 26)) (defBody (top 26)) (defScope (top 26)) .none .none .none (.str "logloom.lonely" 401) none (.ref 169) .none),#[]⟩)::
 (nat_lit 171,tu0)::
 (nat_lit 174,{cls:=.type "code",data:=.fields #[.str "first_lonely" 409,.str "first_lonely" 410,.str "/claim/cut.py" 411,.int 117 0,.int 3 0,.int 0 0,.int 0 0,.int 3 0,.ref 171,.bool true,.int 181 0,.ref 172,.none,.none,.none,.ref 173,.int 412 0,.int 117 0,.str "/claim/cut.py" 413]})::
 (nat_lit 175,⟨(.type "function"),none,.func (W.fnOf "first_lonely" "first_lonely" (defArgs (top 27)) (defBody (top 27)) (defScope (top 27)) .none .none .none (.str "logloom.lonely" 401) none (.ref 174) .none),#[]⟩)::
 (nat_lit 176,tu0)::
 (nat_lit 179,{cls:=.type "code",data:=.fields #[.str "lonely" 415,.str "lonely" 416,.str "/claim/cut.py" 417,.int 125 0,.int 3 0,.int 0 0,.int 0 0,.int 3 0,.ref 176,.bool true,.int 181 0,.ref 177,.none,.none,.none,.ref 178,.int 418 0,.int 125 0,.str "/claim/cut.py" 419]})::
 (nat_lit 180,⟨(.type "function"),none,.func (W.fnOf "lonely" "lonely" (defArgs (top 28)) (defBody (top 28)) (defScope (top 28)) .none .none .none (.str "logloom.lonely" 401) none (.ref 179) .none),#[]⟩)::
 (nat_lit 181,tu0)::
 (nat_lit 183,{cls:=.type "tuple",data:=.seq #[.str "_law_script" 426,.str "_law_k" 427]})::
 (nat_lit 184,tu0)::
 (nat_lit 186,{cls:=.type "code",data:=.fields #[.str "_law_cell_at" 423,.str "_law_cell_at" 424,.str "/claim/cut.py" 425,.int 132 0,.int 2 0,.int 0 0,.int 0 0,.int 3 0,.ref 181,.bool true,.int 181 0,.ref 182,.none,.ref 183,.ref 184,.ref 185,.int 428 0,.int 132 0,.str "/claim/cut.py" 429]})::
 (nat_lit 187,⟨(.type "function"),none,.func (W.fnOf "_law_cell_at" "_law_cell_at" (defArgs (top 30)) (defBody (top 30)) (defScope (top 30)) .none .none .none (.str "law_logloom_k43_whole_fewest_shown" 421) none (.ref 186) .none),#[]⟩)::
 (nat_lit 188,tu0)::
 (nat_lit 190,{cls:=.type "tuple",data:=.seq #[.str "_law_cell" 434,.str "_law_k" 435,.str "_law_many" 436]})::
 (nat_lit 191,tu0)::
 (nat_lit 193,{cls:=.type "code",data:=.fields #[.str "_law_pick" 431,.str "_law_pick" 432,.str "/claim/cut.py" 433,.int 136 0,.int 3 0,.int 0 0,.int 0 0,.int 3 0,.ref 188,.bool true,.int 181 0,.ref 189,.none,.ref 190,.ref 191,.ref 192,.int 437 0,.int 136 0,.str "/claim/cut.py" 438]})::
 (nat_lit 194,⟨(.type "function"),none,.func (W.fnOf "_law_pick" "_law_pick" (defArgs (top 31)) (defBody (top 31)) (defScope (top 31)) .none .none .none (.str "law_logloom_k43_whole_fewest_shown" 421) none (.ref 193) .none),#[]⟩)::
 (nat_lit 195,tu0)::
 (nat_lit 198,{cls:=.type "code",data:=.fields #[.str "_law_hidden" 440,.str "_law_hidden" 441,.str "/claim/cut.py" 442,.int 138 0,.int 3 0,.int 0 0,.int 0 0,.int 3 0,.ref 195,.bool true,.int 181 0,.ref 196,.none,.none,.none,.ref 197,.int 443 0,.int 138 0,.str "/claim/cut.py" 444]})::
 (nat_lit 199,⟨(.type "function"),none,.func (W.fnOf "_law_hidden" "_law_hidden" (defArgs (top 32)) (defBody (top 32)) (defScope (top 32)) .none .none .none (.str "law_logloom_k43_whole_fewest_shown" 421) none (.ref 198) .none),#[]⟩)::
 (nat_lit 200,tu0)::
 (nat_lit 202,{cls:=.type "tuple",data:=.seq #[.str "_law_cell" 449,.str "_law_many" 450,.str "_law_longest" 451,.str "_law_run_here" 452,.str "_law_size" 453,.str "_law_k" 454]})::
 (nat_lit 203,tu0)::
 (nat_lit 205,{cls:=.type "code",data:=.fields #[.str "_law_run" 446,.str "_law_run" 447,.str "/claim/cut.py" 448,.int 144 0,.int 3 0,.int 0 0,.int 0 0,.int 3 0,.ref 200,.bool true,.int 181 0,.ref 201,.none,.ref 202,.ref 203,.ref 204,.int 455 0,.int 144 0,.str "/claim/cut.py" 456]})::
 (nat_lit 206,⟨(.type "function"),none,.func (W.fnOf "_law_run" "_law_run" (defArgs (top 33)) (defBody (top 33)) (defScope (top 33)) .none .none .none (.str "law_logloom_k43_whole_fewest_shown" 421) none (.ref 205) .none),#[]⟩)::
 (nat_lit 207,tu0)::
 (nat_lit 209,{cls:=.type "tuple",data:=.seq #[.str "_law_rooms" 461,.str "_law_run_here" 462,.str "_law_room" 463,.str "_law_letter" 464]})::
 (nat_lit 210,tu0)::
 (nat_lit 212,{cls:=.type "code",data:=.fields #[.str "_law_right" 458,.str "_law_right" 459,.str "/claim/cut.py" 460,.int 153 0,.int 2 0,.int 0 0,.int 0 0,.int 3 0,.ref 207,.bool true,.int 181 0,.ref 208,.none,.ref 209,.ref 210,.ref 211,.int 465 0,.int 153 0,.str "/claim/cut.py" 466]})::
 (nat_lit 213,⟨(.type "function"),none,.func (W.fnOf "_law_right" "_law_right" (defArgs (top 34)) (defBody (top 34)) (defScope (top 34)) .none .none .none (.str "law_logloom_k43_whole_fewest_shown" 421) none (.ref 212) .none),#[]⟩)::
 (nat_lit 214,tu0)::
 (nat_lit 217,{cls:=.type "code",data:=.fields #[.str "_law_begins" 468,.str "_law_begins" 469,.str "/claim/cut.py" 470,.int 158 0,.int 2 0,.int 0 0,.int 0 0,.int 3 0,.ref 214,.bool true,.int 181 0,.ref 215,.none,.none,.none,.ref 216,.int 471 0,.int 158 0,.str "/claim/cut.py" 472]})::
 (nat_lit 218,⟨(.type "function"),none,.func (W.fnOf "_law_begins" "_law_begins" (defArgs (top 35)) (defBody (top 35)) (defScope (top 35)) .none .none .none (.str "law_logloom_k43_whole_fewest_shown" 421) none (.ref 217) .none),#[]⟩)::
 (nat_lit 219,tu0)::
 (nat_lit 221,{cls:=.type "tuple",data:=.seq #[.str "_law_script" 477,.str "_law_many" 478,.str "_law_size" 479,.str "_law_longest" 480,.str "_law_limit" 481,.str "_law_hidden_here" 482,.str "_law_good" 483,.str "_law_bad" 484,.str "_law_k" 485,.str "_law_cell" 486,.str "_law_run_here" 487,.str "_law_right_here" 488]})::
 (nat_lit 222,tu0)::
 (nat_lit 224,{cls:=.type "code",data:=.fields #[.str "_law_two" 474,.str "_law_two" 475,.str "/claim/cut.py" 476,.int 164 0,.int 5 0,.int 0 0,.int 0 0,.int 3 0,.ref 219,.bool true,.int 181 0,.ref 220,.none,.ref 221,.ref 222,.ref 223,.int 489 0,.int 164 0,.str "/claim/cut.py" 490]})::
 (nat_lit 225,⟨(.type "function"),none,.func (W.fnOf "_law_two" "_law_two" (defArgs (top 36)) (defBody (top 36)) (defScope (top 36)) .none .none .none (.str "law_logloom_k43_whole_fewest_shown" 421) none (.ref 224) .none),#[]⟩)::
 (nat_lit 226,tu0)::
 (nat_lit 228,{cls:=.type "tuple",data:=.seq #[.str "_law_cell" 495,.str "_law_some" 496]})::
 (nat_lit 229,tu0)::
 (nat_lit 231,{cls:=.type "code",data:=.fields #[.str "_law_sizes" 492,.str "_law_sizes" 493,.str "/claim/cut.py" 494,.int 182 0,.int 1 0,.int 0 0,.int 0 0,.int 3 0,.ref 226,.bool true,.int 181 0,.ref 227,.none,.ref 228,.ref 229,.ref 230,.int 497 0,.int 182 0,.str "/claim/cut.py" 498]})::
 (nat_lit 232,⟨(.type "function"),none,.func (W.fnOf "_law_sizes" "_law_sizes" (defArgs (top 37)) (defBody (top 37)) (defScope (top 37)) .none .none .none (.str "law_logloom_k43_whole_fewest_shown" 421) none (.ref 231) .none),#[]⟩)::
 (nat_lit 233,tu0)::
 (nat_lit 235,{cls:=.type "tuple",data:=.seq #[.str "_law_many" 503,.str "_law_good" 504,.str "_law_bad" 505,.str "_law_most" 506,.str "_law_found" 507]})::
 (nat_lit 236,tu0)::
 (nat_lit 238,{cls:=.type "code",data:=.fields #[.str "_law_read" 500,.str "_law_read" 501,.str "/claim/cut.py" 502,.int 186 0,.int 4 0,.int 0 0,.int 0 0,.int 3 0,.ref 233,.bool true,.int 181 0,.ref 234,.none,.ref 235,.ref 236,.ref 237,.int 508 0,.int 186 0,.str "/claim/cut.py" 509]})::
 (nat_lit 239,⟨(.type "function"),none,.func (W.fnOf "_law_read" "_law_read" (defArgs (top 38)) (defBody (top 38)) (defScope (top 38)) .none .none .none (.str "law_logloom_k43_whole_fewest_shown" 421) none (.ref 238) .none),#[]⟩)::
 (nat_lit 240,tu0)::
 (nat_lit 242,{cls:=.type "tuple",data:=.seq #[.str "_law_rooms" 514,.str "_law_run_here" 515,.str "_law_room" 516,.str "_law_letter" 517]})::
 (nat_lit 243,tu0)::
 (nat_lit 245,{cls:=.type "code",data:=.fields #[.str "_law_walked" 511,.str "_law_walked" 512,.str "/claim/cut.py" 513,.int 193 0,.int 2 0,.int 0 0,.int 0 0,.int 3 0,.ref 240,.bool true,.int 181 0,.ref 241,.none,.ref 242,.ref 243,.ref 244,.int 518 0,.int 193 0,.str "/claim/cut.py" 519]})::
 (nat_lit 246,⟨(.type "function"),none,.func (W.fnOf "_law_walked" "_law_walked" (defArgs (top 39)) (defBody (top 39)) (defScope (top 39)) .none .none .none (.str "law_logloom_k43_whole_fewest_shown" 421) none (.ref 245) .none),#[]⟩)::
 (nat_lit 247,tu0)::
 (nat_lit 250,{cls:=.type "code",data:=.fields #[.str "_law_again" 521,.str "_law_again" 522,.str "/claim/cut.py" 523,.int 198 0,.int 4 0,.int 0 0,.int 0 0,.int 3 0,.ref 247,.bool true,.int 181 0,.ref 248,.none,.none,.none,.ref 249,.int 524 0,.int 198 0,.str "/claim/cut.py" 525]})::
 (nat_lit 251,⟨(.type "function"),none,.func (W.fnOf "_law_again" "_law_again" (defArgs (top 40)) (defBody (top 40)) (defScope (top 40)) .none .none .none (.str "law_logloom_k43_whole_fewest_shown" 421) none (.ref 250) .none),#[]⟩)::
 (nat_lit 252,tu0)::
 (nat_lit 255,{cls:=.type "code",data:=.fields #[.str "law" 527,.str "law" 528,.str "/claim/cut.py" 529,.int 207 0,.int 1 0,.int 0 0,.int 0 0,.int 3 0,.ref 252,.bool true,.int 181 0,.ref 253,.none,.none,.none,.ref 254,.int 530 0,.int 207 0,.str "/claim/cut.py" 531]})::
 (nat_lit 256,⟨(.type "function"),none,.func (W.fnOf "law" "law" (defArgs (top 41)) (defBody (top 41)) (defScope (top 41)) .none .none .none (.str "law_logloom_k43_whole_fewest_shown" 421) none (.ref 255) .none),#[]⟩)::[]
def hA:List PySem.Addr:=nat_lit 2::nat_lit 3::nat_lit 15::nat_lit 17::nat_lit 18::nat_lit 20::nat_lit 21::nat_lit 22::nat_lit 24::nat_lit 25::nat_lit 27::nat_lit 28::nat_lit 29::nat_lit 32::nat_lit 33::nat_lit 34::nat_lit 37::nat_lit 38::nat_lit 39::nat_lit 46::nat_lit 47::nat_lit 48::nat_lit 49::nat_lit 52::nat_lit 59::nat_lit 61::nat_lit 62::nat_lit 64::nat_lit 65::nat_lit 66::nat_lit 67::nat_lit 68::nat_lit 71::nat_lit 78::nat_lit 80::nat_lit 81::nat_lit 83::nat_lit 84::nat_lit 85::nat_lit 86::nat_lit 87::nat_lit 90::nat_lit 97::nat_lit 99::nat_lit 100::nat_lit 102::nat_lit 103::nat_lit 104::nat_lit 105::nat_lit 106::nat_lit 109::nat_lit 111::nat_lit 112::nat_lit 114::nat_lit 115::nat_lit 116::nat_lit 118::nat_lit 119::nat_lit 121::nat_lit 122::nat_lit 123::nat_lit 126::nat_lit 127::nat_lit 128::nat_lit 131::nat_lit 132::nat_lit 133::nat_lit 136::nat_lit 137::nat_lit 138::nat_lit 139::nat_lit 141::nat_lit 142::nat_lit 144::nat_lit 145::nat_lit 146::nat_lit 149::nat_lit 150::nat_lit 151::nat_lit 154::nat_lit 155::nat_lit 156::nat_lit 159::nat_lit 160::nat_lit 161::nat_lit 164::nat_lit 165::nat_lit 166::nat_lit 169::nat_lit 170::nat_lit 171::nat_lit 174::nat_lit 175::nat_lit 176::nat_lit 179::nat_lit 180::nat_lit 181::nat_lit 183::nat_lit 184::nat_lit 186::nat_lit 187::nat_lit 188::nat_lit 190::nat_lit 191::nat_lit 193::nat_lit 194::nat_lit 195::nat_lit 198::nat_lit 199::nat_lit 200::nat_lit 202::nat_lit 203::nat_lit 205::nat_lit 206::nat_lit 207::nat_lit 209::nat_lit 210::nat_lit 212::nat_lit 213::nat_lit 214::nat_lit 217::nat_lit 218::nat_lit 219::nat_lit 221::nat_lit 222::nat_lit 224::nat_lit 225::nat_lit 226::nat_lit 228::nat_lit 229::nat_lit 231::nat_lit 232::nat_lit 233::nat_lit 235::nat_lit 236::nat_lit 238::nat_lit 239::nat_lit 240::nat_lit 242::nat_lit 243::nat_lit 245::nat_lit 246::nat_lit 247::nat_lit 250::nat_lit 251::nat_lit 252::nat_lit 255::nat_lit 256::[]
theorem hE:∀P,hA=(hK P).map (·.1):=fun _=>by kernel_rfl
def hQ:PySem.Program:={ PySem.Challenge.pw_logloom_k43_whole_fewest_shown with
 main:={ PySem.Challenge.pw_logloom_k43_whole_fewest_shown.main with
  body:=[top 1,top 3,top 4,top 5,top 7,top 8,top 9,top 10,top 12,top 13,top 14,top 15,top 16,top 17,top 20,top 21,top 23,top 24,top 26,top 27,top 28,top 30,top 31,top 32,top 33,top 34,top 35,top 36,top 37,top 38,top 39,top 40,top 41] } }
abbrev hH:W.Hook:=W.kHook hK hA hE
abbrev hX (s:PySem.Shared):Bool:=W.xlAt hQ [] s&&
 W.recOk (W.RowW.records (W.OpenRow.toRowW (W.OpenLaw.row PySem.Challenge.rw_logloom_k43_whole_fewest_shown))) s
set_option maxHeartbeats 0
noncomputable abbrev hR (w:PySem.World) (o:PySem.OsState):=HT.runQ PySem.Challenge.pw_logloom_k43_whole_fewest_shown w 3814 (HT.at0 w o) (W.topStub PySem.Challenge.pw_logloom_k43_whole_fewest_shown)
open PySem PySem.W in
theorem hL2:∀w o,(hR w o).map (fun b=>W.Fast.tw4187177175401517315 hQ [PySem.Str.ofString "read_off"] (importedModules (PySem.Challenge.pw_logloom_k43_whole_fewest_shown).main.body) hX true b.abs)=some (W.openGood hQ [PySem.Str.ofString "read_off"]):=fun w o=>by kernel_rfl
theorem hL1:∀w o,(hR w o).map (fun b=>HT.kept PySem.Challenge.pw_logloom_k43_whole_fewest_shown w.params b.abs)=some true:=fun w o=>by kernel_rfl
theorem hL3:∀w o,(hR w o).map (fun b=>hH.obs b.abs)=some (hH.val w):=fun w o=>by kernel_rfl
theorem hL:W.LeftO PySem.Challenge.pw_logloom_k43_whole_fewest_shown hQ [PySem.Str.ofString "read_off"] hX hH.obs hH.val 3814:=HT.left3 rfl rfl (fun _=>rfl) hL1 hL2 hL3
set_option maxHeartbeats 4000000
end BG
namespace L2
open PySem PySem.Spec PyProof.Rows
abbrev Key:=Sum Int Str
def keyIs:Key->Value->Bool
 |.inl k,v=>Value.isInt k v
 |.inr x,v=>Value.isStrOf x v
def keyH (w:World):Key->Int
 |.inl k=>hashInt k
 |.inr x=>hashStr w x
theorem keyIs_shape:∀{k:Key} {v:Value},keyIs k v=true->(∃i t,k=Sum.inl i/\v=Value.int i t)\/(∃x t,k=Sum.inr x/\v=Value.str x t)
 |.inl i,v,h=>by
  obtain⟨t,e⟩:=Value.isInt_shape (k:=i) (v:=v) h
  exact .inl ⟨i,t,rfl,e⟩
 |.inr x,v,h=>by
  obtain⟨t,e⟩:=Value.isStrOf_shape (x:=x) (v:=v) h
  exact .inr ⟨x,t,rfl,e⟩
theorem key_ll (a b:Int):decide ((Sum.inl a:Key)=Sum.inl b)=(a==b):=by
 by_cases e:a=b
 ·subst e;simp
 ·have h:¬(Sum.inl a:Key)=Sum.inl b:=fun q=>e (Sum.inl.inj q)
  rw[decide_eq_false h]
  exact(beq_eq_false_iff_ne.mpr e).symm
theorem key_rr (a b:Str):decide ((Sum.inr a:Key)=Sum.inr b)=decide (a=b):=by
 by_cases e:a=b
 ·subst e;simp
 ·have h:¬(Sum.inr a:Key)=Sum.inr b:=fun q=>e (Sum.inr.inj q)
  rw[decide_eq_false h,decide_eq_false e]
theorem key_lr (a:Int)(b:Str):decide ((Sum.inl a:Key)=Sum.inr b)=false:=decide_eq_false (fun q=>nomatch q)
theorem key_rl (a:Str)(b:Int):decide ((Sum.inr a:Key)=Sum.inl b)=false:=decide_eq_false (fun q=>nomatch q)
def mixKind (prog:Program)(w:World):PySem.KeyKind prog w Key where
 is:=keyIs
 hash:=keyH w
 inj:=fun v a b ha hb=>by
  rcases keyIs_shape ha with⟨i,t,rfl,rfl⟩|⟨x,t,rfl,rfl⟩
  ·rcases keyIs_shape hb with⟨j,u,rfl,e⟩|⟨y,u,rfl,e⟩
   ·injection e with e1 _;rw[e1]
   ·exact nomatch e
  ·rcases keyIs_shape hb with⟨j,u,rfl,e⟩|⟨y,u,rfl,e⟩
   ·exact nomatch e
   ·injection e with e1 _;rw[e1]
 byValue:=fun k v h=>by
  rcases keyIs_shape h with⟨i,t,rfl,rfl⟩|⟨x,t,rfl,rfl⟩<;>rfl
 pyHash:=fun hv h=>by
  rcases keyIs_shape hv with⟨i,t,rfl,rfl⟩|⟨x,t,rfl,rfl⟩
  ·exact wpAny_pyHash_int h
  ·exact wpAny_pyHash_str h
 eqBool:=fun hu hv h=>by
  rcases keyIs_shape hu with⟨i,t,rfl,rfl⟩|⟨x,t,rfl,rfl⟩
  ·rcases keyIs_shape hv with⟨j,u,rfl,rfl⟩|⟨y,u,rfl,rfl⟩
   ·rw[key_ll] at h;exact wpAny_eqBool_int h
   ·rw[key_lr] at h;exact SeqAt.EqAt.int_str i t y u _ _ _ _ h
  ·rcases keyIs_shape hv with⟨j,u,rfl,rfl⟩|⟨y,u,rfl,rfl⟩
   ·rw[key_rl] at h;exact SeqAt.EqAt.str_int x t j u _ _ _ _ h
   ·rw[key_rr] at h;exact wpAny_eqBool_str h
 «strs»:=fun k x t v h=>by
  rcases keyIs_shape h with⟨i,u,rfl,e⟩|⟨y,u,rfl,e⟩
  ·exact nomatch e
  ·injection e with e1 _
   subst e1
   cases v<;>rfl
end L2
namespace L2
open PySem PySem.Spec PyProof.Rows
inductive V where
 |non|bl (b:Bool)|int (i:Int)|str (x:Str)|byt (b:Array UInt8)|flt (b:UInt64)|ref (a:Addr)|ty (n:String)
 deriving DecidableEq
def RelV:V->Value->Prop
 |.non,u=>u=Value.none
 |.bl b,u=>u=Value.bool b
 |.int i,u=>∃t,u=Value.int i t
 |.str x,u=>∃t,u=Value.str x t
 |.byt b,u=>∃t,u=Value.bytes b t
 |.flt b,u=>∃t,u=Value.float b t
 |.ref a,u=>u=Value.ref a
 |.ty n,u=>u=Value.type n
abbrev Vals:List V->List Value->Prop:=Paired RelV
theorem Vals.length {xs:List V}{us:List Value}(r:Vals xs us):xs.length=us.length:=Paired.length r
theorem Vals.get:∀{xs:List V} {us:List Value} {i:Nat} {x:V},Vals xs us->xs[i]?=some x->∃u,us[i]?=some u/\RelV x u
 |_,_,_,_,.nil,e=>by simp at e
 |_,_,0,_,.cons r _,e=>by simp at e;subst e;exact⟨_,rfl,r⟩
 |_,_,i+1,x,.cons _ t,e=>by
  obtain⟨u,h1,h2⟩:=Vals.get (i:=i) (x:=x) t (by simpa using e)
  exact⟨u,by simpa using h1,h2⟩
theorem Vals.append:∀{xs ys:List V} {us ws:List Value},Vals xs us->Vals ys ws->Vals (xs++ys) (us++ws)
 |_,_,_,_,.nil,s=>s
 |_,_,_,_,.cons r t,s=>.cons r (Vals.append t s)
theorem Vals.take:∀{xs:List V} {us:List Value} (n:Nat),Vals xs us->Vals (xs.take n) (us.take n)
 |_,_,0,_=>.nil
 |_,_,_+1,.nil=>.nil
 |_,_,n+1,.cons r t=>.cons r (Vals.take n t)
theorem Vals.drop:∀{xs:List V} {us:List Value} (n:Nat),Vals xs us->Vals (xs.drop n) (us.drop n)
 |_,_,0,r=>r
 |_,_,_+1,.nil=>.nil
 |_,_,n+1,.cons _ t=>Vals.drop n t
def RelO:Option V->Option Value->Prop
 |some v,some u=>RelV v u
 |none,none=>True
 |_,_=>False
def KV {κ:Type}:List (κ×V)->List (κ×Value)->Prop:=Paired fun(p:κ×V) (q:κ×Value)=>p.1=q.1/\RelV p.2 q.2
def kV:Key->V
 |.inl i=>.int i
 |.inr x=>.str x
inductive HO where
 |lst (xs:List V)
 |tup (xs:List V)
 |dK (kvs:List (Key×V))|dT (kvs:List (List Key×V))
 |set (S:Int->Bool) (n:Nat)
 |ins (C dx:Addr) (fs:List (Str×V))
 |own (x:Addr)
 |xd (fs:List (Str×V))
 |met (f x:Addr)
 |rng (lo hi:Int)
 |frz (o:Obj) (u:HO)
 |tbl (ps:Array Value)
 |ext (φ:Heap->Prop)
abbrev Hp:=Addr->Option HO
def upd (H:Hp)(a:Addr)(o:HO):Hp:=fun b=>if b=a then some o else H b
theorem upd_same {H:Hp}{a:Addr}{o:HO}:upd H a o a=some o:=by unfold upd;rw[if_pos rfl]
theorem upd_ne {H:Hp}{a b:Addr}{o:HO}(h:b≠a):upd H a o b=H b:=by unfold upd;rw[if_neg h]
theorem upd_upd {H:Hp}{a:Addr}{o u:HO}:upd (upd H a o) a u=upd H a u:=by
 funext b;unfold upd;split<;>rfl
theorem ne_of {H:Hp}{a b:Addr}{o u:HO}(h:H a=some o)(h':H b=some u)(d:o≠u):a≠b:=by
 intro e;subst e;rw[h] at h';exact d (Option.some.inj h')
theorem ne_of_none {H:Hp}{a b:Addr}{o:HO}(h:H a=some o)(h':H b=none):a≠b:=by
 intro e;subst e;rw[h] at h';cases h'
section
variable (P:Program) (w:World)
def ObjOk (H:Hp)(h:Heap)(a:Addr):HO->Prop
 |.lst xs=>xs.length<=sizeLine/\∃(its:List Value) (n:Nat),Vals xs its/\h.get? a=some { cls:=.type "list",data:=.seq its.toArray n }
 |.tup xs=>xs.length<=sizeLine/\∃its:List Value,Vals xs its/\IsTup h a its.toArray
 |.dK kvs=>kvs.length<=sizeLine/\(a==sysModules)=false/\∃vs,KV kvs vs/\h.DictOf (mixKind P w) a vs
 |.dT kvs=>kvs.length<=sizeLine/\(a==sysModules)=false/\∃xs:List (List Key×Addr×Value),
   Paired (fun(p:List Key×V) (q:List Key×Addr×Value)=>p.1=q.1/\H q.2.1=some (.tup (p.1.map kV))/\RelV p.2 q.2.2) kvs xs∧
   ∃o es ep,h.get? a=some o/\o.ExactDict/\o.data=.dict es ep/\es.toList=xs.map (entryOfKey (tupleKind (mixKind P w)))/\(xs.map (·.1)).Nodup
 |.set S n=>h.SetOf (intKind P w) a S n
 |.ins C dx fs=>H dx=some (.own a)/\fs.length<=1000/\dx≠a/\h.get? a=some (W.instObj C dx)∧
   ∃mA,h.Ns1 dx mA/\(∀f,RelO (fs.lookup f) (mA f))/\PySem.Within mA (fs.map (·.1))
 |.own _=>∃o,h.get? a=some o
 |.xd fs=>∃mA,h.Ns1 a mA/\∀f,RelO (fs.lookup f) (mA f)
 |.rng lo hi=>∃t u v,h.get? a=some { cls:=.type "range",data:=.fields #[.int lo t,.int hi u,.int 1 v] }
 |.frz o u=>h.get? a=some o/\ObjOk H h a u
 |.tbl ps=>h.get? a=some { cls:=.none,data:=.fields ps }
 |.met f x=>h.get? a=some (W.methodObj (.ref f) (.ref x))
 |.ext φ=>φ h/\(∃o,h.get? a=some o)/\∀h1 h2:Heap,φ h1->(∀o,h1.get? a=some o->h2.get? a=some o)->φ h2
def HOk (H:Hp)(h:Heap):Prop:=∀a o,H a=some o->ObjOk P w H h a o
end
section
variable {P:Program} {w:World} {H H':Hp} {h h':Heap} {a:Addr} {o:HO}
theorem ObjOk.lt (x:ObjOk P w H h a o):a<h.objs.size:=by
 cases o with
 |lst xs=>obtain⟨_,_,_,_,e⟩:=x;exact Heap.lt_size e
 |tup xs=>obtain⟨_,_,_,p⟩:=x;exact p.lt
 |dK kvs=>obtain⟨_,_,_,_,o,_,_,e,_⟩:=x;exact Heap.lt_size e
 |dT kvs=>obtain⟨_,_,_,_,o,_,_,e,_⟩:=x;exact Heap.lt_size e
 |set S n=>obtain⟨o,_,_,_,e,_⟩:=x;exact Heap.lt_size e
 |ins C dx fs=>obtain⟨_,_,_,e,_⟩:=x;exact Heap.lt_size e
 |own y=>obtain⟨_,e⟩:=x;exact Heap.lt_size e
 |xd fs=>obtain⟨_,⟨_,_,_,e,_⟩,_⟩:=x;exact Heap.lt_size e
 |rng lo hi=>obtain⟨_,_,_,e⟩:=x;exact Heap.lt_size e
 |frz ob u=>obtain⟨e,_⟩:=x;exact Heap.lt_size e
 |tbl ps=>exact Heap.lt_size (show h.get? a=some _ from x)
 |met f y=>exact Heap.lt_size (show h.get? a=some _ from x)
 |ext φ=>obtain⟨_,⟨_,e⟩,_⟩:=x;exact Heap.lt_size e
theorem Paired.mapP {α β:Type}{F G:α->β->Prop}:∀{l₁:List α} {l₂:List β},Paired F l₁ l₂->(∀a b,F a b->G a b)->Paired G l₁ l₂
 |_,_,.nil,_=>.nil
 |_,_,.cons r t,f=>.cons (f _ _ r) (Paired.mapP t f)
theorem ObjOk.stay (x:ObjOk P w H h a o)(k:∀b u,(b=a\/H b=some (.own a))->h.get? b=some u->h'.get? b=some u)
  (ho:∀b,H b=some (.own a)->H' b=some (.own a)) (ht:∀b xs,H b=some (.tup xs)->H' b=some (.tup xs)):ObjOk P w H' h' a o:=by
 induction o with
 |lst xs=>obtain⟨z,its,n,r,e⟩:=x;exact⟨z,its,n,r,k _ _ (.inl rfl) e⟩
 |tup xs=>obtain⟨z,its,r,ob,e,c⟩:=x;exact⟨z,its,r,ob,k _ _ (.inl rfl) e,c⟩
 |dK kvs=>obtain⟨z,y,vs,r,ob,es,ep,e,c⟩:=x;exact⟨z,y,vs,r,ob,es,ep,k _ _ (.inl rfl) e,c⟩
 |dT kvs=>
  obtain⟨z,y,xs,r,ob,es,ep,e,c⟩:=x
  exact⟨z,y,xs,Paired.mapP r fun p q z=>⟨z.1,ht _ _ z.2.1,z.2.2⟩,ob,es,ep,k _ _ (.inl rfl) e,c⟩
 |set S n=>obtain⟨ob,es,ep,t,e,c⟩:=x;exact⟨ob,es,ep,t,k _ _ (.inl rfl) e,c⟩
 |ins C dx fs=>
  obtain⟨d,z,ne,e,mA,⟨od,es,ep,e2,c⟩,r⟩:=x
  exact⟨ho _ d,z,ne,k _ _ (.inl rfl) e,mA,⟨od,es,ep,k _ _ (.inr d) e2,c⟩,r⟩
 |own y=>obtain⟨ob,e⟩:=x;exact⟨ob,k _ _ (.inl rfl) e⟩
 |xd fs=>obtain⟨mA,⟨od,es,ep,e,c⟩,r⟩:=x;exact⟨mA,⟨od,es,ep,k _ _ (.inl rfl) e,c⟩,r⟩
 |rng lo hi=>obtain⟨t,u,v,e⟩:=x;exact⟨t,u,v,k _ _ (.inl rfl) e⟩
 |frz ob u ih=>obtain⟨e,q⟩:=x;exact⟨k _ _ (.inl rfl) e,ih q⟩
 |tbl ps=>
  have e:h.get? a=some { cls:=.none,data:=.fields ps }:=x
  show h'.get? a=some { cls:=.none,data:=.fields ps }
  exact k a _ (.inl rfl) e
 |met f y=>
  have e:h.get? a=some (W.methodObj (.ref f) (.ref y)):=x
  show h'.get? a=some (W.methodObj (.ref f) (.ref y))
  exact k a _ (.inl rfl) e
 |ext φ=>obtain⟨p,⟨o,e⟩,st⟩:=x;exact⟨st _ _ p fun o q=>k _ _ (.inl rfl) q,⟨o,k _ _ (.inl rfl) e⟩,st⟩
theorem HOk.lt (x:HOk P w H h)(e:H a=some o):a<h.objs.size:=(x a o e).lt
theorem HOk.fresh (x:HOk P w H h)(e:h.objs.size<=a):H a=none:=by
 cases q:H a with
 |none=>rfl
 |some u=>exact absurd (Nat.lt_of_lt_of_le (x.lt q) e) (Nat.lt_irrefl _)
theorem HOk.kept (x:HOk P w H h)(k:∀b u,h.get? b=some u->h'.get? b=some u):HOk P w H h':=fun a o e=>
 (x a o e).stay (fun b u _ q=>k b u q) (fun _ q=>q) fun _ _ q=>q
theorem HOk.laid (x:HOk P w H h)(k:∀b u,h.get? b=some u->h'.get? b=some u)(hp:h.objs.size<=a)(new:ObjOk P w (upd H a o) h' a o):HOk P w (upd H a o) h':=fun b u e=>by
 have hn:=x.fresh hp
 by_cases hb:b=a
 ·subst hb;rw[upd_same] at e;cases e;exact new
 ·rw[upd_ne hb] at e
  exact(x b u e).stay (fun c v _ q=>k c v q) (fun c q=>by rw[upd_ne (ne_of_none q hn)];exact q) fun c xs q=>by rw[upd_ne (ne_of_none q hn)];exact q
end
def Rd (H:Hp)(a:Addr)(u:HO):Prop:=H a=some u\/∃o,H a=some (.frz o u)
theorem Rd.ok {P:Program}{w:World}{H:Hp}{h:Heap}{a:Addr}{u:HO}(r:Rd H a u)(x:HOk P w H h):ObjOk P w H h a u:=by
 rcases r with r|⟨o,r⟩
 ·exact x a u r
 ·obtain⟨_,q⟩:=x a _ r
  exact q
def Mut:Option HO->Prop
 |some (.lst _)=>True
 |some (.dK _)=>True
 |some (.dT _)=>True
 |some (.set _ _)=>True
 |some (.ins _ _ _)=>True
 |some (.ext _)=>True
 |_=>False
section
variable {P:Program} {w:World} {H:Hp} {h h':Heap} {x e:Addr} {o':HO}
theorem HOk.write (ok:HOk P w H h)(mu:Mut (H x))(he:e=x\/H e=some (.own x))(k:∀b u,b≠e->h.get? b=some u->h'.get? b=some u)(heo:∃u,h'.get? e=some u)
  (new:ObjOk P w (upd H x o') h' x o'):HOk P w (upd H x o') h':=fun b u q=>by
 have nown:∀c y,H c=some (.own y)->c≠x:=fun c y r z=>by subst z;rw[r] at mu;exact mu
 have ntup:∀c xs,H c=some (.tup xs)->c≠x:=fun c xs r z=>by subst z;rw[r] at mu;exact mu
 by_cases hb:b=x
 ·subst hb;rw[upd_same] at q;cases q;exact new
 ·rw[upd_ne hb] at q
  by_cases hbe:b=e
  ·have q':H b=some (.own x):=by
    rcases he with z|z
    ·exact absurd (hbe.trans z) hb
    ·rw[hbe];exact z
   rw[q] at q';cases q'
   obtain⟨v,hv⟩:=heo
   exact⟨v,by rw[hbe];exact hv⟩
  ·refine(ok b u q).stay (fun c v hc r=>k c v ?_ r) (fun c r=>by rw[upd_ne (nown c b r)];exact r) fun c xs r=>by rw[upd_ne (ntup c xs r)];exact r
   rcases hc with rfl|hc
   ·exact hbe
   ·rintro rfl
    rcases he with z|z
    ·exact nown c b hc z
    ·rw[hc] at z;cases z;exact hb rfl
end
structure Un (fs ex:List Addr)(H H':Hp)(h h':Heap):Prop where
 keep:∀b o,h.get? b=some o->H b=none->b∉fs->b∉ex->h'.get? b=some o
 slot:∀b o,h.get? b=some o->H b=none->b∈fs->b∉ex->∃sl,h'.get? b=some { o with slots:=sl }
 free:∀b o,h.get? b=some o->H b=none->b∉ex->H' b=none
 there:∀b o,h.get? b=some o->b∉ex->∃o',h'.get? b=some o'
 tups:∀b xs,H b=some (.tup xs)->H' b=some (.tup xs)
 frzs:∀b o u,H b=some (.frz o u)->H' b=some (.frz o u)
 tbls:∀b ps,H b=some (.tbl ps)->∃more,H' b=some (.tbl (ps++more))
section
variable {fs fs' ex ex':List Addr} {H H1 H2:Hp} {h h1 h2 h':Heap} {a x e:Addr} {o:HO}
theorem Un.any (u:Un fs ex H H1 h h1){b:Addr}{ob:Obj}(q:h.get? b=some ob)(n:H b=none)(hx:b∉ex):∃sl,h1.get? b=some { ob with slots:=sl }:=by
 by_cases hb:b∈fs
 ·exact u.slot b ob q n hb hx
 ·exact⟨ob.slots,u.keep b ob q n hb hx⟩
theorem Un.kept (k:∀b u,h.get? b=some u->h'.get? b=some u):Un fs ex H H h h':=
 ⟨fun b ob q _ _ _=>k b ob q,fun b ob q _ _ _=>⟨ob.slots,k b ob q⟩,fun _ _ _ n _=>n,fun b ob q _=>⟨ob,k b ob q⟩,fun _ _ q=>q,fun _ _ _ q=>q,fun _ ps q=>⟨#[],by rw[q];simp⟩⟩
theorem Un.refl:Un fs ex H H h h:=Un.kept fun _ _ q=>q
theorem Un.laid (k:∀b u,h.get? b=some u->h'.get? b=some u)(hp:h.objs.size<=a)(hn:H a=none):Un fs ex H (upd H a o) h h' where
 keep:=fun b u q _ _ _=>k b u q
 slot:=fun b u q _ _ _=>⟨u.slots,k b u q⟩
 free:=fun b u q n _=>by rw[upd_ne (Nat.ne_of_lt (Nat.lt_of_lt_of_le (Heap.lt_size q) hp))];exact n
 there:=fun b u q _=>⟨u,k b u q⟩
 tups:=fun b xs q=>by rw[upd_ne (ne_of_none q hn)];exact q
 frzs:=fun b u xs q=>by rw[upd_ne (ne_of_none q hn)];exact q
 tbls:=fun b ps q=>⟨#[],by rw[upd_ne (ne_of_none q hn),q];simp⟩
theorem Un.write (mu:Mut (H x))(he:e=x\/H e=some (.own x))(k:∀b u,b≠e->h.get? b=some u->h'.get? b=some u)(heo:∃u,h'.get? e=some u):Un fs ex H (upd H x o) h h':=by
 have hx:∀b,H b=none->b≠x:=fun b n z=>by subst z;rw[n] at mu;exact mu
 have hb:∀b,H b=none->b≠e:=fun b n z=>by
  subst z
  rcases he with r|r
  ·exact hx b n r
  ·rw[n] at r;cases r
 have hm:∀b u,H b=some u->¬Mut (some u)->b≠x:=fun b u q nm z=>by subst z;rw[q] at mu;exact nm mu
 refine⟨fun b u q n _ _=>k b u (hb b n) q,fun b u q n _ _=>⟨u.slots,k b u (hb b n) q⟩,fun b u q n _=>by rw[upd_ne (hx b n)];exact n,fun b u q _=>?_,
  fun b xs q=>by rw[upd_ne (hm b _ q fun z=>z)];exact q,fun b u xs q=>by rw[upd_ne (hm b _ q fun z=>z)];exact q,fun b ps q=>⟨#[],by rw[upd_ne (hm b _ q fun z=>z),q];simp⟩⟩
 by_cases hbe:b=e
 ·subst hbe;exact heo
 ·exact⟨u,k b u hbe q⟩
end
def trk (h:Heap)(H:Hp):List Addr:=(List.range h.objs.size).filter fun a=>(H a).isSome
def hidT (h:Heap)(H:Hp):Heap:=W.hideAll h (trk h H)
theorem hidT_size (h:Heap)(H:Hp):(hidT h H).objs.size=h.objs.size:=W.hideAll_size _ _
theorem hidT_get {h:Heap}{H:Hp}{b:Addr}{o:Obj}(e:h.get? b=some o)(n:H b=none):(hidT h H).get? b=some o:=
 W.hideAll_get _ e fun hm=>by
  have q:(H b).isSome=true:=(List.mem_filter.mp hm).2
  rw[n] at q;simp at q
theorem of_hidT {h:Heap}{H:Hp}{b:Addr}{o:Obj}(e:(hidT h H).get? b=some o):h.get? b=some o/\H b=none:=by
 have e':h.get? b=some o:=W.of_hideAll (trk h H) e
 refine⟨e',?_⟩
 cases q:H b with
 |none=>rfl
 |some x=>
  have hm:b∈trk h H:=List.mem_filter.mpr ⟨List.mem_range.mpr (Heap.lt_size e'),by simp[q]⟩
  have z:(hidT h H).get? b=none:=W.hideAll_none (trk h H) hm
  rw[z] at e;cases e
end L2
namespace L2
open PySem PySem.Spec PyProof.Rows
structure Mod (K:W.Frag)(mg:Str->Option Value)(base:Heap):Prop where
 kin:K.In base
 glob:base.Ns mainGlobals mg
 blt:∃mb,base.Ns builtinsNs mb/\∀x:Str,x≠"__name__"->mb x=bootBuiltins x
 nolimit:base.NoLimit
structure Cx where
 prog:Program
 w:World
 K:W.Frag
 mg:Str->Option Value
 base:Heap
 A:Around
 N:List Str
 s₀:Shared
 H₀:Hp
 env:Env
 outer:List Env
 stack:List Env
 ex:List Addr
 fn:Str->Bool
 calm:Bool
 pn:List (Addr×Obj)
 xe:Value->Shared->Prop
def frs (l:List Env):List Addr:=l.filterMap (·.frame)
abbrev Cx.fs (X:Cx):List Addr:=frs X.outer
def Vis (sc:Scope)(x:Str):Prop:=sc.names.lookup x=some .local\/sc.names.lookup x=some .cell\/sc.names.lookup x=some .free
def Loc (sc:Scope)(x:Str):Prop:=sc.names.lookup x=some .local\/sc.names.lookup x=some .cell
def Look (env:Env)(h:Heap)(m:Str->Option Value)(x:Str)(u:Value):Prop:=
 (env.kindOf x=some .local/\m x=some u)\/((env.kindOf x=some .cell\/env.kindOf x=some .free)/\∃c,env.cells.lookup x=some c/\h.IsCell c (some u))
structure Cx.Ok (X:Cx):Prop where
 mod:Mod X.K X.mg X.base
 kind:X.env.scope.kind=.function
 glob:X.env.globals=mainGlobals
 blt:X.env.builtins=builtinsNs
 above:X.s₀.heap.objs.size<=X.env.locals
 inj:∀x y c,X.env.cells.lookup x=some c->X.env.cells.lookup y=some c->x=y
 has:∀x,(X.env.kindOf x=some .cell\/X.env.kindOf x=some .free)->∃c,X.env.cells.lookup x=some c
 cab:∀x c,X.fn x=true->X.env.cells.lookup x=some c->X.s₀.heap.objs.size<=c
 hd:X.calm=true->X.A.handled=none
 frames:X.A.frames=some X.stack
 stk:X.stack=X.outer\/(X.stack=X.env::X.outer/\X.env.frame=some X.env.locals)
 exf:∀b∈X.ex,b≠X.env.locals/\∀x c,X.env.cells.lookup x=some c->c≠b
 bs:∀b o,X.base.get? b=some o->X.s₀.heap.get? b=some o/\X.H₀ b=none
 bsz:X.base.objs.size<=X.s₀.heap.objs.size
 noex:∀b o,X.base.get? b=some o->b∉X.ex
 exfs:∀b∈X.ex,b∉X.fs
 funs:X.s₀.heap.FunFrames X.base X.outer
 frf:∀b∈X.fs,X.H₀ b=none
structure Inv (X:Cx)(pins:List (Addr×Obj))(σ:List (Option V))(H:Hp)(s:Shared):Prop where
 ok:X.Ok
 os:s.os=X.s₀.os
 bare:AllBare s.gens
 base:Un X.fs X.ex X.H₀ H X.s₀.heap s.heap
 loc:∃m,s.heap.Ns X.env.locals m/\∀(i:Nat) (x:Str) (v:V),X.N[i]?=some x->σ[i]?=some (some v)->Vis X.env.scope x->∃u,RelV v u/\Look X.env s.heap m x u
 cell:∀x c,X.env.cells.lookup x=some c->∃v,s.heap.IsCell c v
 free:H X.env.locals=none
 freeC:∀x c,X.env.cells.lookup x=some c->H c=none
 pin:∀p∈X.pn++pins,s.heap.get? p.1=some p.2/\H p.1=none/\p.1≠X.env.locals/\p.1∉X.fs/\∀v,p.2.data≠.cell v
 hok:HOk X.prog X.w H s.heap
 len:σ.length=X.N.length
section
variable {X:Cx} {pins:List (Addr×Obj)} {σ:List (Option V)} {H H':Hp} {s:Shared} {h':Heap}
theorem Cx.Ok.nofr (ok:X.Ok){b:Addr}{o:Obj}(e:X.base.get? b=some o):b∉X.fs:=fun hb=>by
 have:=(ok.funs.mem hb).1
 rw[e] at this;cases this
theorem Inv.bs (I:Inv X pins σ H s):∀b o,X.base.get? b=some o->s.heap.get? b=some o/\H b=none:=fun b o e=>
 ⟨I.base.keep b o (I.ok.bs b o e).1 (I.ok.bs b o e).2 (I.ok.nofr e) (I.ok.noex b o e),I.base.free b o (I.ok.bs b o e).1 (I.ok.bs b o e).2 (I.ok.noex b o e)⟩
theorem Inv.bk (I:Inv X pins σ H s):∀b o,X.base.get? b=some o->s.heap.get? b=some o:=fun b o e=>(I.bs b o e).1
theorem Inv.mod (I:Inv X pins σ H s):Mod X.K X.mg X.base:=I.ok.mod
theorem Inv.kIn (I:Inv X pins σ H s):X.K.In s.heap:=I.ok.mod.kin.keeps I.bk
theorem Inv.lt (I:Inv X pins σ H s):X.env.locals<s.heap.objs.size:=let ⟨_,hn,_⟩:=I.loc;hn.lt
theorem Inv.sz (I:Inv X pins σ H s):X.s₀.heap.objs.size<=s.heap.objs.size:=Nat.le_trans I.ok.above (Nat.le_of_lt I.lt)
theorem Inv.nofs (I:Inv X pins σ H s){a:Addr}(h:s.heap.objs.size<=a):a∉X.fs:=fun hb=>by
 obtain⟨_,o,ho,_⟩:=I.ok.funs.mem hb
 exact absurd (Nat.lt_of_lt_of_le (Heap.lt_size ho) (Nat.le_trans I.sz h)) (Nat.lt_irrefl _)
theorem Inv.cne (I:Inv X pins σ H s):∀x c,X.env.cells.lookup x=some c->c≠X.env.locals:=fun x c e z=>by
 obtain⟨v,o,ho,hd⟩:=I.cell x c e
 obtain⟨m,⟨o',es,ep,ho',hd',_⟩,_⟩:=I.loc
 rw[z,ho'] at ho;cases ho;rw[hd'] at hd;cases hd
theorem Inv.funs (I:Inv X pins σ H s):s.heap.FunFrames X.base X.outer:=by
 have all:∀(l:List Env),(∀b∈frs l,b∈X.fs)->X.s₀.heap.FunFrames X.base l->s.heap.FunFrames X.base l:=by
  intro l
  induction l with
  |nil=>intro _ _;trivial
  |cons env r ih=>
   intro hs hl
   obtain⟨hk,⟨L,o,hf,hn,ho,hd⟩,hr⟩:=hl
   have hL:L∈X.fs:=hs L (by unfold frs;rw[List.filterMap_cons,hf];exact List.mem_cons_self)
   obtain⟨sl,e⟩:=I.base.slot L o ho (I.ok.frf L hL) hL fun z=>I.ok.exfs L z hL
   exact⟨hk,⟨L,_,hf,hn,e,hd⟩,ih (fun b hb=>hs b (by unfold frs;rw[List.filterMap_cons,hf];exact List.mem_cons_of_mem _ hb)) hr⟩
 exact all X.outer (fun _ hb=>hb) I.ok.funs
theorem Inv.stack (I:Inv X pins σ H s):s.heap.FunFrames X.base X.stack:=by
 rcases I.ok.stk with e|⟨e,hf⟩
 ·rw[e];exact I.funs
 ·rw[e]
  obtain⟨m,hn,_⟩:=I.loc
  refine .cons (by rw[I.ok.kind];decide) hf hn ?_ I.funs
  exact Heap.get?_none_of_le (Nat.le_trans I.ok.bsz I.ok.above)
theorem Inv.stkSub (I:Inv X pins σ H s):∀b∈frs X.stack,b∈X.env.locals::X.fs:=fun b hb=>by
 rcases I.ok.stk with e|⟨e,hf⟩
 ·rw[e] at hb;exact List.mem_cons_of_mem _ hb
 ·rw[e] at hb
  unfold frs at hb
  rw[List.filterMap_cons,hf] at hb
  exact hb
theorem Inv.stkFree (I:Inv X pins σ H s):∀b∈frs X.stack,H b=none:=fun b hb=>by
 rcases List.mem_cons.mp (I.stkSub b hb) with e|hb
 ·rw[e];exact I.free
 ·obtain⟨_,o,ho,_⟩:=I.ok.funs.mem hb
  exact I.base.free b o ho (I.ok.frf b hb) fun z=>I.ok.exfs b z hb
theorem Inv.step {g':Array GenState}{t':Nat}{d':Drawn}{ch:List Addr}(I:Inv X pins σ H s)
  (hch:∀b∈ch,(b∈X.ex\/X.s₀.heap.objs.size<=b)/\b≠X.env.locals/\(∀x c,X.env.cells.lookup x=some c->c≠b)/\∀p∈X.pn++pins,p.1≠b)
  (keep:∀b o,b≠X.env.locals->b∉X.fs->b∉ch->s.heap.get? b=some o->H b=none->h'.get? b=some o)
  (slot:∀b o,b≠X.env.locals->b∈X.fs->b∉ch->s.heap.get? b=some o->H b=none->∃sl,h'.get? b=some { o with slots:=sl }) (free:∀b o,b∉ch->s.heap.get? b=some o->H b=none->H' b=none)
  (there:∀b o,b∉ch->s.heap.get? b=some o->∃o',h'.get? b=some o')
  (tups:∀b xs,H b=some (.tup xs)->H' b=some (.tup xs)) (frzs:∀b o u,H b=some (.frz o u)->H' b=some (.frz o u)) (tbls:∀b ps,H b=some (.tbl ps)->∃more,H' b=some (.tbl (ps++more)))
  (ns:∀m,s.heap.Ns X.env.locals m->h'.Ns X.env.locals m) (hok:HOk X.prog X.w H' h') (hg:AllBare g'):
  Inv X pins σ H' { s with heap:=h',gens:=g',drawn:=d',toks:=t' }:=by
 have neL:∀b o,X.s₀.heap.get? b=some o->b≠X.env.locals:=fun b o e=>Nat.ne_of_lt (Nat.lt_of_lt_of_le (Heap.lt_size e) I.ok.above)
 have neC:∀b o,X.s₀.heap.get? b=some o->b∉X.ex->b∉ch:=fun b o e hx hb=>by
  rcases(hch b hb).1 with z|z
  ·exact hx z
  ·exact absurd (Nat.lt_of_lt_of_le (Heap.lt_size e) z) (Nat.lt_irrefl _)
 have cellK:∀x c,X.env.cells.lookup x=some c->∀v,s.heap.IsCell c v->h'.IsCell c v:=fun x c e v ⟨o,ho,hd⟩=>by
  have nch:c∉ch:=fun z=>(hch c z).2.2.1 x c e rfl
  by_cases hc:c∈X.fs
  ·obtain⟨sl,q⟩:=slot c o (I.cne x c e) hc nch ho (I.freeC x c e)
   exact⟨_,q,hd⟩
  ·exact⟨o,keep c o (I.cne x c e) hc nch ho (I.freeC x c e),hd⟩
 refine⟨I.ok,I.os,hg,⟨fun b o e n hb hx=>?_,fun b o e n hb hx=>?_,fun b o e n hx=>?_,fun b o e hx=>?_,fun b xs e=>tups b xs (I.base.tups b xs e),fun b o xs e=>frzs b o xs (I.base.frzs b o xs e),fun b ps e=>?_⟩,?_,fun x c e=>?_,?_,fun x c e=>?_,fun p hp=>?_,hok,I.len⟩
 ·exact keep b o (neL b o e) hb (neC b o e hx) (I.base.keep b o e n hb hx) (I.base.free b o e n hx)
 ·obtain⟨sl,e1⟩:=I.base.slot b o e n hb hx
  obtain⟨sl',e2⟩:=slot b _ (neL b o e) hb (neC b o e hx) e1 (I.base.free b o e n hx)
  exact⟨sl',e2⟩
 ·obtain⟨o',e1⟩:=I.base.there b o e hx
  exact free b o' (neC b o e hx) e1 (I.base.free b o e n hx)
 ·obtain⟨o',e1⟩:=I.base.there b o e hx
  exact there b o' (neC b o e hx) e1
 ·obtain⟨m1,e1⟩:=I.base.tbls b ps e
  obtain⟨m2,e2⟩:=tbls b _ e1
  exact⟨m1++m2,by rw[e2,Array.append_assoc]⟩
 ·obtain⟨m,hn,hl⟩:=I.loc
  refine⟨m,ns m hn,fun i x v e1 e2 e3=>?_⟩
  obtain⟨u,r,l⟩:=hl i x v e1 e2 e3
  refine⟨u,r,?_⟩
  rcases l with l|⟨k,c,e,z⟩
  ·exact .inl l
  ·exact .inr ⟨k,c,e,cellK x c e _ z⟩
 ·obtain⟨v,z⟩:=I.cell x c e
  exact⟨v,cellK x c e v z⟩
 ·obtain⟨m,⟨o,_,_,ho,_⟩,_⟩:=I.loc
  exact free _ o (fun z=>(hch _ z).2.1 rfl) ho I.free
 ·obtain⟨v,o,ho,hd⟩:=I.cell x c e
  exact free c o (fun z=>(hch c z).2.2.1 x c e rfl) ho (I.freeC x c e)
 ·obtain⟨e,n,ne,nf,d⟩:=I.pin p hp
  have nch:p.1∉ch:=fun z=>(hch p.1 z).2.2.2 p hp rfl
  exact⟨keep p.1 p.2 ne nf nch e n,free p.1 p.2 nch e n,ne,nf,d⟩
theorem Inv.un {t':Nat}(I:Inv X pins σ H s)(u:Un X.fs [] H H' s.heap h')(hok:HOk X.prog X.w H' h'):Inv X pins σ H' { s with heap:=h',toks:=t' }:=by
 obtain⟨m,⟨o,es,ep,ho,r⟩,_⟩:=id I.loc
 obtain⟨sl,hL⟩:=u.any ho I.free (by simp)
 exact I.step (g':=s.gens) (d':=s.drawn) (ch:=[]) (fun _ z=>nomatch z) (fun b o _ hb _ e n=>u.keep b o e n hb (by simp)) (fun b o _ hb _ e n=>u.slot b o e n hb (by simp)) (fun b o _ e n=>u.free b o e n (by simp)) (fun b o _ e=>u.there b o e (by simp)) u.tups u.frzs u.tbls (fun m' hm=>by
  obtain⟨o',es',ep',ho',r'⟩:=hm
  rw[ho] at ho';cases ho'
  exact⟨_,es',ep',hL,r'⟩) hok I.bare
theorem Inv.call {g':Array GenState}{t':Nat}{d':Drawn}{ch:List Addr}(I:Inv X pins σ H s)(u:Un (frs X.stack) ch H H' s.heap h')(hok:HOk X.prog X.w H' h')(hg:AllBare g')
  (hch:∀b∈ch,(b∈X.ex\/X.s₀.heap.objs.size<=b)/\b≠X.env.locals/\(∀x c,X.env.cells.lookup x=some c->c≠b)/\∀p∈X.pn++pins,p.1≠b):
  Inv X pins σ H' { s with heap:=h',gens:=g',drawn:=d',toks:=t' }:=by
 obtain⟨m,⟨o,es,ep,ho,r⟩,_⟩:=id I.loc
 obtain⟨sl,hL⟩:=u.any ho I.free fun z=>(hch _ z).2.1 rfl
 exact I.step (ch:=ch) hch (fun b o hL hb hc e n=>u.keep b o e n (fun z=>(List.mem_cons.mp (I.stkSub b z)).elim hL hb) hc) (fun b o _ _ hc e n=>u.any e n hc) (fun b o hc e n=>u.free b o e n hc) (fun b o hc e=>u.there b o e hc) u.tups u.frzs u.tbls (fun m' hm=>by
  obtain⟨o',es',ep',ho',r'⟩:=hm
  rw[ho] at ho';cases ho'
  exact⟨_,es',ep',hL,r'⟩) hok hg
theorem Inv.turned {t':Nat}{it:Addr}(I:Inv X pins σ H s)(k:∀b o,b≠it->s.heap.get? b=some o->h'.get? b=some o)(hn:H it=none)(hL:it≠X.env.locals)
  (h1:it∈X.ex\/X.s₀.heap.objs.size<=it) (h2:∀x c,X.env.cells.lookup x=some c->c≠it) (h3:∀p∈X.pn++pins,p.1≠it):Inv X pins σ H { s with heap:=h',toks:=t' }:=by
 have nit:∀b u,H b=some u->b≠it:=fun b u e z=>by rw[z,hn] at e;cases e
 refine I.step (g':=s.gens) (d':=s.drawn) (ch:=[it]) (fun b hb=>?_) (fun b o _ _ hc e _=>k b o (fun z=>hc (by simp[z])) e) (fun b o _ _ hc e _=>⟨o.slots,k b o (fun z=>hc (by simp[z])) e⟩) (fun _ _ _ _ n=>n)
  (fun b o hc e=>⟨o,k b o (fun z=>hc (by simp[z])) e⟩) (fun _ _ e=>e) (fun _ _ _ e=>e) (fun b ps e=>⟨#[],by rw[e];simp⟩) (fun m hm=>?_) (fun b u e=>?_) I.bare
 ·have e:b=it:=by simpa using hb
  subst e
  exact⟨h1,hL,h2,h3⟩
 ·obtain⟨o,es,ep,ho,r⟩:=hm
  exact⟨o,es,ep,k _ o (Ne.symm hL) ho,r⟩
 ·refine(I.hok b u e).stay (fun c v hc q=>k c v ?_ q) (fun _ q=>q) fun _ _ q=>q
  rcases hc with z|z
  ·rw[z];exact nit b u e
  ·exact nit c _ z
theorem Inv.tok (I:Inv X pins σ H s)(t:Nat):Inv X pins σ H { s with toks:=t }:=I.un (h':=s.heap) (t':=t) Un.refl I.hok
theorem Inv.kept {t':Nat}(I:Inv X pins σ H s)(k:∀b u,s.heap.get? b=some u->h'.get? b=some u):Inv X pins σ H { s with heap:=h',toks:=t' }:=I.un (Un.kept k) (I.hok.kept k)
theorem Inv.laid {a:Addr}{o:HO}{t':Nat}(I:Inv X pins σ H s)(k:∀b u,s.heap.get? b=some u->h'.get? b=some u)(hp:s.heap.objs.size<=a)(new:ObjOk X.prog X.w (upd H a o) h' a o):
  Inv X pins σ (upd H a o) { s with heap:=h',toks:=t' }:=I.un (Un.laid k hp (I.hok.fresh hp)) (I.hok.laid k hp new)
theorem Inv.write {x e:Addr}{o:HO}{t':Nat}(I:Inv X pins σ H s)(mu:Mut (H x))(he:e=x\/H e=some (.own x))(k:∀b u,b≠e->s.heap.get? b=some u->h'.get? b=some u)(heo:∃u,h'.get? e=some u)
  (new:ObjOk X.prog X.w (upd H x o) h' x o):Inv X pins σ (upd H x o) { s with heap:=h',toks:=t' }:=I.un (Un.write mu he k heo) (I.hok.write mu he k heo new)
theorem Inv.pins_of {pins':List (Addr×Obj)}(I:Inv X pins σ H s)(h:∀p∈pins',s.heap.get? p.1=some p.2/\H p.1=none/\p.1≠X.env.locals/\p.1∉X.fs/\∀v,p.2.data≠.cell v):Inv X pins' σ H s:=
 ⟨I.ok,I.os,I.bare,I.base,I.loc,I.cell,I.free,I.freeC,fun p hp=>(List.mem_append.mp hp).elim (fun z=>I.pin p (List.mem_append_left _ z)) (h p),I.hok,I.len⟩
theorem nodup_ix {N:List Str}(hN:N.Nodup){i j:Nat}{x:Str}(a:N[i]?=some x)(b:N[j]?=some x):i=j:=by
 obtain⟨h1,e1⟩:=List.getElem?_eq_some_iff.mp a
 obtain⟨h2,e2⟩:=List.getElem?_eq_some_iff.mp b
 exact(List.getElem_inj hN).mp (e1.trans e2.symm)
theorem store_ok2 {M:Model}{A:Around}{E:Value->Shared->Prop}{i:Nat}{x:Str}{v:V}{u:Value}{Q:Unit->Shared->Prop}(I:Inv X pins σ H s)(hN:X.N.Nodup)(hi:X.N[i]?=some x)(hx:Loc X.env.scope x)(r:RelV v u)
  (h:∀s',Inv X pins (σ.set i (some v)) H s'->(∃a,Heap.SameBut a s.heap s'.heap/\(a=X.env.locals\/X.env.cells.lookup x=some a))->Q () s') (hf:X.fn x=true\/X.env.scope.names.lookup x=some .local:=by first|exact .inl rfl|exact .inr rfl|assumption):wpAny M A (storeName X.env x u) Q E s:=by
 obtain⟨m,hn,hl⟩:=id I.loc
 have hcls:(X.env.scope.kind==.class||(X.env.scope.kind==.module&&X.env.locals !=X.env.globals))=false:=by rw[I.ok.kind];rfl
 have hiσ:i<σ.length:=by rw[I.len];exact(List.getElem?_eq_some_iff.mp hi).1
 have cne:=I.cne
 have tracked:∀{a:Addr} {h':Heap},(∃o,s.heap.get? a=some o/\H a=none)->Heap.SameBut a s.heap h'->HOk X.prog X.w H h':=fun {a h'} ha hs b ob e=>by
  obtain⟨_,_,hfree⟩:=ha
  refine(I.hok b ob e).stay (fun c w' hc q=>(hs.2 c ?_).trans q) (fun _ q=>q) fun _ _ q=>q
  rintro rfl
  rcases hc with rfl|hc
  ·rw[hfree] at e;cases e
  ·rw[hfree] at hc;cases hc
 rcases hx with hk|hk
 ·refine wpAny_storeName_local hk hn (fun h' hn' hs=>?_) hcls
  obtain⟨oL,_,_,hoL,_⟩:=id hn
  refine h _ ⟨I.ok,I.os,I.bare,⟨fun b o e n hb hx=>?_,fun b o e n hb hx=>?_,I.base.free,fun b o e hx=>?_,I.base.tups,I.base.frzs,I.base.tbls⟩,⟨_,hn',fun j y v' e1 e2 e3=>?_⟩,fun y c e=>?_,I.free,I.freeC,fun p hp=>?_,tracked ⟨oL,hoL,I.free⟩ hs,by simpa using I.len⟩ ⟨_,hs,.inl rfl⟩
  ·exact(hs.2 b (Nat.ne_of_lt (Nat.lt_of_lt_of_le (Heap.lt_size e) I.ok.above))).trans (I.base.keep b o e n hb hx)
  ·obtain⟨sl,e1⟩:=I.base.slot b o e n hb hx
   exact⟨sl,(hs.2 b (Nat.ne_of_lt (Nat.lt_of_lt_of_le (Heap.lt_size e) I.ok.above))).trans e1⟩
  ·obtain⟨o',e1⟩:=I.base.there b o e hx
   exact⟨o',(hs.2 b (Nat.ne_of_lt (Nat.lt_of_lt_of_le (Heap.lt_size e) I.ok.above))).trans e1⟩
  ·by_cases hj:j=i
   ·subst hj
    rw[hi] at e1;cases e1
    rw[List.getElem?_set_self hiσ] at e2
    cases e2
    exact⟨u,r,.inl ⟨hk,by simp⟩⟩
   ·rw[List.getElem?_set_ne (Ne.symm hj)] at e2
    obtain⟨u',r',q⟩:=hl j y v' e1 e2 e3
    refine⟨u',r',?_⟩
    rcases q with⟨k,e⟩|⟨k,c,e,z⟩
    ·refine .inl ⟨k,?_⟩
     have:y≠x:=fun e=>hj (nodup_ix hN e1 (e▸hi))
     simp[this,e]
    ·exact .inr ⟨k,c,e,z.sameBut hs (cne y c e)⟩
  ·obtain⟨w',z⟩:=I.cell y c e
   exact⟨w',z.sameBut hs (cne y c e)⟩
  ·obtain⟨e,n,ne,nf,d⟩:=I.pin p hp
   exact⟨(hs.2 p.1 ne).trans e,n,ne,nf,d⟩
 ·have hfn:X.fn x=true:=by
   rcases hf with z|z
   ·exact z
   ·rw[z] at hk;cases hk
  obtain⟨c,hc⟩:=I.ok.has x (.inl hk)
  obtain⟨w',z⟩:=I.cell x c hc
  refine wpAny_storeName_cell I.ok.kind hk hc z (fun h' hc' hs=>?_)
  obtain⟨oc,hoc,hocd⟩:=id z
  refine h { s with heap:=h' } ⟨I.ok,I.os,I.bare,⟨fun b o e n hb hx=>?_,fun b o e n hb hx=>?_,I.base.free,fun b o e hx=>?_,I.base.tups,I.base.frzs,I.base.tbls⟩,⟨m,hn.sameBut hs (Ne.symm (cne x c hc)),fun j y v' e1 e2 e3=>?_⟩,fun y c' e=>?_,I.free,I.freeC,fun p hp=>?_,tracked ⟨oc,hoc,I.freeC x c hc⟩ hs,by simpa using I.len⟩ ⟨c,hs,.inr hc⟩
  ·exact(hs.2 b (Nat.ne_of_lt (Nat.lt_of_lt_of_le (Heap.lt_size e) (I.ok.cab x c hfn hc)))).trans (I.base.keep b o e n hb hx)
  ·obtain⟨sl,e1⟩:=I.base.slot b o e n hb hx
   exact⟨sl,(hs.2 b (Nat.ne_of_lt (Nat.lt_of_lt_of_le (Heap.lt_size e) (I.ok.cab x c hfn hc)))).trans e1⟩
  ·obtain⟨o',e1⟩:=I.base.there b o e hx
   exact⟨o',(hs.2 b (Nat.ne_of_lt (Nat.lt_of_lt_of_le (Heap.lt_size e) (I.ok.cab x c hfn hc)))).trans e1⟩
  ·by_cases hj:j=i
   ·subst hj
    rw[hi] at e1;cases e1
    rw[List.getElem?_set_self hiσ] at e2
    cases e2
    exact⟨u,r,.inr ⟨.inl hk,c,hc,hc'⟩⟩
   ·rw[List.getElem?_set_ne (Ne.symm hj)] at e2
    obtain⟨u',r',q⟩:=hl j y v' e1 e2 e3
    refine⟨u',r',?_⟩
    rcases q with q|⟨k,c',e,z'⟩
    ·exact .inl q
    ·refine .inr ⟨k,c',e,z'.sameBut hs ?_⟩
     rintro rfl
     exact hj (nodup_ix hN e1 (I.ok.inj _ _ _ e hc▸hi))
  ·by_cases hcc:c'=c
   ·subst hcc;exact⟨_,hc'⟩
   ·obtain⟨w2,z2⟩:=I.cell y c' e
    exact⟨w2,z2.sameBut hs hcc⟩
  ·obtain⟨e,n,ne,nf,d⟩:=I.pin p hp
   refine⟨(hs.2 p.1 ?_).trans e,n,ne,nf,d⟩
   intro q
   rw[q,hoc] at e
   have q':oc=p.2:=Option.some.inj e
   exact d w' (by rw[<- q'];exact hocd)
theorem store_ok {M:Model}{A:Around}{E:Value->Shared->Prop}{i:Nat}{x:Str}{v:V}{u:Value}{Q:Unit->Shared->Prop}(I:Inv X pins σ H s)(hN:X.N.Nodup)(hi:X.N[i]?=some x)(hx:Loc X.env.scope x)(r:RelV v u)
  (h:∀s',Inv X pins (σ.set i (some v)) H s'->Q () s') (hf:X.fn x=true\/X.env.scope.names.lookup x=some .local:=by first|exact .inl rfl|exact .inr rfl|assumption):wpAny M A (storeName X.env x u) Q E s:=
 store_ok2 I hN hi hx r (fun s' I' _=>h s' I') hf
theorem Inv.call' {s':Shared}{ch:List Addr}(I:Inv X pins σ H s)(ho:s'.os=s.os)(u:Un (frs X.stack) ch H H' s.heap s'.heap)(hok:HOk X.prog X.w H' s'.heap)(hg:AllBare s'.gens)
  (hch:∀b∈ch,(b∈X.ex\/X.s₀.heap.objs.size<=b)/\b≠X.env.locals/\(∀x c,X.env.cells.lookup x=some c->c≠b)/\∀p∈X.pn++pins,p.1≠b):Inv X pins σ H' s':=by
 obtain⟨h',g',d',t',o'⟩:=s'
 have e:o'=s.os:=ho
 subst e
 exact I.call (g':=g') (t':=t') (d':=d') u hok hg hch
end
abbrev XK:=Value->Option Addr->Hp->Prop
abbrev St:=List (Option V)
abbrev VK:=V->Hp->Prop
abbrev TE:=St->Hp->VK->Prop
abbrev TT:=St->Hp->(Bool->Hp->Prop)->Prop
abbrev TA:=St->Hp->(List V->Hp->Prop)->Prop
structure Ends where
 nx:St->Hp->Prop
 rt:VK
 bk:St->Hp->Prop:=fun _ _=>False
 ct:St->Hp->Prop:=fun _ _=>False
abbrev TS:=Ends->St->Hp->Prop
def EP (X:Cx)(pins:List (Addr×Obj))(σ:St)(Q:VK)(u:Value)(s':Shared):Prop:=∃v H',Inv X pins σ H' s'/\RelV v u/\Q v H'
def TP (X:Cx)(pins:List (Addr×Obj))(σ:St)(Q:Bool->Hp->Prop)(b:Bool)(s':Shared):Prop:=∃H',Inv X pins σ H' s'/\Q b H'
def AP (X:Cx)(pins:List (Addr×Obj))(σ:St)(Q:List V->Hp->Prop)(us:List Value)(s':Shared):Prop:=∃vs H',Inv X pins σ H' s'/\Vals vs us/\Q vs H'
def SP (X:Cx)(pins:List (Addr×Obj))(D:Ends)(f:Flow)(s':Shared):Prop:=
 match f with
 |.next=>∃σ' H',Inv X pins σ' H' s'/\D.nx σ' H'
 |.brk=>∃σ' H',Inv X pins σ' H' s'/\D.bk σ' H'
 |.cont=>∃σ' H',Inv X pins σ' H' s'/\D.ct σ' H'
 |.ret u=>∃v σ' H',Inv X pins σ' H' s'/\RelV v u/\D.rt v H'
def PE (X:Cx)(e:Expr)(t:TE):Prop:=
 ∀(pins:List (Addr×Obj)) (s:Shared) (σ:St) (H:Hp) (Q:VK),Inv X pins σ H s->t σ H Q->wpAny (model X.prog X.w) X.A (eval e X.env) (EP X pins σ Q) X.xe s
def PT (X:Cx)(e:Expr)(t:TT):Prop:=
 ∀(pins:List (Addr×Obj)) (s:Shared) (σ:St) (H:Hp) (Q:Bool->Hp->Prop),Inv X pins σ H s->t σ H Q->wpAny (model X.prog X.w) X.A (isTrue e X.env (eval e X.env)) (TP X pins σ Q) X.xe s
def PW (X:Cx)(e:Expr)(t:TT):Prop:=
 ∀(whole:Sem Value) (pins:List (Addr×Obj)) (s:Shared) (σ:St) (H:Hp) (Q:Bool->Hp->Prop),Inv X pins σ H s->t σ H Q->wpAny (model X.prog X.w) X.A (isTrue e X.env whole) (TP X pins σ Q) X.xe s
theorem PW.pt {X:Cx}{e:Expr}{t:TT}(h:PW X e t):PT X e t:=h _
def PA (X:Cx)(es:List Expr)(t:TA):Prop:=
 ∀(pos:Pos) (pins:List (Addr×Obj)) (s:Shared) (σ:St) (H:Hp) (Q:List V->Hp->Prop),Inv X pins σ H s->t σ H Q->wpAny (model X.prog X.w) X.A (spliced (backTo pos (starEach es X.env))) (AP X pins σ Q) X.xe s
def PS (X:Cx)(st:Stmt)(t:TS):Prop:=
 ∀(pins:List (Addr×Obj)) (s:Shared) (σ:St) (H:Hp) (D:Ends),Inv X pins σ H s->t D σ H->wpAny (model X.prog X.w) X.A (exec st X.env) (SP X pins D) X.xe s
def PSs (X:Cx)(st:List Stmt)(t:TS):Prop:=
 ∀(pins:List (Addr×Obj)) (s:Shared) (σ:St) (H:Hp) (D:Ends),Inv X pins σ H s->t D σ H->wpAny (model X.prog X.w) X.A (execs st X.env) (SP X pins D) X.xe s
theorem thn {α:Type}{t:Sem α}{Q Q':α->Shared->Prop}{M:Model}{A:Around}{E:Value->Shared->Prop}{s:Shared}(h:wpAny M A t Q E s)(hQ:∀a s,Q a s->Q' a s):wpAny M A t Q' E s:=wpAny_mono h hQ fun _ _ x=>x
end L2
namespace L2
open PySem PySem.Spec PyProof.Rows
section
variable {X:Cx}
def tVar (i:Nat):TE:=fun σ H Q=>∃v,σ[i]?=some (some v)/\Q v H
def tC (v:V):TE:=fun _ H Q=>Q v H
theorem pe_var {i:Nat}{x:Str}{pos:Pos}(hN:X.N[i]?=some x)(hv:Vis X.env.scope x)(hd:(x==("__debug__":Str))=false:=by decide)(hcd:(x==("__classdict__":Str))=false:=by decide):PE X (.Name x pos) (tVar i):=by
 intro pins s σ H Q I h
 obtain⟨v,e,h⟩:=h
 obtain⟨m,hn,hl⟩:=I.loc
 obtain⟨u,r,l⟩:=hl i x v hN e hv
 have fin:EP X pins σ Q u s:=⟨v,H,I,r,h⟩
 rcases l with⟨hk,hm⟩|⟨hk,c,hc,hcell⟩
 ·exact wpAny_Name (wpAny_loadName_local I.ok.kind hk hn hm fin) hd
 ·rcases hk with hk|hk
  ·exact wpAny_Name (wpAny_loadName_cell I.ok.kind hk hc hcell fin) hd
  ·exact wpAny_Name (wpAny_loadName_free I.ok.kind hk hc hcell fin hcd) hd
theorem pe_int {i j pos}:PE X (.Constant (.int i) j pos) (tC (.int i)):=fun _ _ _ H _ I h=>wpAny_Constant_int ⟨.int i,H,I.tok _,⟨_,rfl⟩,h⟩
theorem pe_bl {b j pos}:PE X (.Constant (.bool b) j pos) (tC (.bl b)):=fun _ _ _ H _ I h=>Constant_bool ⟨.bl b,H,I,rfl,h⟩
theorem pe_non {j pos}:PE X (.Constant .none j pos) (tC .non):=fun _ _ _ H _ I h=>Constant_none ⟨.non,H,I,rfl,h⟩
def Gl (X:Cx)(x:Str):Prop:=X.env.kindOf x=some .globalImplicit
theorem ld_glob {E:Value->Shared->Prop}{pins:List (Addr×Obj)}{s:Shared}{σ:St}{H:Hp}{x:Str}{u:Value}{pos:Pos}{Q:Value->Shared->Prop}(I:Inv X pins σ H s)(hg:Gl X x)(hm:X.mg x=some u)(h:Q u s)
  (hd:(x==("__debug__":Str))=false:=by decide):wpAny (model X.prog X.w) X.A (eval (.Name x pos) X.env) Q E s:=
 Calls.Name_function_global I.ok.kind hg (Calls.loadGlobal_global (by rw[I.ok.glob];exact I.mod.glob.keeps I.bk) hm h) hd
theorem ld_blt {E:Value->Shared->Prop}{pins:List (Addr×Obj)}{s:Shared}{σ:St}{H:Hp}{x:Str}{u:Value}{pos:Pos}{Q:Value->Shared->Prop}(I:Inv X pins σ H s)(hg:Gl X x)(hm:X.mg x=none)(hv:bootBuiltins x=some u)(h:Q u s)
  (hn:x≠"__name__":=by decide) (hd:(x==("__debug__":Str))=false:=by decide):wpAny (model X.prog X.w) X.A (eval (.Name x pos) X.env) Q E s:=by
 obtain⟨mb,h1,h2⟩:=I.mod.blt
 exact Calls.Name_function_global I.ok.kind hg (Calls.loadGlobal_builtin (by rw[I.ok.glob];exact I.mod.glob.keeps I.bk) hm (by rw[I.ok.blt];exact h1.keeps I.bk) ((h2 x hn).trans hv) h) hd
theorem pe_glob {x:Str}{v:V}{u:Value}{pos:Pos}(hg:Gl X x)(hm:X.mg x=some u)(r:RelV v u)(hd:(x==("__debug__":Str))=false:=by decide):PE X (.Name x pos) (tC v):=
 fun _ _ _ H _ I h=>ld_glob I hg hm ⟨v,H,I,r,h⟩ hd
variable {a b:Expr} {ta tb:TE} {pos:Pos}
def PC (X:Cx)(op:CmpOp)(a b:Expr)(t:TE):Prop:=
 ∀(pins:List (Addr×Obj)) (s:Shared) (σ:St) (H:Hp) (Q:VK),Inv X pins σ H s->t σ H Q→
  wpAny (model X.prog X.w) X.A (eval a X.env) (fun v s₁=>wpAny (model X.prog X.w) X.A (eval b X.env) (fun u s₂=>wpAny (model X.prog X.w) X.A (compareOp op v u) (EP X pins σ Q) X.xe s₂) X.xe s₁) X.xe s
theorem nobehind (b:Expr){op:CmpOp}(h:op≠.In)(h2:op≠.NotIn):behindInMarks op b=false:=by
 have e1:(op==CmpOp.In)=false:=by cases op<;>first|rfl|exact absurd rfl h
 have e2:(op==CmpOp.NotIn)=false:=by cases op<;>first|rfl|exact absurd rfl h2
 cases b<;>simp[behindInMarks,e1,e2]
def tNotN (ta:TE):TE:=fun σ H Q=>ta σ H fun x H1=>Q (.bl (!decide (x=.non))) H1
theorem RelV.none_iff {x:V}{v:Value}(r:RelV x v):(v==Value.none)=decide (x=.non):=by
 cases x with
 |non=>cases r;rfl
 |bl _=>cases r;rfl
 |int _=>obtain⟨t,rfl⟩:=r;rfl
 |str _=>obtain⟨t,rfl⟩:=r;rfl
 |byt _=>obtain⟨t,rfl⟩:=r;rfl
 |flt _=>obtain⟨t,rfl⟩:=r;rfl
 |ref _=>cases r;rfl
 |ty _=>cases r;rfl
theorem pc_notN {j pos'}(ha:PE X a ta):PC X .IsNot a (.Constant .none j pos') (tNotN ta):=by
 intro pins s σ H Q I h
 refine thn (ha pins s σ H _ I h) fun v s1 hq9=>?_
 obtain⟨x,H1,I1,r1,q1⟩:=hq9
 exact Constant_none (isnot_none_gen ⟨.bl _,H1,I1,by rw[r1.none_iff];rfl,q1⟩)
def tB (t:TE):TT:=fun σ H Q=>t σ H fun x H1=>∃c,x=.bl c/\Q c H1
theorem pt_cmp {op:CmpOp}{t:TE}(h:PC X op a b t)(h1:behindInMarks op b=false:=by first|exact nobehind _ (by decide) (by decide)|rfl):PT X (.Compare a [op] [b] pos) (tB t):=by
 intro pins s σ H Q I hw
 refine wpAny_isTrue_Compare1 (thn (h pins s σ H _ I hw) fun v s1 h1=>thn h1 fun u s2 h2=>thn h2 fun c s3 ⟨x,H1,I1,r1,q1⟩=>?_) h1
 obtain⟨d,rfl,q⟩:=q1
 cases r1
 exact wpAny_truthy_bool ⟨H1,I1,q⟩
theorem pt_val {e:Expr}{t:TE}(h:PE X e t)(he:∀whole,isTrue e X.env whole=(do let v ← whole;standAt e.pos;holding [v] (truthy v)):=by intro _;rfl):PT X e (tB t):=by
 intro pins s σ H Q I hw
 refine isTrue_plain (thn (h pins s σ H _ I hw) fun v s1 ⟨x,H1,I1,r1,q1⟩=>?_) (he _)
 obtain⟨d,rfl,q⟩:=q1
 cases r1
 exact wpAny_truthy_bool ⟨H1,I1,q⟩
variable {tA tB':TT} {rest:List Expr}
def tAnd (t u:TT):TT:=fun σ H Q=>t σ H fun c H1=>if c=true then u σ H1 Q else Q false H1
def tOr (t u:TT):TT:=fun σ H Q=>t σ H fun c H1=>if c=true then Q true H1 else u σ H1 Q
def tNot (t:TT):TT:=fun σ H Q=>t σ H fun c H1=>Q (!c) H1
theorem pw_and1 (ha:PT X a tA):PW X (.BoolOp .And [a] pos) tA:=by
 intro wh pins s σ H Q I h
 refine isTrue_and (thn (ha pins s σ H Q I h) fun c s1 e=>?_)
 cases c with
 |true=>exact isTrue_and_nil e
 |false=>exact e
theorem pw_or1 (ha:PT X a tA):PW X (.BoolOp .Or [a] pos) tA:=by
 intro wh pins s σ H Q I h
 refine isTrue_or (thn (ha pins s σ H Q I h) fun c s1 e=>?_)
 cases c with
 |false=>exact isTrue_or_nil e
 |true=>exact e
theorem pw_and (ha:PT X a tA)(hb:PW X (.BoolOp .And (b::rest) pos) tB'):PW X (.BoolOp .And (a::b::rest) pos) (tAnd tA tB'):=by
 intro wh pins s σ H Q I h
 refine isTrue_and (thn (ha pins s σ H _ I h) fun c s1 ⟨H1,I1,q1⟩=>?_)
 cases c with
 |true=>exact hb wh pins s1 σ H1 Q I1 q1
 |false=>exact⟨H1,I1,q1⟩
theorem pw_or (ha:PT X a tA)(hb:PW X (.BoolOp .Or (b::rest) pos) tB'):PW X (.BoolOp .Or (a::b::rest) pos) (tOr tA tB'):=by
 intro wh pins s σ H Q I h
 refine isTrue_or (thn (ha pins s σ H _ I h) fun c s1 ⟨H1,I1,q1⟩=>?_)
 cases c with
 |true=>exact⟨H1,I1,q1⟩
 |false=>exact hb wh pins s1 σ H1 Q I1 q1
theorem pt_not (ha:PT X a tA):PT X (.UnaryOp .Not a pos) (tNot tA):=by
 intro pins s σ H Q I h
 exact isTrue_not (ha pins s σ H (fun c H1=>Q (!c) H1) I h)
def tIf (t:TT)(ta tb:TE):TE:=fun σ H Q=>t σ H fun c H1=>if c=true then ta σ H1 Q else tb σ H1 Q
theorem pe_ifExp {c:Expr}(hc:PT X c tA)(ha:PE X a ta)(hb:PE X b tb):PE X (.IfExp c a b pos) (tIf tA ta tb):=by
 intro pins s σ H Q I h
 refine wpAny_IfExp (thn (hc pins s σ H _ I h) fun d s1 ⟨H1,I1,q1⟩=>?_)
 cases d with
 |true=>exact ha pins s1 σ H1 Q I1 q1
 |false=>exact hb pins s1 σ H1 Q I1 q1
end
end L2
namespace L2
open PySem PySem.Spec PyProof.Rows
def SqL (K:W.Frag)(H:Hp)(a:Addr)(xs:List V):Prop:=
 Rd H a (.lst xs)∨
  ∃(o:Obj) (its:Array Value) (n:Nat),K.lookup a=some o/\o.cls=.type "list"/\o.dict=none/\o.data=.seq its n/\its.size<=sizeLine/\Vals xs its.toList
def SqT (K:W.Frag)(H:Hp)(a:Addr)(xs:List V):Prop:=
 Rd H a (.tup xs)∨
  ∃(o:Obj) (its:Array Value) (n:Nat),K.lookup a=some o/\o.cls=.type "tuple"/\o.data=.seq its n/\its.size<=sizeLine/\Vals xs its.toList
def absV:Value->Option V
 |.none=>some .non
 |.bool b=>some (.bl b)
 |.int i _=>some (.int i)
 |.str x _=>some (.str x)
 |.bytes b _=>some (.byt b)
 |.float b _=>some (.flt b)
 |.ref a=>some (.ref a)
 |.type n=>some (.ty n)
 |_=>none
theorem RelV.abs {x:V}{u:Value}(r:RelV x u):absV u=some x:=by
 cases x with
 |non=>cases r;rfl
 |bl _=>cases r;rfl
 |int _=>obtain⟨t,rfl⟩:=r;rfl
 |str _=>obtain⟨t,rfl⟩:=r;rfl
 |byt _=>obtain⟨t,rfl⟩:=r;rfl
 |flt _=>obtain⟨t,rfl⟩:=r;rfl
 |ref _=>cases r;rfl
 |ty _=>cases r;rfl
theorem RelV.inj {x y:V}{u:Value}(r:RelV x u)(q:RelV y u):x=y:=Option.some.inj (r.abs.symm.trans q.abs)
theorem Vals.inj:∀{xs ys:List V} {us:List Value},Vals xs us->Vals ys us->xs=ys
 |_,_,_,.nil,.nil=>rfl
 |_,_,_,.cons r t,.cons r' t'=>by rw[r.inj r',Vals.inj t t']
section
variable {X:Cx} {pins:List (Addr×Obj)} {σ:St} {H:Hp} {s:Shared} {a:Addr} {xs ys:List V}
theorem SqL.of {K:W.Frag}(h:H a=some (.lst xs)):SqL K H a xs:=.inl (.inl h)
theorem SqT.of {K:W.Frag}(h:H a=some (.tup xs)):SqT K H a xs:=.inl (.inl h)
theorem Inv.list (I:Inv X pins σ H s)(h:SqL X.K H a xs):∃its:List Value,Vals xs its/\PlainL s.heap a its.toArray/\xs.length<=sizeLine:=by
 rcases h with h|⟨o,its,n,hk,hc,hd,hs,hz,r⟩
 ·obtain⟨z,its,n,r,e⟩:=h.ok I.hok
  exact⟨its,r,⟨_,n,e,rfl,rfl,rfl⟩,z⟩
 ·refine⟨its.toList,r,⟨o,n,I.kIn a o hk,hc,hd,by simpa using hs⟩,?_⟩
  have e:=r.length
  simp only[Array.length_toList] at e
  omega
theorem Inv.tuple (I:Inv X pins σ H s)(h:SqT X.K H a xs):∃its:List Value,Vals xs its/\IsTup s.heap a its.toArray/\xs.length<=sizeLine:=by
 rcases h with h|⟨o,its,n,hk,hc,hs,hz,r⟩
 ·obtain⟨z,its,r,p⟩:=h.ok I.hok
  exact⟨its,r,p,z⟩
 ·refine⟨its.toList,r,⟨o,I.kIn a o hk,hc,n,by simpa using hs⟩,?_⟩
  have e:=r.length
  simp only[Array.length_toList] at e
  omega
theorem Inv.list_inj (I:Inv X pins σ H s)(h:SqL X.K H a xs)(h':SqL X.K H a ys):xs=ys:=by
 obtain⟨its,r,⟨o,n,e,_,_,d⟩,_⟩:=I.list h
 obtain⟨its',r',⟨o',n',e',_,_,d'⟩,_⟩:=I.list h'
 rw[e] at e';cases e'
 rw[d] at d'
 injection d' with d1 _
 have:its=its':=by simpa using congrArg Array.toList d1
 subst this
 exact r.inj r'
theorem Inv.tuple_inj (I:Inv X pins σ H s)(h:SqT X.K H a xs)(h':SqT X.K H a ys):xs=ys:=by
 obtain⟨its,r,⟨o,e,_,n,d⟩,_⟩:=I.tuple h
 obtain⟨its',r',⟨o',e',_,n',d'⟩,_⟩:=I.tuple h'
 rw[e] at e';cases e'
 rw[d] at d'
 injection d' with d1 _
 have:its=its':=by simpa using congrArg Array.toList d1
 subst this
 exact r.inj r'
end
abbrev Cx.wish (X:Cx)(E:Value->Shared->Prop):Cx:={ X with xe:=E }
abbrev Cx.nox (X:Cx):Cx:=X.wish fun _ _=>False
theorem Cx.Ok.wish {X:Cx}(ok:X.Ok)(E:Value->Shared->Prop):(X.wish E).Ok:=
 ⟨ok.mod,ok.kind,ok.glob,ok.blt,ok.above,ok.inj,ok.has,ok.cab,ok.hd,ok.frames,ok.stk,ok.exf,ok.bs,ok.bsz,ok.noex,ok.exfs,ok.funs,ok.frf⟩
theorem Cx.Ok.unwish {X:Cx}{E:Value->Shared->Prop}(ok:(X.wish E).Ok):X.Ok:=
 ⟨ok.mod,ok.kind,ok.glob,ok.blt,ok.above,ok.inj,ok.has,ok.cab,ok.hd,ok.frames,ok.stk,ok.exf,ok.bs,ok.bsz,ok.noex,ok.exfs,ok.funs,ok.frf⟩
section
variable {X:Cx} {pins:List (Addr×Obj)} {σ:St} {H:Hp} {s:Shared} {E:Value->Shared->Prop}
theorem Inv.wish (I:Inv X pins σ H s)(E:Value->Shared->Prop):Inv (X.wish E) pins σ H s:=⟨I.ok.wish E,I.os,I.bare,I.base,I.loc,I.cell,I.free,I.freeC,I.pin,I.hok,I.len⟩
theorem Inv.unwish (I:Inv (X.wish E) pins σ H s):Inv X pins σ H s:=⟨I.ok.unwish,I.os,I.bare,I.base,I.loc,I.cell,I.free,I.freeC,I.pin,I.hok,I.len⟩
theorem SP.unwish {D:Ends}{f:Flow}{s':Shared}(h:SP (X.wish E) pins D f s'):SP X pins D f s':=by
 cases f with
 |next=>obtain⟨σ',H',I,q⟩:=h;exact⟨σ',H',I.unwish,q⟩
 |brk=>obtain⟨σ',H',I,q⟩:=h;exact⟨σ',H',I.unwish,q⟩
 |cont=>obtain⟨σ',H',I,q⟩:=h;exact⟨σ',H',I.unwish,q⟩
 |ret u=>obtain⟨v,σ',H',I,r,q⟩:=h;exact⟨v,σ',H',I.unwish,r,q⟩
theorem PSs.nox {st:List Stmt}{t:TS}(h:PSs X.nox st t):PSs X st t:=fun pins s σ H D I hw=>
 wpAny_mono (h pins s σ H D (I.wish _) hw) (fun _ _ q=>q.unwish) fun _ _ z=>False.elim z
end
section
variable {X:Cx} {st:Stmt} {rest:List Stmt} {t u:TS} {e:Expr} {te:TE} {pos:Pos}
def tNext:TS:=fun D σ H=>D.nx σ H
def tSeq (t u:TS):TS:=fun D σ H=>t { D with nx:=u D } σ H
theorem pss_nil:PSs X [] tNext:=fun _ _ σ H _ I h=>wpAny_execs_nil ⟨σ,H,I,h⟩
theorem pss_cons (h1:PS X st t)(h2:PSs X rest u):PSs X (st::rest) (tSeq t u):=by
 intro pins s σ H D I h
 refine wpAny_execs_cons (thn (h1 pins s σ H { D with nx:=u D } I h) fun f s1 q=>?_)
 cases f with
 |next=>
  obtain⟨σ',H',I',q⟩:=q
  exact h2 pins s1 σ' H' D I' q
 |ret v=>exact q
 |brk=>exact q
 |cont=>exact q
theorem pss_one (h1:PS X st t):PSs X [st] t:=by
 intro pins s σ H D I h
 refine wpAny_execs_cons (thn (h1 pins s σ H D I h) fun f s1 q=>?_)
 cases f with
 |next=>exact wpAny_execs_nil q
 |ret v=>exact q
 |brk=>exact q
 |cont=>exact q
theorem Inv.quiet {pins:List (Addr×Obj)}{σ:St}{H:Hp}{s:Shared}(I:Inv X pins σ H s):interactive X.env=false:=by simp[interactive,I.ok.kind]
def tDrop (te:TE):TS:=fun D σ H=>te σ H fun _ H1=>D.nx σ H1
theorem ps_expr (he:PE X e te)(hs:swapsWith e none pos.line X.env=pure false:=by rfl):PS X (.Expr e pos) (tDrop te):=by
 intro pins s σ H D I h
 exact wpAny_Expr_any (thn (he pins s σ H _ I h) fun v s1 ⟨x,H1,I1,r1,q1⟩=>⟨σ,H1,I1,q1⟩) I.quiet hs
def tRet (te:TE):TS:=fun D σ H=>te σ H D.rt
theorem ps_ret (he:PE X e te):PS X (.Return (some e) pos) (tRet te):=by
 intro pins s σ H D I h
 exact wpAny_Return_some (thn (he pins s σ H _ I h) fun v s1 ⟨x,H1,I1,r1,q1⟩=>⟨x,σ,H1,I1,r1,q1⟩)
def tIfS (c:TT)(t u:TS):TS:=fun D σ H=>c σ H fun b H1=>if b=true then t D σ H1 else u D σ H1
theorem ps_if {c:Expr}{a b:List Stmt}{tc:TT}(hc:PT X c tc)(ha:PSs X a t)(hb:PSs X b u):PS X (.If c a b pos) (tIfS tc t u):=by
 intro pins s σ H D I h
 refine wpAny_If (thn (hc pins s σ H _ I h) fun d s1 ⟨H1,I1,q1⟩=>?_)
 cases d with
 |true=>exact ha pins s1 σ H1 D I1 q1
 |false=>exact hb pins s1 σ H1 D I1 q1
def tNever:TS:=fun _ _ _=>False
theorem pss_never {sts:List Stmt}:PSs X sts tNever:=fun _ _ _ _ _ _ h=>h.elim
end
abbrev TG:=V->St->Hp->(St->Hp->Prop)->Prop
abbrev TGs:=List V->St->Hp->(St->Hp->Prop)->Prop
def PG (X:Cx)(target:Expr)(t:TG):Prop:=
 ∀(pins:List (Addr×Obj)) (s:Shared) (σ:St) (H:Hp) (v:V) (u:Value) (Q:St->Hp->Prop),Inv X pins σ H s->RelV v u->t v σ H Q→
  wpAny (model X.prog X.w) X.A (assign target X.env u) (fun _ s'=>∃σ' H',Inv X pins σ' H' s'/\Q σ' H') X.xe s
def PGs (X:Cx)(ts:List Expr)(t:TGs):Prop:=
 ∀(pins:List (Addr×Obj)) (s:Shared) (σ:St) (H:Hp) (vs:List V) (us:List Value) (Q:St->Hp->Prop),Inv X pins σ H s->Vals vs us->t vs σ H Q→
  wpAny (model X.prog X.w) X.A (assignInOrder ((assignEach ts X.env).map (·.2)) us) (fun _ s'=>∃σ' H',Inv X pins σ' H' s'/\Q σ' H') X.xe s
section
variable {X:Cx} {pos:Pos}
def gName (i:Nat):TG:=fun v σ H Q=>Q (σ.set i (some v)) H
theorem pg_name {i:Nat}{x:Str}(hN:X.N.Nodup)(hi:X.N[i]?=some x)(hx:Loc X.env.scope x)(hf:X.fn x=true\/X.env.scope.names.lookup x=some .local:=by first|exact .inl rfl|exact .inr rfl|assumption):PG X (.Name x pos) (gName i):=by
 intro pins s σ H v u Q I r h
 exact wpAny_assign_Name (store_ok I hN hi hx r (fun s' I'=>⟨_,H,I',h⟩) hf)
def gNil:TGs:=fun vs σ H Q=>vs=[]/\Q σ H
def gCons (t:TG)(u:TGs):TGs:=fun vs σ H Q=>∃v r,vs=v::r/\t v σ H fun σ' H'=>u r σ' H' Q
theorem pgs_nil:PGs X [] gNil:=by
 intro pins s σ H vs us Q I r h
 obtain⟨e,h⟩:=h
 subst e
 cases r
 exact assignInOrder_nil ⟨σ,H,I,h⟩
theorem pgs_cons {e:Expr}{es:List Expr}{t:TG}{u:TGs}(h1:PG X e t)(h2:PGs X es u)
  (hs:(assignEach (e::es) X.env).map (·.2)=assign e X.env::(assignEach es X.env).map (·.2):=by rfl):PGs X (e::es) (gCons t u):=by
 intro pins s σ H vs us Q I r h
 obtain⟨v,vr,e1,h⟩:=h
 subst e1
 cases r with
 |cons r rr=>
  rw[hs]
  refine assignInOrder_cons (thn (h1 pins s σ H _ _ _ I r h) fun _ s1 ⟨σ1,H1,I1,q1⟩=>?_)
  exact h2 pins s1 σ1 H1 _ _ Q I1 rr q1
def gTup (K:W.Frag)(n:Nat)(t:TGs):TG:=fun v σ H Q=>∃a xs,v=.ref a/\SqT K H a xs/\xs.length=n/\t xs σ H Q
theorem pg_tup {es:List Expr}{k:Nat}{t:TGs}{n:Nat}(hc:X.calm=true)(h:PGs X es t)
  (hn:(assignEach es X.env).length=n:=by rfl) (hst:(assignEach es X.env).findIdx? (·.1)=none:=by rfl):PG X (.Tuple es k pos) (gTup X.K n t):=by
 intro pins s σ H v u Q I r hw
 obtain⟨a,xs,e1,hq,hl,hw⟩:=hw
 subst e1
 cases r
 obtain⟨its,rv,ht,hz⟩:=I.tuple hq
 refine assign_Tuple_tuple (I.ok.hd hc) ht (by simp[hn,<- hl,rv.length]) hst fun h' hx=>?_
 have I1:Inv X pins σ H { s with heap:=h' }:=I.kept (t':=s.toks) fun b o e=>hx b o (Nat.ne_of_lt (Heap.lt_size e)) e
 exact h pins _ σ H xs _ Q I1 (by simpa using rv) hw
def tAsg (te:TE)(g:TG):TS:=fun D σ H=>te σ H fun x H1=>g x σ H1 D.nx
theorem ps_asg {tg e:Expr}{te:TE}{g:TG}(he:PE X e te)(hg:PG X tg g)(hs:swapsWithSole [tg] e pos.line X.env=pure false:=by rfl)(hw:swappedStores [tg] e X.env=pure none:=by rfl)
  (h1:(assignEach [tg] X.env).map (·.2)=[assign tg X.env]:=by rfl):PS X (.Assign [tg] e pos) (tAsg te g):=by
 intro pins s σ H D I h
 refine wpAny_Assign_stores (thn (he pins s σ H _ I h) fun v s1 ⟨x,H1,I1,r1,q1⟩=>?_) hs hw
 rw[h1]
 exact thn (hg pins s1 σ H1 x v _ I1 r1 q1) fun _ s2 q=>q
theorem ps_set {i:Nat}{x:Str}{e:Expr}{te:TE}{pos':Pos}(hN:X.N.Nodup)(hi:X.N[i]?=some x)(hx:Loc X.env.scope x)(he:PE X e te)(hs:swapsWith e (some (.Name x pos')) pos.line X.env=pure false:=by rfl)(hf:X.fn x=true\/X.env.scope.names.lookup x=some .local:=by first|exact .inl rfl|exact .inr rfl|assumption):
  PS X (.Assign [.Name x pos'] e pos) (tAsg te (gName i)):=by
 intro pins s σ H D I h
 refine wpAny_Assign_Name (thn (he pins s σ H _ I h) fun v s1 ⟨y,H1,I1,r1,q1⟩=>?_) hs
 exact store_ok I1 hN hi hx r1 (fun s2 I2=>⟨_,H1,I2,q1⟩) hf
end
section
variable {X:Cx} {pos:Pos}
def tWhile (c:TT)(tb:TS):TS:=fun D σ H=>∃W:Nat->St->Hp->Prop,(∃m,W m σ H)/\∀m σ H,W m σ H→
 c σ H fun b H1=>if b=true then ∃N:St->Hp->Prop,(∀σ' H',N σ' H'->∃m',m'<m/\W m' σ' H')/\tb { D with nx:=N,ct:=N,bk:=D.nx } σ H1 else D.nx σ H1
theorem ps_while {c:Expr}{body:List Stmt}{tc:TT}{tb:TS}(hp:PassesOwn (model X.prog X.w) X.A X.env X.xe)(hc:PT X c tc)(hb:PSs X body tb):PS X (.While c body [] pos) (tWhile tc tb):=by
 intro pins s σ H D I h
 obtain⟨W,⟨m0,w0⟩,turn⟩:=h
 refine wpAny_While (codeAny_whileLoop (fun n s'=>∃σ' H',Inv X pins σ' H' s'/\W n σ' H') ?_ m0 ⟨σ,H,I,w0⟩)
 rintro n s1 ⟨σ1,H1,I1,w1⟩
 refine wpAny_passesOwn hp (thn (hc pins s1 σ1 H1 _ I1 (turn n σ1 H1 w1)) fun b s2 ⟨H2,I2,q2⟩=>?_)
 cases b with
 |true=>
  obtain⟨N,hN,q2⟩:=q2
  rw[if_pos rfl]
  refine wpAny_passesOwn hp (thn (hb pins s2 σ1 H2 _ I2 q2) fun f s3 q3=>?_)
  cases f with
  |next=>
   obtain⟨σ3,H3,I3,n3⟩:=q3
   obtain⟨m',hm,w3⟩:=hN σ3 H3 n3
   exact⟨m',hm,σ3,H3,I3,w3⟩
  |cont=>
   obtain⟨σ3,H3,I3,n3⟩:=q3
   obtain⟨m',hm,w3⟩:=hN σ3 H3 n3
   exact⟨m',hm,σ3,H3,I3,w3⟩
  |brk=>exact q3
  |ret v=>exact q3
 |false=>
  rw[if_neg Bool.false_ne_true]
  exact wpAny_execs_nil ⟨σ1,H2,I2,q2⟩
end
structure It where
 go:Nat->Hp->Prop
 yld:Nat->Hp->V->Hp->Prop
 stop:Nat->Hp->Prop
def FpOk (X:Cx)(pins:List (Addr×Obj))(H:Hp)(b:Addr):Prop:=
 H b=none/\b≠X.env.locals/\b∉X.fs/\(b∈X.ex\/X.s₀.heap.objs.size<=b)/\(∀x c,X.env.cells.lookup x=some c->c≠b)/\∀p∈X.pn++pins,p.1≠b
theorem Inv.fpOk {X:Cx}{pins:List (Addr×Obj)}{σ:St}{H H':Hp}{s:Shared}{b:Addr}(I:Inv X pins σ H s)(hb:s.heap.objs.size<=b)(hn:H' b=none):FpOk X pins H' b:=by
 refine⟨hn,Nat.ne_of_gt (Nat.lt_of_lt_of_le I.lt hb),I.nofs hb,.inr (Nat.le_trans I.sz hb),fun x c e z=>?_,fun p hp z=>?_⟩
 ·obtain⟨v,q⟩:=I.cell x c e
  exact absurd (Nat.lt_of_lt_of_le q.lt (by rw[z];exact hb)) (Nat.lt_irrefl _)
 ·exact absurd (Nat.lt_of_lt_of_le (Heap.lt_size (I.pin p hp).1) (by rw[z];exact hb)) (Nat.lt_irrefl _)
structure Turn (P:Program)(w:World)(K:W.Frag)(tg:Expr)(J:It)(fp:List Addr)(it:Addr)(tn:Nat->Heap->Prop):Prop where
 mem:it∈fp
 obj:∀i h,tn i h->∀b∈fp,∃o,h.get? b=some o/\∀v,o.data≠.cell v
 keep:∀i h h',tn i h->(∀b∈fp,∀o,h.get? b=some o->h'.get? b=some o)->tn i h'
 item:∀(X:Cx),X.prog=P->X.w=w->X.K=K->X.calm=true->∀(i:Nat) (pins:List (Addr×Obj)) (s:Shared) (σ:St) (H:Hp) (E:Value->Shared->Prop),Inv X pins σ H s->(∀b∈fp,FpOk X pins H b)->tn i s.heap->J.go i H→
  wpAny (model P w) X.A (pyNext (.ref it)) (fun r s1=>∃u,r=some u∧
   wpAny (model P w) X.A (letOwnedTupleGo tg (.ref it) u) (fun _ s2=>∃x H',Inv X pins σ H' s2/\RelV x u/\J.yld i H x H'/\tn (i+1) s2.heap/\∀b∈fp,H' b=none) E s1) E s
 done:∀(X:Cx),X.prog=P->X.w=w->X.K=K->X.calm=true->∀(i:Nat) (pins:List (Addr×Obj)) (s:Shared) (σ:St) (H:Hp) (E:Value->Shared->Prop),Inv X pins σ H s->(∀b∈fp,FpOk X pins H b)->tn i s.heap->J.stop i H→
  wpAny (model P w) X.A (pyNext (.ref it)) (fun r s1=>r=none/\Inv X pins σ H s1) E s
 self:∀(A:Around) (i:Nat) (s:Shared) (Q:Value->Shared->Prop) (E:Value->Shared->Prop),tn i s.heap->Q (.ref it) s->wpAny (model P w) A (pyIter (.ref it)) Q E s
abbrev TI:=St->Hp->(It->Hp->Prop)->Prop
def PIE (X:Cx)(pins:List (Addr×Obj))(σ:St)(tg:Expr)(R:It->Hp->Prop)(itv:Value)(s2:Shared):Prop:=
 ∃(it:Addr) (fp:List Addr) (tn:Nat->Heap->Prop) (J:It) (H':Hp),itv=.ref it/\Inv X pins σ H' s2/\Turn X.prog X.w X.K tg J fp it tn/\tn 0 s2.heap/\(∀b∈fp,FpOk X pins H' b)/\R J H'
def PI (X:Cx)(tg iter:Expr)(wi:TI):Prop:=
 ∀(pins:List (Addr×Obj)) (s:Shared) (σ:St) (H:Hp) (R:It->Hp->Prop),Inv X pins σ H s->wi σ H R→
  wpAny (model X.prog X.w) X.A (eval iter X.env) (fun v s1=>wpAny (model X.prog X.w) X.A (pyIter v) (PIE X pins σ tg R) X.xe s1) X.xe s
theorem go_of {M:Model}{A:Around}{E:Value->Shared->Prop}{s:Shared}{tg:Expr}{it:Addr}{u:Value}{o:Obj}{n:String}{vs:Array Value}{Q:Unit->Shared->Prop}(ho:s.heap.get? it=some o)(hc:o.cls=.type n)(hd:o.data=.fields vs)
  (hn:["enumerate","zip","dict_itemiterator","dict_reverseitemiterator","odict_iterator","itertools.zip_longest","itertools.pairwise"].contains n=false) (hQ:Q () s):wpAny M A (letOwnedTupleGo tg (.ref it) u) Q E s:=by
 unfold letOwnedTupleGo
 cases tg<;>first
  |exact wpAny_pure hQ
  | (cases u<;>first
      |exact wpAny_pure hQ
      | (refine wpAny_bind (wpAny_load ho ?_)
         rw[hc,hd]
         show wpAny M A (if (["enumerate","zip","dict_itemiterator","dict_reverseitemiterator","odict_iterator","itertools.zip_longest","itertools.pairwise"].contains n&&vs[0]?==some (rawInt _))=true then _ else _) Q E s
         rw[if_neg (by intro h;rw[hn,Bool.false_and] at h;cases h)]
         exact wpAny_pure hQ))
def Itl (K:W.Frag)(a:Addr):It:=
 ⟨fun i H=>∃xs x,SqL K H a xs/\xs[i]?=some x,fun i H x H'=>H'=H/\∀xs,SqL K H a xs->xs[i]?=some x,fun i H=>∃xs,SqL K H a xs/\xs.length<=i⟩
def Itt (K:W.Frag)(a:Addr):It:=
 ⟨fun i H=>∃xs x,SqT K H a xs/\xs[i]?=some x,fun i H x H'=>H'=H/\∀xs,SqT K H a xs->xs[i]?=some x,fun i H=>∃xs,SqT K H a xs/\xs.length<=i⟩
def Itr (lo:Int)(n:Nat):It:=⟨fun i _=>i<n,fun i H x H'=>H'=H/\x=.int (lo+i),fun i _=>n<=i⟩
theorem turn_list {P:Program}{w:World}{K:W.Frag}{tg:Expr}(a it:Addr):Turn P w K tg (Itl K a) [it] it (fun i h=>h.IsListIter it a i) where
 mem:=by simp
 obj:=fun i h st b hb=>by
  have e:b=it:=by simpa using hb
  subst e
  obtain⟨o,e,c,d⟩:=st
  exact⟨o,e,fun v z=>by rw[d] at z;cases z⟩
 keep:=fun i h h' st k=>st.at fun o e=>k it (by simp) o e
 item:=by
  intro X hP hw hK hc i pins s σ H E I hf st hg
  subst hP hw hK
  obtain⟨xs,x,hq,hx⟩:=hg
  obtain⟨its,rv,p,hz⟩:=I.list hq
  obtain⟨u,hu,ru⟩:=rv.get hx
  obtain⟨f0,f1,f2,f3,f4,f5⟩:=hf it (by simp)
  refine wpAny_pyNext_list_item st p.isList (x:=u) (by simpa using hu) fun h' st' sb=>?_
  have I1:Inv X pins σ H { s with heap:=h' }:=I.turned (t':=s.toks) (fun b o hb e=>(sb.2 b hb).trans e) f0 f1 f3 f4 f5
  obtain⟨o,e,c,d⟩:=id st'
  exact⟨u,rfl,go_of (s:={ s with heap:=h' }) e c d (by decide) ⟨x,H,I1,ru,⟨rfl,fun ys hy=>by rw[I.list_inj hy hq];exact hx⟩,st',fun b hb=>(hf b hb).1⟩⟩
 done:=by
  intro X hP hw hK hc i pins s σ H E I hf st hg
  subst hP hw hK
  obtain⟨xs,hq,hx⟩:=hg
  obtain⟨its,rv,p,hz⟩:=I.list hq
  obtain⟨f0,f1,f2,f3,f4,f5⟩:=hf it (by simp)
  have hl:=rv.length
  exact wpAny_pyNext_list_end (I.ok.hd hc) st p.isList (by simp;omega) fun h' eb=>⟨rfl,I.turned (t':=s.toks) (fun b o hb e=>eb b o hb e) f0 f1 f3 f4 f5⟩
 self:=fun _ _ _ _ _ st h=>wpAny_pyIter_listiter st h
theorem turn_tuple {P:Program}{w:World}{K:W.Frag}{tg:Expr}(a it:Addr):Turn P w K tg (Itt K a) [it] it (fun i h=>h.IsTupleIter it a i) where
 mem:=by simp
 obj:=fun i h st b hb=>by
  have e:b=it:=by simpa using hb
  subst e
  obtain⟨o,e,c,d⟩:=st
  exact⟨o,e,fun v z=>by rw[d] at z;cases z⟩
 keep:=fun i h h' st k=>st.at fun o e=>k it (by simp) o e
 item:=by
  intro X hP hw hK hc i pins s σ H E I hf st hg
  subst hP hw hK
  obtain⟨xs,x,hq,hx⟩:=hg
  obtain⟨its,rv,p,hz⟩:=I.tuple hq
  obtain⟨u,hu,ru⟩:=rv.get hx
  obtain⟨f0,f1,f2,f3,f4,f5⟩:=hf it (by simp)
  refine wpAny_pyNext_tuple_item st (show s.heap.IsTuple a its.toArray from p) (x:=u) (by simpa using hu) fun h' st' sb=>?_
  have I1:Inv X pins σ H { s with heap:=h' }:=I.turned (t':=s.toks) (fun b o hb e=>(sb.2 b hb).trans e) f0 f1 f3 f4 f5
  obtain⟨o,e,c,d⟩:=id st'
  exact⟨u,rfl,go_of (s:={ s with heap:=h' }) e c d (by decide) ⟨x,H,I1,ru,⟨rfl,fun ys hy=>by rw[I.tuple_inj hy hq];exact hx⟩,st',fun b hb=>(hf b hb).1⟩⟩
 done:=by
  intro X hP hw hK hc i pins s σ H E I hf st hg
  subst hP hw hK
  obtain⟨xs,hq,hx⟩:=hg
  obtain⟨its,rv,p,hz⟩:=I.tuple hq
  obtain⟨f0,f1,f2,f3,f4,f5⟩:=hf it (by simp)
  have hl:=rv.length
  exact wpAny_pyNext_tuple_end (I.ok.hd hc) st (show s.heap.IsTuple a its.toArray from p) (by simp;omega) fun h' eb=>⟨rfl,I.turned (t':=s.toks) (fun b o hb e=>eb b o hb e) f0 f1 f3 f4 f5⟩
 self:=fun _ _ _ _ _ st h=>wpAny_pyIter_tupleiter st h
theorem turn_range {P:Program}{w:World}{K:W.Frag}{tg:Expr}(it:Addr)(lo:Int)(n:Nat):Turn P w K tg (Itr lo n) [it] it (fun i h=>IsRangeIter h it (lo+(i:Nat)*1) ((n:Int)-(i:Nat)) 1) where
 mem:=by simp
 obj:=fun i h st b hb=>by
  have e:b=it:=by simpa using hb
  subst e
  exact⟨_,st,fun v z=>by
   have z':Data.fields _=Data.cell v:=z
   cases z'⟩
 keep:=fun i h h' st k=>k it (by simp) _ st
 item:=by
  intro X hP hw hK hc i pins s σ H E I hf st hg
  subst hP hw hK
  obtain⟨f0,f1,f2,f3,f4,f5⟩:=hf it (by simp)
  have W:=Walks.range (prog:=X.prog) (w:=X.w) (I.ok.hd hc) it lo 1 n
  refine W.item i s _ _ hg st fun v h' tk hv st' kk=>?_
  obtain⟨t,rfl⟩:=hv
  have I1:Inv X pins σ H { s with heap:=h',toks:=tk }:=I.turned (fun b o hb e=>kk b o (by simpa using hb) e) f0 f1 f3 f4 f5
  refine⟨_,rfl,go_of (s:={ s with heap:=h',toks:=tk }) (n:="range_iterator") st' rfl rfl (by decide) ⟨.int (lo+i),H,I1,⟨t,?_⟩,⟨rfl,rfl⟩,st',fun b hb=>(hf b hb).1⟩⟩
  rw[Int.mul_one]
 done:=by
  intro X hP hw hK hc i pins s σ H E I hf st hg
  subst hP hw hK
  obtain⟨f0,f1,f2,f3,f4,f5⟩:=hf it (by simp)
  exact wpAny_pyNext_range_end (I.ok.hd hc) st (by have:n<=i:=hg;omega) fun h' eb=>⟨rfl,I.turned (t':=s.toks) (fun b o hb e=>eb b o hb e) f0 f1 f3 f4 f5⟩
 self:=fun _ _ _ _ _ st h=>wpAny_pyIter_rangeiter st h
end L2
namespace L2
open PySem PySem.Spec PyProof.Rows
section
variable {X:Cx} {tg:Expr}
def iList (K:W.Frag)(tl:TE):TI:=fun σ H R=>tl σ H fun x H1=>∃a,x=.ref a/\(∃xs,SqL K H1 a xs)/\R (Itl K a) H1
def iTup (K:W.Frag)(tl:TE):TI:=fun σ H R=>tl σ H fun x H1=>∃a,x=.ref a/\(∃xs,SqT K H1 a xs)/\R (Itt K a) H1
theorem pi_list {l:Expr}{tl:TE}(hl:PE X l tl):PI X tg l (iList X.K tl):=by
 intro pins s σ H R I h
 refine thn (hl pins s σ H _ I h) fun v s1 hq9=>?_
 obtain⟨x,H1,I1,r1,q1⟩:=hq9
 obtain⟨a,e,⟨xs,hq⟩,q⟩:=q1
 subst e
 cases r1
 obtain⟨its,rv,p,hz⟩:=I1.list hq
 refine wpAny_pyIter_list p.isList ?_
 refine⟨s1.heap.objs.size,[s1.heap.objs.size],_,_,H1,rfl,I1.kept (t':=s1.toks) fun b o e=>Heap.get?_push_of_some _ e,turn_list a _,⟨_,Heap.get?_push_size _ rfl,rfl,rfl⟩,fun b hb=>?_,q⟩
 have e:b=s1.heap.objs.size:=by simpa using hb
 subst e
 exact I1.fpOk (Nat.le_refl _) (I1.hok.fresh (Nat.le_refl _))
theorem pi_tup {l:Expr}{tl:TE}(hl:PE X l tl):PI X tg l (iTup X.K tl):=by
 intro pins s σ H R I h
 refine thn (hl pins s σ H _ I h) fun v s1 hq9=>?_
 obtain⟨x,H1,I1,r1,q1⟩:=hq9
 obtain⟨a,e,⟨xs,hq⟩,q⟩:=q1
 subst e
 cases r1
 obtain⟨its,rv,p,hz⟩:=I1.tuple hq
 refine wpAny_pyIter_tuple (show s1.heap.IsTuple a its.toArray from p) ?_
 refine⟨s1.heap.objs.size,[s1.heap.objs.size],_,_,H1,rfl,I1.kept (t':=s1.toks) fun b o e=>Heap.get?_push_of_some _ e,turn_tuple a _,⟨_,Heap.get?_push_size _ rfl,rfl,rfl⟩,fun b hb=>?_,q⟩
 have e:b=s1.heap.objs.size:=by simpa using hb
 subst e
 exact I1.fpOk (Nat.le_refl _) (I1.hok.fresh (Nat.le_refl _))
theorem range_it {pins:List (Addr×Obj)}{σ:St}{H:Hp}{s:Shared}{R:It->Hp->Prop}{E:Value->Shared->Prop}{lo hi:Int}{t u v:Tok}{tk:Nat}(I:Inv X pins σ H s)(h1:-(2 ^ 62)<=lo)(h2:lo<2 ^ 62)(h3:-(2 ^ 62)<=hi)(h4:hi<2 ^ 62)
  (q:R (Itr lo (hi-lo).toNat) H):wpAny (model X.prog X.w) X.A (pyIter (.ref s.heap.objs.size)) (PIE X pins σ tg R) E { s with heap:=s.heap.push { cls:=.type "range",data:=.fields #[.int lo t,.int hi u,.int 1 v] },toks:=tk }:=by
 refine wpAny_pyIter_range (IsRange.new ..) (small_one h1 h2 h3 h4) ?_
 have I1:Inv X pins σ H { s with heap:=s.heap.push { cls:=.type "range",data:=.fields #[.int lo t,.int hi u,.int 1 v] },toks:=tk }:=I.kept fun b o e=>Heap.get?_push_of_some _ e
 refine⟨(s.heap.push { cls:=.type "range",data:=.fields #[.int lo t,.int hi u,.int 1 v] }).objs.size,[(s.heap.push { cls:=.type "range",data:=.fields #[.int lo t,.int hi u,.int 1 v] }).objs.size],_,_,H,rfl,
  I1.kept (t':=tk) fun b o e=>Heap.get?_push_of_some _ e,turn_range _ lo (hi-lo).toNat,?_,fun b hb=>?_,q⟩
 ·have e1:lo+((0:Nat):Int)*1=lo:=by simp
  have e2:(((hi-lo).toNat:Nat):Int)-((0:Nat):Int)=Builtin.Range.rangeSize lo hi 1:=by rw[rangeSize_one];split<;>omega
  show IsRangeIter _ _ (lo+((0:Nat):Int)*1) ((((hi-lo).toNat:Nat):Int)-((0:Nat):Int)) 1
  rw[e1,e2]
  exact Heap.get?_push_size _ rfl
 ·have e:b=(s.heap.push { cls:=.type "range",data:=.fields #[.int lo t,.int hi u,.int 1 v] }).objs.size:=by simpa using hb
  subst e
  exact I1.fpOk (Nat.le_refl _) (I1.hok.fresh (Nat.le_refl _))
def iRng1 (ta:TA):TI:=fun σ H R=>ta σ H fun vs H1=>∃j:Int,vs=[.int j]/\-(2 ^ 62)<=j/\j<2 ^ 62/\R (Itr 0 j.toNat) H1
def iRng2 (ta:TA):TI:=fun σ H R=>ta σ H fun vs H1=>∃i j:Int,vs=[.int i,.int j]/\(-(2 ^ 62)<=i/\i<2 ^ 62/\-(2 ^ 62)<=j/\j<2 ^ 62)/\R (Itr i (j-i).toNat) H1
theorem pi_range1 {a:Expr}{ta:TA}{p pos:Pos}(hg:Gl X "range")(hm:X.mg "range"=none)(ha:PA X [a] ta)(hs:starEach [a] X.env=[(false,eval a X.env)]:=by rfl):PI X tg (.Call (.Name "range" p) [a] [] pos) (iRng1 ta):=by
 intro pins s σ H R I h
 refine Call_ (ld_blt I hg hm boot_range (PyProof.Rows.callWith_type1 (thn (ha pos pins s σ H _ I h) fun us s1 ⟨vs,H1,I1,r1,q1⟩=>?_) hs rfl))
 obtain⟨j,e,q1,q2,q⟩:=q1
 subst e
 cases r1 with
 |cons r rr=>
  cases rr
  obtain⟨t,rfl⟩:=r
  exact call_range_1 (range_it I1 (by omega) (by omega) q1 q2 (by simpa using q))
theorem pi_range2 {a b:Expr}{ta:TA}{p pos:Pos}(hg:Gl X "range")(hm:X.mg "range"=none)(ha:PA X [a,b] ta)(hs:starEach [a,b] X.env=[(false,eval a X.env),(false,eval b X.env)]:=by rfl)(hs2:starEach [b] X.env=[(false,eval b X.env)]:=by rfl):
  PI X tg (.Call (.Name "range" p) [a,b] [] pos) (iRng2 ta):=by
 intro pins s σ H R I h
 refine Call_ (ld_blt I hg hm boot_range (PyProof.Rows.callWith_type1 (thn (ha pos pins s σ H _ I h) fun us s1 ⟨vs,H1,I1,r1,q1⟩=>?_) (by rw[hs,hs2]) (by rw[hs2];rfl)))
 obtain⟨i,j,e,⟨q1,q2,q3,q4⟩,q⟩:=q1
 subst e
 cases r1 with
 |cons r rr=>
  cases rr with
  |cons r' rr=>
   cases rr
   obtain⟨t,rfl⟩:=r
   obtain⟨t',rfl⟩:=r'
   exact call_range_2 (range_it I1 q1 q2 q3 q4 q)
def tFor (wi:TI)(g:TG)(tb:TS):TS:=fun D σ H=>wi σ H fun J H1=>∃W:Nat->Nat->St->Hp->Prop,(∃m,W 0 m σ H1)/\∀i m σ H,W i m σ H→
 (J.stop i H/\D.nx σ H)\/(J.go i H/\∃N:St->Hp->Prop,(∀σ' H',N σ' H'->∃m',m'<m/\W (i+1) m' σ' H')/\∀x H',J.yld i H x H'->g x σ H' fun σ2 H2=>tb { D with nx:=N,ct:=N,bk:=D.nx } σ2 H2)
def pinsAt (fp:List Addr)(h:Heap):List (Addr×Obj):=fp.filterMap fun b=>(h.get? b).map fun o=>(b,o)
theorem mem_pinsAt {fp:List Addr}{h:Heap}{b:Addr}{o:Obj}(hb:b∈fp)(e:h.get? b=some o):(b,o)∈pinsAt fp h:=List.mem_filterMap.mpr ⟨b,hb,by rw[e];rfl⟩
theorem of_pinsAt {fp:List Addr}{h:Heap}{p:Addr×Obj}(hp:p∈pinsAt fp h):p.1∈fp/\h.get? p.1=some p.2:=by
 obtain⟨b,hb,e⟩:=List.mem_filterMap.mp hp
 cases q:h.get? b with
 |none=>rw[q] at e;cases e
 |some o=>
  rw[q] at e
  have e':(b,o)=p:=Option.some.inj e
  subst e'
  exact⟨hb,q⟩
theorem Inv.pinned {pins:List (Addr×Obj)}{σ:St}{H:Hp}{s:Shared}{fp:List Addr}(I:Inv X pins σ H s)(hf:∀b∈fp,FpOk X pins H b)(ho:∀b∈fp,∃o,s.heap.get? b=some o/\∀v,o.data≠.cell v):Inv X (pins++pinsAt fp s.heap) σ H s:=
 I.pins_of fun p hp=>(List.mem_append.mp hp).elim (fun z=>I.pin p (List.mem_append_right _ z)) fun z=>by
  obtain⟨hb,e⟩:=of_pinsAt z
  obtain⟨f0,f1,f2,_⟩:=hf p.1 hb
  obtain⟨o,e',d⟩:=ho p.1 hb
  rw[e] at e';cases e'
  exact⟨e,f0,f1,f2,d⟩
theorem Inv.unpinned {pins pl:List (Addr×Obj)}{σ:St}{H:Hp}{s:Shared}(I:Inv X (pins++pl) σ H s):Inv X pins σ H s:=I.pins_of fun p hp=>I.pin p (List.mem_append_right _ (List.mem_append_left _ hp))
theorem ps_for {iter:Expr}{body:List Stmt}{wi:TI}{g:TG}{tb:TS}{pos:Pos}(hp:PassesOwn (model X.prog X.w) X.A X.env X.xe)(hc:X.calm=true)(hi:PI X tg iter wi)(hg:PG X tg g)(hb:PSs X body tb)
  (hs:∀x,foldedSetIterable iter X.env x=pure x:=by intro _;rfl):PS X (.For tg iter body [] pos) (tFor wi g tb):=by
 intro pins s σ H D I h
 refine wpAny_For (thn (hi pins s σ H _ I h) fun v s1 h1=>thn h1 fun itv s2 h2=>?_) hs
 obtain⟨it,fp,tn,J,H2,e,I2,T,st2,f2,W,⟨m0,w0⟩,turn⟩:=h2
 subst e
 have stat:∀{H':Hp},(∀b∈fp,H' b=none)->∀b∈fp,FpOk X pins H' b:=fun hn b hb=>⟨hn b hb,(f2 b hb).2⟩
 refine codeAny_forLoop_any (fun n s'=>∃i σ' H',Inv X pins σ' H' s'/\tn i s'.heap/\(∀b∈fp,H' b=none)/\W i n σ' H') ?_ m0 ⟨0,σ,H2,I2,st2,fun b hb=>(f2 b hb).1,w0⟩
 rintro n s3 ⟨i,σ3,H3,I3,st3,fr3,w3⟩
 rcases turn i n σ3 H3 w3 with⟨stop,qn⟩|⟨go,N,hN,step⟩
 ·refine wpAny_passesOwn hp (thn (T.done X rfl rfl rfl hc i pins s3 σ3 H3 X.xe I3 (stat fr3) st3 stop) fun r s4 ⟨hr,I4⟩=>?_)
  subst hr
  exact wpAny_execs_nil ⟨σ3,H3,I4,qn⟩
 ·refine wpAny_passesOwn hp (thn (T.item X rfl rfl rfl hc i pins s3 σ3 H3 X.xe I3 (stat fr3) st3 go) fun r s4 ⟨u,hr,h4⟩=>?_)
  subst hr
  refine wpAny_passesOwn hp (thn h4 fun _ s5 ⟨x,H5,I5,r5,y5,st5,fr5⟩=>?_)
  have I5':=I5.pinned (stat fr5) (T.obj _ _ st5)
  refine wpAny_passesOwn hp (thn (hg _ s5 σ3 H5 x u _ I5' r5 (step x H5 y5)) fun _ s6 ⟨σ6,H6,I6,q6⟩=>?_)
  refine wpAny_passesOwn hp (thn (hb _ s6 σ6 H6 _ I6 q6) fun f s7 q7=>?_)
  have again:∀{σ7:St} {H7:Hp},Inv X (pins++pinsAt fp s5.heap) σ7 H7 s7->N σ7 H7->∃m,m<n/\∃i σ' H',Inv X pins σ' H' s7/\tn i s7.heap/\(∀b∈fp,H' b=none)/\W i m σ' H':=fun {σ7 H7} I7 n7=>by
   obtain⟨m',hm,w7⟩:=hN σ7 H7 n7
   refine⟨m',hm,i+1,σ7,H7,I7.unpinned,T.keep _ _ _ st5 fun b hb o e=>(I7.pin (b,o) (List.mem_append_right _ (List.mem_append_right _ (mem_pinsAt hb e)))).1,fun b hb=>?_,w7⟩
   obtain⟨o,e,d⟩:=T.obj _ _ st5 b hb
   exact(I7.pin (b,o) (List.mem_append_right _ (List.mem_append_right _ (mem_pinsAt hb e)))).2.1
  cases f with
  |next=>obtain⟨σ7,H7,I7,n7⟩:=q7;exact again I7 n7
  |cont=>obtain⟨σ7,H7,I7,n7⟩:=q7;exact again I7 n7
  |brk=>obtain⟨σ7,H7,I7,q7⟩:=q7;exact⟨σ7,H7,I7.unpinned,q7⟩
  |ret v=>obtain⟨x7,σ7,H7,I7,r7,q7⟩:=q7;exact⟨x7,σ7,H7,I7.unpinned,r7,q7⟩
end
theorem for_list {K:W.Frag}{a:Addr}{xs:List V}{g:TG}{tb:TS}{D:Ends}{σ:St}{H:Hp}(Pv:Nat->St->Hp->Prop)(h0:Pv 0 σ H)(hl:∀i σ H,i<=xs.length->Pv i σ H->SqL K H a xs)
  (hs:∀i x σ H,xs[i]?=some x->Pv i σ H->g x σ H fun σ2 H2=>tb { D with nx:=Pv (i+1),ct:=Pv (i+1),bk:=D.nx } σ2 H2) (hd:∀σ H,Pv xs.length σ H->D.nx σ H):
  ∃W:Nat->Nat->St->Hp->Prop,(∃m,W 0 m σ H)/\∀i m σ H,W i m σ H→
   ((Itl K a).stop i H/\D.nx σ H)\/((Itl K a).go i H/\∃N:St->Hp->Prop,(∀σ' H',N σ' H'->∃m',m'<m/\W (i+1) m' σ' H')/\∀x H',(Itl K a).yld i H x H'->g x σ H' fun σ2 H2=>tb { D with nx:=N,ct:=N,bk:=D.nx } σ2 H2):=by
 refine⟨fun i m σ H=>m=xs.length-i/\i<=xs.length/\Pv i σ H,⟨xs.length,by simp,Nat.zero_le _,h0⟩,?_⟩
 rintro i m σ H ⟨rfl,hi,p⟩
 have q:=hl i σ H hi p
 by_cases hlt:i<xs.length
 ·refine .inr ⟨⟨xs,xs[i],q,by simp[hlt]⟩,Pv (i+1),fun σ' H' p'=>⟨xs.length-(i+1),by omega,rfl,hlt,p'⟩,fun x H' y=>?_⟩
  obtain⟨e,y⟩:=y
  subst e
  exact hs i x σ _ (y xs q) p
 ·have e:i=xs.length:=by omega
  subst e
  exact .inl ⟨⟨xs,q,Nat.le_refl _⟩,hd σ H p⟩
theorem for_tup {K:W.Frag}{a:Addr}{xs:List V}{g:TG}{tb:TS}{D:Ends}{σ:St}{H:Hp}(Pv:Nat->St->Hp->Prop)(h0:Pv 0 σ H)(hl:∀i σ H,i<=xs.length->Pv i σ H->SqT K H a xs)
  (hs:∀i x σ H,xs[i]?=some x->Pv i σ H->g x σ H fun σ2 H2=>tb { D with nx:=Pv (i+1),ct:=Pv (i+1),bk:=D.nx } σ2 H2) (hd:∀σ H,Pv xs.length σ H->D.nx σ H):
  ∃W:Nat->Nat->St->Hp->Prop,(∃m,W 0 m σ H)/\∀i m σ H,W i m σ H→
   ((Itt K a).stop i H/\D.nx σ H)\/((Itt K a).go i H/\∃N:St->Hp->Prop,(∀σ' H',N σ' H'->∃m',m'<m/\W (i+1) m' σ' H')/\∀x H',(Itt K a).yld i H x H'->g x σ H' fun σ2 H2=>tb { D with nx:=N,ct:=N,bk:=D.nx } σ2 H2):=by
 refine⟨fun i m σ H=>m=xs.length-i/\i<=xs.length/\Pv i σ H,⟨xs.length,by simp,Nat.zero_le _,h0⟩,?_⟩
 rintro i m σ H ⟨rfl,hi,p⟩
 have q:=hl i σ H hi p
 by_cases hlt:i<xs.length
 ·refine .inr ⟨⟨xs,xs[i],q,by simp[hlt]⟩,Pv (i+1),fun σ' H' p'=>⟨xs.length-(i+1),by omega,rfl,hlt,p'⟩,fun x H' y=>?_⟩
  obtain⟨e,y⟩:=y
  subst e
  exact hs i x σ _ (y xs q) p
 ·have e:i=xs.length:=by omega
  subst e
  exact .inl ⟨⟨xs,q,Nat.le_refl _⟩,hd σ H p⟩
theorem for_range {lo:Int}{n:Nat}{g:TG}{tb:TS}{D:Ends}{σ:St}{H:Hp}(Pv:Nat->St->Hp->Prop)(h0:Pv 0 σ H)
  (hs:∀i σ H,i<n->Pv i σ H->g (.int (lo+i)) σ H fun σ2 H2=>tb { D with nx:=Pv (i+1),ct:=Pv (i+1),bk:=D.nx } σ2 H2) (hd:∀σ H,Pv n σ H->D.nx σ H):
  ∃W:Nat->Nat->St->Hp->Prop,(∃m,W 0 m σ H)/\∀i m σ H,W i m σ H→
   ((Itr lo n).stop i H/\D.nx σ H)\/((Itr lo n).go i H/\∃N:St->Hp->Prop,(∀σ' H',N σ' H'->∃m',m'<m/\W (i+1) m' σ' H')/\∀x H',(Itr lo n).yld i H x H'->g x σ H' fun σ2 H2=>tb { D with nx:=N,ct:=N,bk:=D.nx } σ2 H2):=by
 refine⟨fun i m σ H=>m=n-i/\i<=n/\Pv i σ H,⟨n,by simp,Nat.zero_le _,h0⟩,?_⟩
 rintro i m σ H ⟨rfl,hi,p⟩
 by_cases hlt:i<n
 ·refine .inr ⟨hlt,Pv (i+1),fun σ' H' p'=>⟨n-(i+1),by omega,rfl,hlt,p'⟩,fun x H' y=>?_⟩
  obtain⟨e,y⟩:=y
  subst e y
  exact hs i σ _ hlt p
 ·have e:i=n:=by omega
  subst e
  exact .inl ⟨Nat.le_refl _,hd σ H p⟩
end L2
namespace L2
open PySem PySem.Spec PyProof.Rows
abbrev R2:=V->V->Hp->VK->Prop
def OpR (X:Cx)(f:Value->Value->Sem Value)(r:R2):Prop:=
 ∀(pins:List (Addr×Obj)) (s:Shared) (σ:St) (H:Hp) (x y:V) (v u:Value) (Q:VK),Inv X pins σ H s->RelV x v->RelV y u->r x y H Q→
  wpAny (model X.prog X.w) X.A (f v u) (EP X pins σ Q) X.xe s
def UnR (X:Cx)(f:Value->Sem Value)(r:V->Hp->VK->Prop):Prop:=
 ∀(pins:List (Addr×Obj)) (s:Shared) (σ:St) (H:Hp) (x:V) (v:Value) (Q:VK),Inv X pins σ H s->RelV x v->r x H Q→
  wpAny (model X.prog X.w) X.A (f v) (EP X pins σ Q) X.xe s
def CallR (X:Cx)(f:Value)(r:List V->Hp->VK->Prop):Prop:=
 ∀(pins:List (Addr×Obj)) (s:Shared) (σ:St) (H:Hp) (xs:List V) (us:List Value) (Q:VK),Inv X pins σ H s->Vals xs us->r xs H Q→
  wpAny (model X.prog X.w) X.A (call f us) (EP X pins σ Q) X.xe s
def tOp (r:R2)(ta tb:TE):TE:=fun σ H Q=>ta σ H fun x H1=>tb σ H1 fun y H2=>r x y H2 Q
def tUn (r:V->Hp->VK->Prop)(ta:TE):TE:=fun σ H Q=>ta σ H fun x H1=>r x H1 Q
def rI (C:Int->Int->Prop)(g:Int->Int->V):R2:=fun x y H Q=>∃i j,x=.int i/\y=.int j/\C i j/\Q (g i j) H
def rI0 (g:Int->Int->V):R2:=fun x y H Q=>∃i j,x=.int i/\y=.int j/\Q (g i j) H
def rU (g:Int->V):V->Hp->VK->Prop:=fun x H Q=>∃i,x=.int i/\Q (g i) H
section
variable {X:Cx} {a b c:Expr} {ta tb tc:TE} {pos:Pos}
theorem binT (ha:PE X a ta)(hb:PE X b tb){pins:List (Addr×Obj)}{s:Shared}{σ:St}{H:Hp}{R:V->V->Hp->Prop}(I:Inv X pins σ H s)
  (h:ta σ H fun x H1=>tb σ H1 fun y H2=>R x y H2) {Q:Value->Shared->Prop} {f:Value->Value->Sem Value}
  (hf:∀v u s2 x y H2,Inv X pins σ H2 s2->RelV x v->RelV y u->R x y H2->wpAny (model X.prog X.w) X.A (f v u) Q X.xe s2):
  wpAny (model X.prog X.w) X.A (eval a X.env) (fun v s₁=>wpAny (model X.prog X.w) X.A (eval b X.env) (fun u s₂=>wpAny (model X.prog X.w) X.A (f v u) Q X.xe s₂) X.xe s₁) X.xe s:=by
 refine thn (ha pins s σ H _ I h) fun v s1 hq9=>?_
 obtain⟨x,H1,I1,r1,q1⟩:=hq9
 refine thn (hb pins s1 σ H1 _ I1 q1) fun u s2 hq9=>?_
 obtain⟨y,H2,I2,r2,q2⟩:=hq9
 exact hf v u s2 x y H2 I2 r1 r2 q2
theorem pe_op {op:Operator}{r:R2}(ho:OpR X (binaryOp op) r)(ha:PE X a ta)(hb:PE X b tb):PE X (.BinOp a op b pos) (tOp r ta tb):=by
 intro pins s σ H Q I h
 exact wpAny_BinOp (binT ha hb I h fun v u s2 x y H2 I2 rx ry q=>ho pins s2 σ H2 x y v u Q I2 rx ry q)
theorem pe_un {op:UnaryOp}{r:V->Hp->VK->Prop}(ho:UnR X (unaryOp op) r)(ha:PE X a ta):PE X (.UnaryOp op a pos) (tUn r ta):=by
 intro pins s σ H Q I h
 exact UnaryOp_ (thn (ha pins s σ H _ I h) fun v s1 ⟨x,H1,I1,r1,q1⟩=>ho pins s1 σ H1 x v Q I1 r1 q1)
theorem opI {f:Value->Value->Sem Value}{C:Int->Int->Prop}{g:Int->Int->Int}
  (rule:∀(i j:Int) (t u:Tok) (s:Shared) (Q:Value->Shared->Prop) (E:Value->Shared->Prop),C i j->Q (.int (g i j) s.toks) { s with toks:=s.toks+1 }->wpAny (model X.prog X.w) X.A (f (.int i t) (.int j u)) Q E s):
  OpR X f (rI C fun i j=>.int (g i j)):=by
 intro pins s σ H x y v u Q I rx ry h
 obtain⟨i,j,rfl,rfl,hc,q⟩:=h
 obtain⟨t,rfl⟩:=rx
 obtain⟨t',rfl⟩:=ry
 exact rule i j t t' s _ _ hc ⟨.int (g i j),H,I.tok _,⟨_,rfl⟩,q⟩
theorem opI0 {f:Value->Value->Sem Value}{g:Int->Int->Int}
  (rule:∀(i j:Int) (t u:Tok) (s:Shared) (Q:Value->Shared->Prop) (E:Value->Shared->Prop),Q (.int (g i j) s.toks) { s with toks:=s.toks+1 }->wpAny (model X.prog X.w) X.A (f (.int i t) (.int j u)) Q E s):
  OpR X f (rI0 fun i j=>.int (g i j)):=by
 intro pins s σ H x y v u Q I rx ry h
 obtain⟨i,j,rfl,rfl,q⟩:=h
 obtain⟨t,rfl⟩:=rx
 obtain⟨t',rfl⟩:=ry
 exact rule i j t t' s _ _ ⟨.int (g i j),H,I.tok _,⟨_,rfl⟩,q⟩
theorem opB0 {f:Value->Value->Sem Value}{g:Int->Int->Bool}
  (rule:∀(i j:Int) (t u:Tok) (s:Shared) (Q:Value->Shared->Prop) (E:Value->Shared->Prop),Q (.bool (g i j)) s->wpAny (model X.prog X.w) X.A (f (.int i t) (.int j u)) Q E s):
  OpR X f (rI0 fun i j=>.bl (g i j)):=by
 intro pins s σ H x y v u Q I rx ry h
 obtain⟨i,j,rfl,rfl,q⟩:=h
 obtain⟨t,rfl⟩:=rx
 obtain⟨t',rfl⟩:=ry
 exact rule i j t t' s _ _ ⟨.bl (g i j),H,I,rfl,q⟩
def CDiv (i j:Int):Prop:=0<j/\j<1073741824
def CMul (i j:Int):Prop:=(-(2 ^ 64)<i/\i<2 ^ 64)\/(-(2 ^ 64)<j/\j<2 ^ 64)
theorem CMul.ok {i j:Int}(h:CMul i j):IntMulOk i j:=by
 rcases h with⟨h1,h2⟩|⟨h1,h2⟩
 ·exact .of_left (intBits_le_64 h1 h2)
 ·exact .of_right (intBits_le_64 h1 h2)
theorem op_add:OpR X (binaryOp .Add) (rI0 fun i j=>.int (i+j)):=opI0 fun _ _ _ _ _ _ _ q=>add_int q
theorem op_sub:OpR X (binaryOp .Sub) (rI0 fun i j=>.int (i-j)):=opI0 fun _ _ _ _ _ _ _ q=>sub_int q
theorem op_mul:OpR X (binaryOp .Mult) (rI CMul fun i j=>.int (i*j)):=opI fun _ _ _ _ _ _ _ hc q=>mul_int q hc.ok
theorem op_fdiv:OpR X (binaryOp .FloorDiv) (rI CDiv fun i j=>.int (i / j)):=opI fun i j _ _ _ _ _ hc q=>by
 have h1:(0:Int)<j:=hc.1
 have h2:j<1073741824:=hc.2
 exact floordiv_int (by omega) (by rw[Int.fdiv_eq_ediv_of_nonneg i (by omega)];exact q) (.inl (PyProof.noPylong_small (by omega)))
theorem op_mod:OpR X (binaryOp .Mod) (rI (fun _ j=>0<j) fun i j=>.int (i%j)):=opI fun i j _ _ _ _ _ hc q=>by
 have h1:(0:Int)<j:=hc
 exact mod_int' (by omega) (by rw[Int.fmod_eq_emod_of_nonneg i (by omega)];exact q)
theorem unI {f:Value->Sem Value}{g:Int->Int}
  (rule:∀(i:Int) (t:Tok) (s:Shared) (Q:Value->Shared->Prop) (E:Value->Shared->Prop),Q (.int (g i) s.toks) { s with toks:=s.toks+1 }->wpAny (model X.prog X.w) X.A (f (.int i t)) Q E s):
  UnR X f (rU fun i=>.int (g i)):=by
 intro pins s σ H x v Q I rx h
 obtain⟨i,rfl,q⟩:=h
 obtain⟨t,rfl⟩:=rx
 exact rule i t s _ _ ⟨.int (g i),H,I.tok _,⟨_,rfl⟩,q⟩
theorem un_neg:UnR X (unaryOp .USub) (rU fun i=>.int (-i)):=unI fun _ _ _ _ _ q=>neg_int q
end
def scal:V->V->Bool
 |.non,.non=>true | .non,.int _=>true | .int _,.non=>true | .non,.bl _=>true | .bl _,.non=>true | .non,.str _=>true | .str _,.non=>true
 |.int _,.int _=>true | .bl _,.bl _=>true | .str _,.str _=>true | .byt _,.byt _=>true
 |.int _,.str _=>true | .str _,.int _=>true | .bl _,.str _=>true | .str _,.bl _=>true
 |_,_=>false
def rEq:R2:=fun x y H Q=>scal x y=true/\Q (.bl (decide (x=y))) H
def rNe:R2:=fun x y H Q=>scal x y=true/\Q (.bl (!decide (x=y))) H
theorem dec_int {i j:Int}:decide (V.int i=V.int j)=(i==j):=by
 rw[Bool.eq_iff_iff]
 simp
theorem dec_bl {i j:Bool}:decide (V.bl i=V.bl j)=(i==j):=by
 rw[Bool.eq_iff_iff]
 simp
theorem dec_str {i j:Str}:decide (V.str i=V.str j)=(i==j):=by
 rw[Bool.eq_iff_iff]
 simp
theorem dec_byt {i j:Array UInt8}:decide (V.byt i=V.byt j)=(i.toList==j.toList):=by
 rw[Bool.eq_iff_iff]
 cases i
 cases j
 simp
section
variable {X:Cx} {a b c:Expr} {ta tb tc:TE} {pos:Pos}
theorem fin_bl {pins:List (Addr×Obj)}{σ:St}{H:Hp}{s:Shared}{Q:VK}{k k':Bool}(I:Inv X pins σ H s)(q:Q (.bl k) H)(e:k=k'):EP X pins σ Q (.bool k') s:=by
 subst e
 exact⟨.bl k,H,I,rfl,q⟩
theorem op_eq:OpR X (compareOp .Eq) rEq:=by
 intro pins s σ H x y v u Q I rx ry h
 obtain⟨hs,q⟩:=h
 cases x with
 |non=>
  cases rx
  cases y with
  |non=>cases ry;exact PySem.EqNone.eq_none_none (fin_bl I q (by simp))
  |bl j=>cases ry;exact PySem.EqNone.eq_none_bool (fin_bl I q (by simp))
  |int j=>obtain⟨t',rfl⟩:=ry;exact PySem.EqNone.eq_none_int (fin_bl I q (by simp))
  |str j=>obtain⟨t',rfl⟩:=ry;exact PySem.EqNone.eq_none_str (fin_bl I q (by simp))
  |_=>exact absurd (show false=true from hs) Bool.false_ne_true
 |bl i=>
  cases rx
  cases y with
  |non=>cases ry;exact PySem.EqNone.eq_bool_none (fin_bl I q (by simp))
  |bl j=>cases ry;exact eq_bool (fin_bl I q dec_bl)
  |str j=>obtain⟨t',rfl⟩:=ry;exact PySem.EqMixed.eq_bool_str (fin_bl I q (by simp))
  |_=>exact absurd (show false=true from hs) Bool.false_ne_true
 |int i=>
  obtain⟨t,rfl⟩:=rx
  cases y with
  |non=>cases ry;exact PySem.EqNone.eq_int_none (fin_bl I q (by simp))
  |int j=>obtain⟨t',rfl⟩:=ry;exact eq_int (fin_bl I q dec_int)
  |str j=>obtain⟨t',rfl⟩:=ry;exact PySem.EqMixed.eq_int_str (fin_bl I q (by simp))
  |_=>exact absurd (show false=true from hs) Bool.false_ne_true
 |str i=>
  obtain⟨t,rfl⟩:=rx
  cases y with
  |non=>cases ry;exact PySem.EqNone.eq_str_none (fin_bl I q (by simp))
  |bl j=>cases ry;exact PySem.EqMixed.eq_str_bool (fin_bl I q (by simp))
  |int j=>obtain⟨t',rfl⟩:=ry;exact PySem.EqMixed.eq_str_int (fin_bl I q (by simp))
  |str j=>obtain⟨t',rfl⟩:=ry;exact eq_str (fin_bl I q dec_str)
  |_=>exact absurd (show false=true from hs) Bool.false_ne_true
 |byt i=>
  obtain⟨t,rfl⟩:=rx
  cases y with
  |byt j=>obtain⟨t',rfl⟩:=ry;exact W.eq_bytes (fin_bl I q dec_byt)
  |_=>exact absurd (show false=true from hs) Bool.false_ne_true
 |_=>cases y<;>exact absurd (show false=true from hs) Bool.false_ne_true
theorem op_ne:OpR X (compareOp .NotEq) rNe:=by
 intro pins s σ H x y v u Q I rx ry h
 obtain⟨hs,q⟩:=h
 cases x with
 |non=>
  cases rx
  cases y with
  |non=>cases ry;exact PySem.EqNone.ne_none_none (fin_bl I q (by simp))
  |bl j=>cases ry;exact PySem.EqNone.ne_none_bool (fin_bl I q (by simp))
  |int j=>obtain⟨t',rfl⟩:=ry;exact PySem.EqNone.ne_none_int (fin_bl I q (by simp))
  |str j=>obtain⟨t',rfl⟩:=ry;exact PySem.EqNone.ne_none_str (fin_bl I q (by simp))
  |_=>exact absurd (show false=true from hs) Bool.false_ne_true
 |bl i=>
  cases rx
  cases y with
  |non=>cases ry;exact PySem.EqNone.ne_bool_none (fin_bl I q (by simp))
  |bl j=>cases ry;exact ne_bool (fin_bl I q (congrArg not dec_bl))
  |str j=>obtain⟨t',rfl⟩:=ry;exact PySem.EqMixed.ne_bool_str (fin_bl I q (by simp))
  |_=>exact absurd (show false=true from hs) Bool.false_ne_true
 |int i=>
  obtain⟨t,rfl⟩:=rx
  cases y with
  |non=>cases ry;exact PySem.EqNone.ne_int_none (fin_bl I q (by simp))
  |int j=>obtain⟨t',rfl⟩:=ry;exact ne_int (fin_bl I q (congrArg not dec_int))
  |str j=>obtain⟨t',rfl⟩:=ry;exact PySem.EqMixed.ne_int_str (fin_bl I q (by simp))
  |_=>exact absurd (show false=true from hs) Bool.false_ne_true
 |str i=>
  obtain⟨t,rfl⟩:=rx
  cases y with
  |non=>cases ry;exact PySem.EqNone.ne_str_none (fin_bl I q (by simp))
  |bl j=>cases ry;exact PySem.EqMixed.ne_str_bool (fin_bl I q (by simp))
  |int j=>obtain⟨t',rfl⟩:=ry;exact PySem.EqMixed.ne_str_int (fin_bl I q (by simp))
  |str j=>obtain⟨t',rfl⟩:=ry;exact ne_str (fin_bl I q (congrArg not dec_str))
  |_=>exact absurd (show false=true from hs) Bool.false_ne_true
 |byt i=>
  obtain⟨t,rfl⟩:=rx
  cases y with
  |byt j=>obtain⟨t',rfl⟩:=ry;exact W.ne_bytes (fin_bl I q (congrArg not dec_byt))
  |_=>exact absurd (show false=true from hs) Bool.false_ne_true
 |_=>cases y<;>exact absurd (show false=true from hs) Bool.false_ne_true
theorem op_lt:OpR X (compareOp .Lt) (rI0 fun i j=>.bl (decide (i<j))):=opB0 fun _ _ _ _ _ _ _ q=>lt_int q
theorem op_gt:OpR X (compareOp .Gt) (rI0 fun i j=>.bl (decide (j<i))):=opB0 fun _ _ _ _ _ _ _ q=>gt_int q
theorem op_isN:OpR X (compareOp .Is) (fun x y H Q=>y=.non/\Q (.bl (decide (x=.non))) H):=by
 intro pins s σ H x y v u Q I rx ry h
 obtain⟨rfl,q⟩:=h
 cases ry
 refine is_none_gen (fin_bl I q ?_)
 cases x<;>first
  | (cases rx;rfl)
  | (obtain⟨t,rfl⟩:=rx;rfl)
theorem op_notN:OpR X (compareOp .IsNot) (fun x y H Q=>y=.non/\Q (.bl (!decide (x=.non))) H):=by
 intro pins s σ H x y v u Q I rx ry h
 obtain⟨rfl,q⟩:=h
 cases ry
 refine isnot_none_gen (fin_bl I q ?_)
 cases x<;>first
  | (cases rx;rfl)
  | (obtain⟨t,rfl⟩:=rx;rfl)
theorem nomark (b:Expr){op:CmpOp}(h:op≠.In:=by decide)(h2:op≠.NotIn:=by decide):behindInMarks op b=false:=by
 have e1:(op==CmpOp.In)=false:=by cases op<;>first|rfl|exact absurd rfl h
 have e2:(op==CmpOp.NotIn)=false:=by cases op<;>first|rfl|exact absurd rfl h2
 cases b<;>simp[behindInMarks,e1,e2]
theorem pe_cmpR {op:CmpOp}{r:R2}(ho:OpR X (compareOp op) r)(ha:PE X a ta)(hb:PE X b tb)(hm:behindInMarks op b=false):PE X (.Compare a [op] [b] pos) (tOp r ta tb):=by
 intro pins s σ H Q I h
 exact wpAny_Compare1 (binT ha hb I h fun v u s2 x y H2 I2 rx ry q=>ho pins s2 σ H2 x y v u Q I2 rx ry q) hm
def tTest (t:TE):TT:=fun σ H Q=>t σ H fun x H'=>∃k,x=.bl k/\Q k H'
theorem pt_cmpR {op:CmpOp}{r:R2}(ho:OpR X (compareOp op) r)(ha:PE X a ta)(hb:PE X b tb)(hm:behindInMarks op b=false):PT X (.Compare a [op] [b] pos) (tTest (tOp r ta tb)):=by
 intro pins s σ H Q I h
 refine wpAny_isTrue_Compare1 (thn (ha pins s σ H _ I h) fun v s1 ⟨x,H1,I1,r1,q1⟩=>thn (hb pins s1 σ H1 _ I1 q1) fun u s2 ⟨y,H2,I2,r2,q2⟩=>
  thn (ho pins s2 σ H2 x y v u _ I2 r1 r2 q2) fun c s3 ⟨z,H3,I3,r3,k,e,q3⟩=>?_) hm
 subst e
 cases r3
 exact wpAny_truthy_bool ⟨H3,I3,q3⟩
theorem line63:(sizeLine:Nat)<2 ^ 63:=by rw[sizeLine_eq];decide
theorem vals1 {x:V}{us:List Value}(r:Vals [x] us):∃u,us=[u]/\RelV x u:=by
 cases r with
 |cons r1 r2=>cases r2;exact⟨_,rfl,r1⟩
theorem vals2 {x y:V}{us:List Value}(r:Vals [x,y] us):∃u w',us=[u,w']/\RelV x u/\RelV y w':=by
 cases r with
 |cons r1 r2=>
  cases r2 with
  |cons r3 r4=>cases r4;exact⟨_,_,rfl,r1,r3⟩
theorem call_max2 (hc:X.calm=true):CallR X (.builtin "max") (fun xs H Q=>∃i j,xs=[.int i,.int j]/\Q (.int (if j > i then j else i)) H):=by
 intro pins s σ H xs us Q I r h
 obtain⟨i,j,rfl,q⟩:=h
 obtain⟨u,w',rfl,⟨t,rfl⟩,⟨t',rfl⟩⟩:=vals2 r
 refine max_two_ints (I.ok.hd hc) fun h' tk k=>⟨_,H,I.kept k,?_,q⟩
 by_cases hj:j > i
 ·rw[if_pos hj,if_pos hj];exact⟨_,rfl⟩
 ·rw[if_neg hj,if_neg hj];exact⟨_,rfl⟩
theorem call_min2 (hc:X.calm=true):CallR X (.builtin "min") (fun xs H Q=>∃i j,xs=[.int i,.int j]/\Q (.int (if j<i then j else i)) H):=by
 intro pins s σ H xs us Q I r h
 obtain⟨i,j,rfl,q⟩:=h
 obtain⟨u,w',rfl,⟨t,rfl⟩,⟨t',rfl⟩⟩:=vals2 r
 refine min_two_ints (I.ok.hd hc) fun h' tk k=>⟨_,H,I.kept k,?_,q⟩
 by_cases hj:j<i
 ·rw[if_pos hj,if_pos hj];exact⟨_,rfl⟩
 ·rw[if_neg hj,if_neg hj];exact⟨_,rfl⟩
end
end L2
namespace L2
open PySem PySem.Spec PyProof.Rows
theorem RelO.some_of {v:V}{o:Option Value}(r:RelO (some v) o):∃u,o=some u/\RelV v u:=by
 cases o with
 |none=>exact(show False from r).elim
 |some u=>exact⟨u,rfl,r⟩
end L2
namespace L2
open PySem PySem.Spec PyProof.Rows
structure Room (k:Nat)(A:Around):Prop where
 hd:A.handled=none
 dp:A.depth+3*k+5<recursionLimit
 un:A.units+16*k+200<cLine
theorem Room.mono {j k:Nat}{A:Around}(r:Room k A)(h:j<=k):Room j A:=⟨r.hd,by have:=r.dp;omega,by have:=r.un;omega⟩
theorem Room.deeper {k:Nat}{A:Around}(r:Room (k+1) A)(env:Env):Room k (A.deeper env):=
 ⟨r.hd,by have:=r.dp;show A.depth+1+3*k+5<_;omega,by have:=r.un;show A.units+3+16*k+200<_;omega⟩
theorem Room.in1 {k:Nat}{A:Around}(r:Room (k+1) A):Room k A.in1:=
 ⟨r.hd,by have:=r.dp;show A.depth+3*k+5<_;omega,by have:=r.un;show A.units+1+16*k+200<_;omega⟩
theorem make_depth {A:Around}{C:Addr}{us:List Value}{kw:List (Str×Value)}:(A.under (.builtin "type.__call__" ⟨.ref C::us,kw⟩)).depth=A.depth+1:=by
 first|rfl|simp[Around.under,Code.weight,Code.isCreation,Code.isGuard,Code.isCaller,Code.frames,Code.isFrame,guardIds]
theorem make_units {A:Around}{C:Addr}{us:List Value}{kw:List (Str×Value)}:(A.under (.builtin "type.__call__" ⟨.ref C::us,kw⟩)).units=A.units+1:=by
 first|rfl|simp[Around.under,Code.cUnits,Code.frames,Code.isFrame]
theorem Room.make {k:Nat}{A:Around}(r:Room (k+1) A)(C:Addr)(us:List Value)(kw:List (Str×Value)):Room k (A.under (.builtin "type.__call__" ⟨.ref C::us,kw⟩)):=
 ⟨r.hd,by have:=r.dp;rw[make_depth];omega,by have:=r.un;rw[make_units];omega⟩
theorem Room.depth {k:Nat}{A:Around}(r:Room k A):A.depth<recursionLimit:=by have:=r.dp;omega
theorem Room.units {k:Nat}{A:Around}(r:Room k A):A.units+64<cLine:=by have:=r.un;omega
theorem Room.units0 {k:Nat}{A:Around}(r:Room k A):A.units<cLine:=by have:=r.un;omega
def tNil:TA:=fun _ H Q=>Q [] H
def tCons (ta:TE)(tr:TA):TA:=fun σ H Q=>ta σ H fun x H1=>tr σ H1 fun xs H2=>Q (x::xs) H2
section
variable {X:Cx} {e:Expr} {es:List Expr} {te:TE} {t:TA} {pos:Pos}
theorem pa_nil:PA X [] tNil:=fun _ _ _ _ H Q I h=>Calls.spliced_nil ⟨[],H,I,.nil,h⟩
theorem pa_cons (ha:PE X e te)(hr:PA X es t)(hs:starEach (e::es) X.env=(false,eval e X.env)::starEach es X.env:=by rfl):PA X (e::es) (tCons te t):=by
 intro pos pins s σ H Q I h
 rw[hs]
 show wpAny _ _ (spliced ((false,eval e X.env)::backTo pos (starEach es X.env))) _ _ s
 refine Calls.spliced_cons (thn (ha pins s σ H _ I h) fun u s1 ⟨x,H1,I1,r1,q1⟩=>?_)
 exact thn (hr pos pins s1 σ H1 _ I1 q1) fun us s2 ⟨xs,H2,I2,r2,q2⟩=>⟨x::xs,H2,I2,.cons r1 r2,q2⟩
def tTup (t:TA):TE:=fun σ H Q=>t σ H fun xs H1=>xs.length<=sizeLine/\∀p,H1 p=none->Q (.ref p) (upd H1 p (.tup xs))
def tLst (t:TA):TE:=fun σ H Q=>t σ H fun xs H1=>xs.length<=sizeLine/\∀p,H1 p=none->Q (.ref p) (upd H1 p (.lst xs))
theorem pe_tup {x1}(h:PA X es t):PE X (.Tuple es x1 pos) (tTup t):=by
 intro pins s σ H Q I hq
 refine wpAny_Tuple_spliced (thn (h pos pins s σ H _ I hq) fun us s1 ⟨xs,H1,I1,r,z,q⟩=>⟨by rw[<- r.length];exact z,?_⟩)
 have hf:H1 s1.heap.objs.size=none:=I1.hok.fresh (Nat.le_refl _)
 refine⟨.ref s1.heap.objs.size,upd H1 s1.heap.objs.size (.tup xs),I1.laid (t':=s1.toks) (fun b u e=>Heap.get?_push_of_some _ e) (Nat.le_refl _) ?_,rfl,q _ hf⟩
 exact⟨z,us,r,⟨_,Heap.get?_push_size _ rfl,rfl,_,rfl⟩⟩
theorem pe_lst (h:PA X es t):PE X (.List es pos) (tLst t):=by
 intro pins s σ H Q I hq
 refine wpAny_List_spliced (thn (h pos pins s σ H _ I hq) fun us s1 ⟨xs,H1,I1,r,z,q⟩=>⟨by rw[<- r.length];exact z,?_⟩)
 have hf:H1 s1.heap.objs.size=none:=I1.hok.fresh (Nat.le_refl _)
 refine⟨.ref s1.heap.objs.size,upd H1 s1.heap.objs.size (.lst xs),I1.laid (t':=s1.toks) (fun b u e=>Heap.get?_push_of_some _ e) (Nat.le_refl _) ?_,rfl,q _ hf⟩
 exact⟨z,us,0,r,Heap.get?_push_size _ rfl⟩
end
abbrev Sp:=List V->Hp->VK->XK->Prop
abbrev CXT:=List Env->Hp->Shared->XK->Value->Shared->Prop
structure Env0 (P:Program)(w:World)(K:W.Frag)(mg:Str->Option Value)(base:Heap)(A:Around)(outer:List Env)(s:Shared)(H:Hp):Prop where
 frames:A.frames=some outer
 mod:Mod K mg base
 bs:∀b o,base.get? b=some o->s.heap.get? b=some o/\H b=none
 bsz:base.objs.size<=s.heap.objs.size
 funs:s.heap.FunFrames base outer
 frf:∀b∈frs outer,H b=none
 hok:HOk P w H s.heap
 bare:AllBare s.gens
def CE (outer:List Env)(P:Program)(w:World)(H:Hp)(s:Shared)(Q:VK)(u:Value)(s':Shared):Prop:=
 ∃v H',s'.os=s.os/\AllBare s'.gens/\Un (frs outer) [] H H' s.heap s'.heap/\HOk P w H' s'.heap/\RelV v u/\Q v H'
def CR (CX:CXT)(outer:List Env)(P:Program)(w:World)(H:Hp)(s:Shared)(Q:VK)(E:XK)(r:Result)(s':Shared):Prop:=
 match r with
 |.ok (.ret u)=>CE outer P w H s Q u s'
 |.ok _=>False
 |.error e=>CX outer H s E e s'
structure FnOk (P:Program)(w:World)(K:W.Frag)(mg:Str->Option Value)(base:Heap)(CX:CXT)(k:Nat)(f:Addr)(fd:FuncData)(ps:List Str)(sp:Sp):Prop where
 len:∀vs H Q E,sp vs H Q E->vs.length=ps.length
 run:∀(A:Around) (outer:List Env) (s:Shared) (H:Hp) (args:Args) (us:List Value) (vs:List V) (Q:VK) (E:XK),Room k A->Env0 P w K mg base A outer s H->BindsTo s fd args (ps.zip us)->Vals vs us->sp vs H Q E→
  codeAny (model P w) A (.call (.ref f) args) (CR CX outer P w H s Q E) s
theorem Env0.make {P:Program}{w:World}{K:W.Frag}{mg:Str->Option Value}{base:Heap}{A:Around}{outer:List Env}{s:Shared}{H:Hp}(e:Env0 P w K mg base A outer s H)(C:Addr)(us:List Value)(kw:List (Str×Value)):
  Env0 P w K mg base (A.under (.builtin "type.__call__" ⟨.ref C::us,kw⟩)) outer s H:=⟨by first|exact e.frames|(simpa [Around.under,Code.envs,Code.isFrame,pushEnvs] using e.frames),e.mod,e.bs,e.bsz,e.funs,e.frf,e.hok,e.bare⟩
theorem Env0.in1 {P:Program}{w:World}{K:W.Frag}{mg:Str->Option Value}{base:Heap}{A:Around}{outer:List Env}{s:Shared}{H:Hp}(e:Env0 P w K mg base A outer s H):
  Env0 P w K mg base A.in1 outer s H:=⟨e.frames,e.mod,e.bs,e.bsz,e.funs,e.frf,e.hok,e.bare⟩
section
variable {X:Cx} {pins:List (Addr×Obj)} {σ:St} {H:Hp} {s s':Shared}
theorem Inv.env0 (I:Inv X pins σ H s):Env0 X.prog X.w X.K X.mg X.base X.A X.stack s H:=
 ⟨I.ok.frames,I.ok.mod,I.bs,Nat.le_trans I.ok.bsz I.sz,I.stack,I.stkFree,I.hok,I.bare⟩
theorem Inv.after {Q:VK}{u:Value}(I:Inv X pins σ H s)(h:CE X.stack X.prog X.w H s Q u s'):EP X pins σ Q u s':=by
 obtain⟨v,H',os,bare,un,hok,r,q⟩:=h
 obtain⟨hh,g,d,t,os'⟩:=s'
 obtain rfl:os'=s.os:=os
 exact⟨v,H',I.call (h':=hh) (g':=g) (d':=d) (t':=t) (ch:=[]) un hok bare (fun b z=>absurd z (by simp)),r,q⟩
end
def tCall (sp:Sp)(dvs:List V)(E:XK)(t:TA):TE:=fun σ H Q=>t σ H fun vs H1=>sp (vs++dvs) H1 Q E
def Binds (K:W.Frag)(fd:FuncData)(ps:List Str)(ds:List Value):Prop:=
 ∀(s:Shared) (us:List Value),K.In s.heap->(us++ds).length=ps.length->BindsTo s fd ⟨us,[]⟩ (ps.zip (us++ds))
theorem Binds.all {K:W.Frag}{fd:FuncData}{ps:List Str}(h:∀us:List Value,us.length=ps.length->bindArgs fd ⟨us,[]⟩=pure (ps.zip us)):Binds K fd ps []:=fun s us _ hl=>by
 rw[List.append_nil] at hl ⊢
 exact .of_eq (h us hl)
def Passes (CX:CXT)(X:Cx)(E:XK):Prop:=∀(pins:List (Addr×Obj)) (σ:St) (H:Hp) (s:Shared) (e:Value) (s':Shared),Inv X pins σ H s->CX X.stack H s E e s'->X.xe e s'
section
variable {X:Cx} {CX:CXT} {k:Nat} {f C:Addr} {fd:FuncData} {ps:List Str} {sp:Sp} {dvs:List V} {ds:List Value} {E:XK} {x m:Str} {p pos apos:Pos} {e o:Expr} {es:List Expr} {ta:TE} {t:TA}
theorem run_fn {pins:List (Addr×Obj)}{σ:St}{H:Hp}{s:Shared}{Q:VK}{us:List Value}{vs:List V}(F:FnOk X.prog X.w X.K X.mg X.base CX k f fd ps sp)(hr:Room k X.A)(hb:Binds X.K fd ps ds)(hd:Vals dvs ds)(hx:Passes CX X E)
  (I:Inv X pins σ H s) (r:Vals vs us) (h:sp (vs++dvs) H Q E):wpAny (model X.prog X.w) X.A (call (.ref f) us) (EP X pins σ Q) X.xe s:=by
 have r2:Vals (vs++dvs) (us++ds):=r.append hd
 have hl:(us++ds).length=ps.length:=by rw[<- r2.length];exact F.len _ _ _ _ h
 refine wpAny_call (codeAny_mono (F.run X.A X.stack s H ⟨us,[]⟩ (us++ds) (vs++dvs) Q E hr I.env0 (hb s us I.kIn hl) r2 h) fun r s' hq=>?_)
 cases r with
 |error e=>exact hx pins σ H s e s' I hq
 |ok fl=>
  cases fl with
  |ret u=>exact I.after hq
  |next=>exact False.elim hq
  |brk=>exact False.elim hq
  |cont=>exact False.elim hq
theorem pe_call (F:FnOk X.prog X.w X.K X.mg X.base CX k f fd ps sp)(hr:Room k X.A)(hg:Gl X x)(hm:X.mg x=some (.ref f))(hk:W.keepIn X.K (.ref f)=true)(hb:Binds X.K fd ps ds)(hd:Vals dvs ds)(hx:Passes CX X E)
  (ha:PA X (e::es) t) (hdb:(x==("__debug__":Str))=false:=by decide) (he:starEach (e::es) X.env=(false,eval e X.env)::starEach es X.env:=by rfl) (hpl:(backTo pos (starEach es X.env)).any (·.1)=false:=by rfl):
  PE X (.Call (.Name x p) (e::es) [] pos) (tCall sp dvs E t):=by
 intro pins s σ H Q I h
 refine wpAny_Call_Name_kw (ld_glob I hg hm ?_ hdb)
 refine W.callWith_K (h₀:=X.base) I.ok.mod.kin hk (thn (ha pos pins s σ H _ I h) fun us s1 ⟨vs,H1,I1,r,q⟩=>⟨I1.kIn,?_⟩) he hpl
 exact run_fn F hr hb hd hx I1 r q
end
def PK (X:Cx)(kws:List Keyword)(t:TA):Prop:=
 ∀(pos:Pos) (pins:List (Addr×Obj)) (s:Shared) (σ:St) (H:Hp) (Q:List V->Hp->Prop),Inv X pins σ H s->t σ H Q->wpAny (model X.prog X.w) X.A (evalAll ((backToKw pos (keywordEach kws X.env)).map (·.2))) (AP X pins σ Q) X.xe s
section
variable {X:Cx} {CX:CXT} {k:Nat} {f C:Addr} {fd:FuncData} {ps ks:List Str} {sp:Sp} {E:XK} {x m:Str} {p pos apos kpos:Pos} {e o:Expr} {es:List Expr} {kws:List Keyword} {te ta:TE} {t tk:TA} {nm:Option Str}
theorem pk_nil:PK X [] tNil:=fun _ _ _ _ H Q I h=>wpAny_evalAll_nil ⟨[],H,I,.nil,h⟩
theorem pk_cons (ha:PE X e te)(hr:PK X kws t):PK X (⟨nm,e,kpos⟩::kws) (tCons te t):=by
 intro pos pins s σ H Q I h
 show wpAny _ _ (evalAll ((do let v ← eval e X.env;standAt pos;pure v)::(backToKw pos (keywordEach kws X.env)).map (·.2))) _ _ s
 refine wpAny_evalAll_cons (wpAny_bind (thn (ha pins s σ H _ I h) fun u s1 ⟨x,H1,I1,r1,q1⟩=>wpAny_bind (wpAny_standAt (wpAny_pure ?_))))
 exact thn (hr pos pins s1 σ H1 _ I1 q1) fun us s2 ⟨xs,H2,I2,r2,q2⟩=>⟨x::xs,H2,I2,.cons r1 r2,q2⟩
variable {g:List Value->List Value->List Value} {gV:List V->List V->List V}
end
structure FnScope (N P:List Str)(sc:Scope):Prop where
 kind:sc.kind=.function
 co:sc.isCoroutine=false
 gen:sc.isGenerator=false
 nd:N.Nodup
 pre:N.take P.length=P
 par:∀x∈P,sc.names.lookup x=some .local\/sc.names.lookup x=some .cell
 nofree:∀y∈sc.names,y.2≠.free
theorem FnScope.of {N P:List Str}{sc:Scope}(h:sc.kind=.function/\sc.isCoroutine=false/\sc.isGenerator=false/\N.Nodup/\N.take P.length=P/\(∀x∈P,sc.names.lookup x=some .local\/sc.names.lookup x=some .cell)/\∀y∈sc.names,y.2≠.free):FnScope N P sc:=⟨h.1,h.2.1,h.2.2.1,h.2.2.2.1,h.2.2.2.2.1,h.2.2.2.2.2.1,h.2.2.2.2.2.2⟩
theorem bindL_out {kindOf:Str->Option NameKind}{x:Str}:∀{binds:List (Str×Value)} {m:Str->Option Value},(∀v,(x,v)∉binds)->bindL kindOf binds m x=m x
 | [],_,_=>rfl
 | (n,v)::r,m,h=>by
  unfold bindL
  rw[bindL_out fun w hw=>h w (List.mem_cons_of_mem _ hw)]
  split
  ·have:x≠n:=by rintro rfl;exact h v List.mem_cons_self
   simp[this]
  ·rfl
theorem bindC_out {kindOf:Str->Option NameKind}{x:Str}:∀{binds:List (Str×Value)} {m:Str->Option Value},(∀v,(x,v)∉binds)->bindC kindOf binds m x=m x
 | [],_,_=>rfl
 | (n,v)::r,m,h=>by
  unfold bindC
  rw[bindC_out fun w hw=>h w (List.mem_cons_of_mem _ hw)]
  split
  ·rfl
  ·have:x≠n:=by rintro rfl;exact h v List.mem_cons_self
   simp[this]
theorem bindL_get {kindOf:Str->Option NameKind}{x:Str}{v:Value}:∀{P:List Str} {vs:List Value} {i:Nat} {m:Str->Option Value},P.Nodup->P[i]?=some x->vs[i]?=some v->kindOf x=some .local→
  bindL kindOf (P.zip vs) m x=some v
 | [],_,_,_,_,h,_,_=>by simp at h
 |_::_,[],_,_,_,_,h,_=>by simp at h
 |p::P,w::vs,0,m,nd,h1,h2,hk=>by
  simp at h1 h2;subst h1;subst h2
  show bindL kindOf ((p,w)::P.zip vs) m p=_
  unfold bindL
  rw[bindL_out fun v hv=>(List.nodup_cons.mp nd).1 (List.of_mem_zip hv).1,if_pos hk]
  simp
 |p::P,w::vs,i+1,m,nd,h1,h2,hk=>by
  show bindL kindOf ((p,w)::P.zip vs) m x=_
  unfold bindL
  exact bindL_get (i:=i) (List.nodup_cons.mp nd).2 (by simpa using h1) (by simpa using h2) hk
theorem bindC_get {kindOf:Str->Option NameKind}{x:Str}{v:Value}:∀{P:List Str} {vs:List Value} {i:Nat} {m:Str->Option Value},P.Nodup->P[i]?=some x->vs[i]?=some v->kindOf x≠some .local→
  bindC kindOf (P.zip vs) m x=some v
 | [],_,_,_,_,h,_,_=>by simp at h
 |_::_,[],_,_,_,_,h,_=>by simp at h
 |p::P,w::vs,0,m,nd,h1,h2,hk=>by
  simp at h1 h2;subst h1;subst h2
  show bindC kindOf ((p,w)::P.zip vs) m p=_
  unfold bindC
  rw[bindC_out fun v hv=>(List.nodup_cons.mp nd).1 (List.of_mem_zip hv).1,if_neg hk]
  simp
 |p::P,w::vs,i+1,m,nd,h1,h2,hk=>by
  show bindC kindOf ((p,w)::P.zip vs) m x=_
  unfold bindC
  exact bindC_get (i:=i) (List.nodup_cons.mp nd).2 (by simpa using h1) (by simpa using h2) hk
def start (N:List Str)(vs:List V):St:=vs.map some++List.replicate (N.length-vs.length) none
def cxOf (CX:CXT)(P:Program)(w:World)(K:W.Frag)(mg:Str->Option Value)(base:Heap)(N:List Str)(qual:Str)(scope:Scope)(f:Addr)(cd:Value)(A:Around)(outer:List Env)(s:Shared)(H:Hp)(E:XK):Cx where
 prog:=P
 w:=w
 K:=K
 mg:=mg
 base:=base
 A:=A.deeper (envOfC qual scope s.heap.objs.size f cd)
 N:=N
 s₀:=s
 H₀:=H
 env:=envOfC qual scope s.heap.objs.size f cd
 outer:=outer
 stack:=envOfC qual scope s.heap.objs.size f cd::outer
 ex:=[]
 calm:=true
 fn:=fun _=>true
 pn:=[]
 xe:=fun e s'=>wpAny (model P w) (A.deeper (envOfC qual scope s.heap.objs.size f cd)) (leaving (envOfC qual scope s.heap.objs.size f cd) e) (fun _ s''=>CX outer H s E e s'') (fun e' s''=>CX outer H s E e' s'') s'
theorem cell_has {sc:Scope}{n:Nat}{x:Str}(h:sc.names.lookup x=some .cell):∃c,(cellsFrom n sc.names []).lookup x=some c:=by
 have q:=W.cellsFrom_some sc.names n [] (.inl h)
 exact Option.isSome_iff_exists.mp q
theorem inv_start {CX:CXT}{P:Program}{w:World}{K:W.Frag}{mg:Str->Option Value}{base:Heap}{N ps:List Str}{qual:Str}{scope:Scope}{f:Addr}{cd:Value}{A:Around}{outer:List Env}{s s1:Shared}{H:Hp}{E:XK}{us:List Value}{vs:List V}
  (S:FnScope N ps scope) (hd:A.handled=none) (e0:Env0 P w K mg base A outer s H) (hl:vs.length=ps.length) (r:Vals vs us)
  (x:InCallC s s.heap.objs.size (bindL (envOfC qual scope s.heap.objs.size f cd).kindOf (ps.zip us) fun _=>none) (cellsFrom (s.heap.objs.size+1) scope.names []) (bindC (envOfC qual scope s.heap.objs.size f cd).kindOf (ps.zip us) fun _=>none) s1):
  Inv (cxOf CX P w K mg base N qual scope f cd A outer s H E) [] (start N vs) H s1:=by
 have hpl:ps.length<=N.length:=by have:=congrArg List.length S.pre;rw[List.length_take] at this;omega
 obtain⟨h1,tk,rfl,hk⟩:=x.done
 have noA:∀b:Addr,b∉(cxOf CX P w K mg base N qual scope f cd A outer s H E).ex:=fun b z=>absurd (show b∈([]:List Addr) from z) (by simp)
 refine⟨⟨e0.mod,S.kind,rfl,rfl,Nat.le_refl _,fun y z c h1 h2=>?_,fun y hy=>?_,fun y c _ h=>?_,fun _=>hd,Around.frames_deeper e0.frames,.inr ⟨rfl,rfl⟩,fun b z=>absurd z (noA b),e0.bs,e0.bsz,fun b _ _=>noA b,fun b z=>absurd z (noA b),e0.funs,e0.frf⟩,
  rfl,e0.bare,Un.kept hk,⟨_,x.toInCall.ns,fun i y v h1 h2 h3=>?_⟩,fun y c h=>⟨_,x.cell y c h⟩,e0.hok.fresh (Nat.le_refl _),fun y c h=>?_,fun p hp=>absurd (show p∈([]:List (Addr×Obj)) from hp) (by simp),e0.hok.kept hk,?_⟩
 ·exact name_of_addr x.apart (PySem.mem_of_lookup h1) (PySem.mem_of_lookup h2)
 ·have hy:scope.names.lookup y=some .cell\/scope.names.lookup y=some .free:=hy
  rcases hy with hy|hy
  ·exact cell_has hy
  ·exact absurd rfl (S.nofree _ (PySem.mem_of_lookup hy))
 ·exact Nat.le_of_lt (x.above y c (PySem.mem_of_lookup h))
 ·have hi:i<vs.length:=by
   unfold start at h2
   by_cases hi:i<vs.length
   ·exact hi
   ·rw[List.getElem?_append_right (by simpa using hi)] at h2
    rw[List.getElem?_replicate] at h2
    split at h2<;>cases h2
  have ha:vs[i]?=some v:=by
   unfold start at h2
   rw[List.getElem?_append_left (by simpa using hi),List.getElem?_map] at h2
   cases e:vs[i]? with
   |none=>rw[e] at h2;cases h2
   |some a=>rw[e] at h2;cases h2;rfl
  obtain⟨u,hu,rv⟩:=r.get ha
  have hp:ps[i]?=some y:=by
   rw[<- S.pre,List.getElem?_take_of_lt (by omega)];exact h1
  have ndP:ps.Nodup:=by rw[<- S.pre];exact S.nd.sublist (List.take_sublist _ _)
  refine⟨u,rv,?_⟩
  rcases S.par y (List.mem_of_getElem? hp) with k|k
  ·exact .inl ⟨k,bindL_get ndP hp hu k⟩
  ·obtain⟨c,e⟩:=cell_has (n:=s.heap.objs.size+1) k
   refine .inr ⟨.inl k,c,e,?_⟩
   have q:=x.cell y c e
   rw[bindC_get ndP hp hu (by show scope.names.lookup y≠_;rw[k];decide)] at q
   exact q
 ·exact e0.hok.fresh (Nat.le_of_lt (x.above y c (PySem.mem_of_lookup h)))
 ·unfold start
  show _=N.length
  rw[List.length_append,List.length_map,List.length_replicate]
  omega
theorem fn_of {CX:CXT}{P:Program}{w:World}{K:W.Frag}{mg:Str->Option Value}{base:Heap}{k:Nat}{f:Addr}{name qual:Str}{params:Arguments}{body:List Stmt}{scope:Scope}{dV kV doc pm cdv ct oc:Value}{an od:Option Addr}
  {osl:Array (Option Value)} {N ps:List Str} {sp:Sp} (lk:K.lookup f=some ⟨oc,od,.func (W.fnOf name qual params body scope dV kV doc pm an cdv ct),osl⟩) (hcd:W.codeIn K cdv qual=true) (S:FnScope N ps scope)
  (len:∀vs H Q E,sp vs H Q E->vs.length=ps.length)
  (hbody:∀(A:Around) (outer:List Env) (s:Shared) (H:Hp) (vs:List V) (Q:VK) (E:XK),Room k (A.deeper (envOfC qual scope s.heap.objs.size f cdv))->sp vs H Q E→
   ∃t,PSs (cxOf CX P w K mg base N qual scope f cdv A outer s H E) body t/\t { nx:=fun _ H'=>Q .non H',rt:=Q } (start N vs) H):
  FnOk P w K mg base CX (k+1) f (W.fnOf name qual params body scope dV kV doc pm an cdv ct) ps sp:=by
 refine⟨len,fun A outer s H args us vs Q E hr e0 hb r hsp=>?_⟩
 have hl:=len _ _ _ _ hsp
 have KX:K.In s.heap:=e0.mod.kin.keeps fun b o e=>(e0.bs b o e).1
 have lim:s.heap.NoLimit:=e0.mod.nolimit.keeps fun b o e=>(e0.bs b o e).1
 have hkind:∀y∈ps.zip us,scope.names.lookup y.1=some .local\/(scope.names.lookup y.1=some .cell/\((cellsFrom (s.heap.objs.size+1) scope.names []).lookup y.1).isSome=true):=fun⟨n,v⟩ hy=>by
  rcases S.par n (List.of_mem_zip hy).1 with q|q
  ·exact .inl q
  ·exact .inr ⟨q,W.cellsFrom_some _ _ _ (.inl q)⟩
 refine codeAny_call_function hr.depth (KX _ _ lk) rfl S.co S.gen rfl (W.codeRec_of KX hcd) (hb _ _ _ _ ?_)
 refine wpAny_newFunctionEnv_cells S.kind hkind fun env he s1 x=>?_
 subst he
 refine⟨lim.keeps x.toInCall.keep,codeAny_func ?_⟩
 obtain⟨t,ht,hq⟩:=hbody A outer s H vs Q E (hr.deeper _) hsp
 have I:Inv (cxOf CX P w K mg base N qual scope f cdv A outer s H E) [] (start N vs) H s1:=inv_start S hr.hd e0 hl r x
 refine wpAny_mono (ht [] s1 (start N vs) H _ I hq) (fun fl s' hs=>?_) fun e s' hs=>hs
 have fin:∀{σ':St} {H':Hp} {v:V} {u:Value},Inv (cxOf CX P w K mg base N qual scope f cdv A outer s H E) [] σ' H' s'->RelV v u->Q v H'->CE outer P w H s Q u s':=
  fun {σ' H' v u} J rv q=>⟨v,H',J.os,J.bare,J.base,J.hok,rv,q⟩
 cases fl with
 |ret u=>
  obtain⟨v,σ',H',J,rv,q⟩:=hs
  exact fin J rv q
 |next=>
  obtain⟨σ',H',J,q⟩:=hs
  exact fin (v:=V.non) (u:=Value.none) J rfl q
 |brk=>
  obtain⟨_,_,_,q⟩:=hs
  exact False.elim q
 |cont=>
  obtain⟨_,_,_,q⟩:=hs
  exact False.elim q
end L2
namespace L2
open PySem PySem.Spec PyProof.Rows
section
variable {X:Cx} {x:Str} {p pos:Pos} {e:Expr} {es:List Expr} {t:TA} {id T:String} {r:List V->Hp->VK->Prop}
def tCB (r:List V->Hp->VK->Prop)(t:TA):TE:=fun σ H Q=>t σ H fun vs H1=>r vs H1 Q
theorem pe_callB (hc:CallR X (.builtin id) r)(hg:Gl X x)(hm:X.mg x=none)(hv:bootBuiltins x=some (.builtin id))(ha:PA X (e::es) t)(hn:x≠"__name__":=by decide)(hdb:(x==("__debug__":Str))=false:=by decide)
  (he:starEach (e::es) X.env=(false,eval e X.env)::starEach es X.env:=by rfl) (hpl:(backTo pos (starEach es X.env)).any (·.1)=false:=by rfl):PE X (.Call (.Name x p) (e::es) [] pos) (tCB r t):=by
 intro pins s σ H Q I h
 refine wpAny_Call_Name_kw (ld_blt I hg hm hv ?_ hn hdb)
 exact PyProof.Rows.callWith_builtin1 (thn (ha pos pins s σ H _ I h) fun us s1 ⟨vs,H1,I1,r1,q1⟩=>hc pins s1 σ H1 vs us Q I1 r1 q1) he hpl
theorem pe_callTy (hc:CallR X (.type T) r)(hg:Gl X x)(hm:X.mg x=none)(hv:bootBuiltins x=some (.type T))(ha:PA X (e::es) t)(hn:x≠"__name__":=by decide)(hdb:(x==("__debug__":Str))=false:=by decide)
  (he:starEach (e::es) X.env=(false,eval e X.env)::starEach es X.env:=by rfl) (hpl:(backTo pos (starEach es X.env)).any (·.1)=false:=by rfl):PE X (.Call (.Name x p) (e::es) [] pos) (tCB r t):=by
 intro pins s σ H Q I h
 refine wpAny_Call_Name_kw (ld_blt I hg hm hv ?_ hn hdb)
 exact PyProof.Rows.callWith_type1 (thn (ha pos pins s σ H _ I h) fun us s1 ⟨vs,H1,I1,r1,q1⟩=>hc pins s1 σ H1 vs us Q I1 r1 q1) he hpl
end
end L2
namespace HT
open PySem PyProof.Rows
def lexLt:List Int->List Int->Bool
 | [],[]=>false
 | [],_::_=>true
 |_::_,[]=>false
 |x::xs,y::ys=>if x=y then lexLt xs ys else decide (x<y)
theorem lexLt_cons (x y:Int)(xs ys:List Int):lexLt (x::xs) (y::ys)=if x=y then lexLt xs ys else decide (x<y):=rfl
theorem lexLt_nil_nil:lexLt [] []=false:=rfl
theorem lexLt_nil_cons (y:Int)(ys:List Int):lexLt [] (y::ys)=true:=rfl
theorem lexLt_cons_nil (x:Int)(xs:List Int):lexLt (x::xs) []=false:=rfl
theorem eqAt_int (A:Around)(s:Shared)(a:Int)(t:Tok)(c:Int)(u:Tok):∃e,SeqAt.EqAt A s (.int a t) (.int c u) e/\(e=true↔a=c):=
 ⟨(a==c),SeqAt.EqAt.int_int a t c u,by simp⟩
theorem rcLt_int (A:Around)(s:Shared)(a:Int)(t:Tok)(c:Int)(u:Tok)(prog:Program)(w:World)(E:Value->Shared->Prop)(Q:Value->Shared->Prop)(h:Q (.bool (decide (a<c))) s):
  wpAny (model prog w) A (richCompare .Lt (.int a t) (.int c u)) Q E s:=
 (PyProof.Rows.lt_int h:wpAny (model prog w) A (compareOp .Lt (.int a t) (.int c u)) Q E s)
section
open PySem.SeqAt
open PySem.AutoSeq1 (wpAny_loadPart')
open PySem.MeetsSeq PySem.MeetsSeq2 PySem.MeetsSeq3
theorem tuple_lt_ints (l b:Addr)(items items2:Array Value)(n n2:Nat)(dd dd2:Option Addr)(sl sl2:Array (Option Value))(ns ms:List Int)(hi:IntsAre items.toList ns)(hj:IntsAre items2.toList ms):
  Meets (Builtin.«tuple.__lt__» ⟨[.ref l,.ref b],[]⟩)
   (fun _ R s=>s.heap.get? l=some { cls:=.type "tuple",dict:=dd,data:=.seq items n,slots:=sl }/\s.heap.get? b=some { cls:=.type "tuple",dict:=dd2,data:=.seq items2 n2,slots:=sl2 }∧
    R (.ok (.ret (.bool (lexLt ns ms)))) s):=
 .of_wp fun prog w A R s h=>by
  obtain⟨hp,g,d,tk,os⟩:=s;obtain⟨hl,hb,h⟩:=h
  have f2:=AutoSeq1.sub_tuple_tuple
  have z1:items.size=ns.length:=by rw[<- hi.length];simp
  have z2:items2.size=ms.length:=by rw[<- hj.length];simp
  wp_walk using wpAny_loadPart' hl,wpAny_loadPart' hb,wpAny_forIn_list _ (fun rest b s'=>b.1=none/\s'=⟨hp,g,d,tk,os⟩/\∃(vs ws:List Value) (ns' ms':List Int),rest=vs.zip ws∧
   IntsAre vs ns'/\IntsAre ws ms'/\ns'.length+items2.size=ms'.length+items.size/\R (.ok (.ret (.bool (lexLt ns' ms')))) ⟨hp,g,d,tk,os⟩) _
  case turn=>
   rintro⟨y,x⟩ rest b s' ⟨hb',rfl,vs,ws,ns',ms',hz,hvi,hwi,hlen,hR⟩
   cases hvi with
   |nil=>rw[List.zip_nil_left] at hz;cases hz
   |cons a t hvi'=>
    cases hwi with
    |nil=>rw[List.zip_nil_right] at hz;cases hz
    |cons c u hwi'=>
     rw[List.zip_cons_cons] at hz
     injection hz with hyx hrest
     injection hyx with hy hx
     subst hy hx
     rw[lexLt_cons] at hR
     simp only[List.length_cons] at hlen
     obtain⟨e,he,hiff⟩:=eqAt_int A.in1 ⟨hp,g,d,tk,os⟩ a t c u
     refine wpAny_bind (he prog w _ _ ?_)
     cases e with
     |true=>
      rw[if_pos (hiff.mp rfl)] at hR
      wp_walk
      exact⟨rfl,rfl,_,_,_,_,hrest,hvi',hwi',by omega,hR⟩
     |false=>
      rw[if_neg (fun q=>absurd (hiff.mpr q) Bool.false_ne_true)] at hR
      have hri:=rcLt_int A.in1 ⟨hp,g,d,tk,os⟩ a t c u prog w
      wp_walk using hri
      exact⟨_,rfl,by simpa using hR⟩
  case fin=>
   rintro⟨b1,b2⟩ s' ⟨hb',rfl,vs,ws,ns',ms',hz,hvi,hwi,hlen,hR⟩
   simp only at hb'
   subst hb'
   have hv:lexLt ns' ms'=decide (items.size<items2.size):=by
    cases hvi with
    |nil=>
     cases hwi with
     |nil=>
      simp only[List.length_nil] at hlen
      rw[lexLt_nil_nil]
      exact(decide_eq_false (by omega)).symm
     |cons c u hw=>
      simp only[List.length_nil,List.length_cons] at hlen
      rw[lexLt_nil_cons]
      exact(decide_eq_true (by omega)).symm
    |cons a t hv=>
     cases hwi with
     |nil=>
      simp only[List.length_nil,List.length_cons] at hlen
      rw[lexLt_cons_nil]
      exact(decide_eq_false (by omega)).symm
     |cons c u hw=>
      rw[List.zip_cons_cons] at hz
      cases hz
   rw[hv] at hR
   wp_walk
   exact⟨_,rfl,by simpa [Builtin.Tuple.tupleCompareSizes] using hR⟩
  case h=>
   exact⟨rfl,rfl,items.toList,items2.toList,ns,ms,rfl,hi,hj,by omega,h⟩
end
section
variable {prog:Program} {w:World} {A:Around} {E:Value->Shared->Prop} {s:Shared}
theorem lt_tupInts {l b:Addr}{items items2:Array Value}{ns ms:List Int}{Q:Value->Shared->Prop}(hl:IsTup s.heap l items)(hb:IsTup s.heap b items2)(hi:IntsAre items.toList ns)(hj:IntsAre items2.toList ms)
  (hu:A.units<cLine) (h:Q (.bool (lexLt ns ms)) s):wpAny (model prog w) A (compareOp .Lt (.ref l) (.ref b)) Q E s:=by
 obtain⟨⟨cls,dd,data,sl⟩,ho,hc,n,hd⟩:=id hl
 obtain⟨⟨cls2,dd2,data2,sl2⟩,ho2,hc2,n2,hd2⟩:=id hb
 simp only at hc hd hc2 hd2
 subst hc hd hc2 hd2
 exact richCompare_meets_room (op:=.Lt) ⟨_,ho,rfl⟩ ⟨_,ho2,rfl⟩ PySem.F.slot_tuple_lt PySem.F.entry_tuple_lt (PySem.F.args_tuple_lt_2 _ _) (tuple_lt_ints l b items items2 n n2 dd dd2 sl sl2 ns ms hi hj)
  ⟨ho,ho2,show Value.bool (lexLt ns ms)≠Value.notImplemented/\Q (.bool (lexLt ns ms)) s from⟨(fun x=>nomatch x),h⟩⟩ hu
theorem cat_tup {t b:Addr}{vs ws:List Value}{Q:Value->Shared->Prop}(ht:IsTup s.heap t vs.toArray)(hb:IsTup s.heap b ws.toArray)(hv:vs≠[])
  (h1:ws=[]->Q (.ref t) s) (h2:ws≠[]->Q (.ref s.heap.objs.size) { s with heap:=s.heap.push { cls:=.type "tuple",data:=.seq (vs++ws).toArray } })
  (hsz:vs.length+ws.length<=sizeLine):wpAny (model prog w) A (binaryOp .Add (.ref t) (.ref b)) Q E s:=by
 obtain⟨⟨cls,dd,data,sl⟩,ho,hc,n,hd⟩:=id ht
 obtain⟨⟨cls2,dd2,data2,sl2⟩,ho2,hc2,n2,hd2⟩:=id hb
 simp only at hc hd hc2 hd2
 subst hc hd hc2 hd2
 have e:vs.toArray++ws.toArray=(vs++ws).toArray:=by simp
 by_cases hw:ws=[]
 ·exact concat_meets ⟨_,ho,rfl⟩ ⟨_,ho2,rfl⟩ noFill_tuple_add seq_tuple_add PySem.F.slot_tuple_add PySem.F.entry_tuple_add (PySem.F.args_tuple_add_2 _ _)
   (tuple_addW1 t b vs.toArray ws.toArray n n2 dd dd2 sl sl2 (by simpa using hv) (by simp[hw])) ⟨ho,ho2,h1 hw⟩
 ·refine concat_meets ⟨_,ho,rfl⟩ ⟨_,ho2,rfl⟩ noFill_tuple_add seq_tuple_add PySem.F.slot_tuple_add PySem.F.entry_tuple_add (PySem.F.args_tuple_add_2 _ _)
   (tuple_addW2 t b vs.toArray ws.toArray n n2 dd dd2 sl sl2 (by simpa using hv) (by simpa using hw) (by rw[List.size_toArray,List.size_toArray];exact hsz)) ⟨ho,ho2,?_⟩
  rw[e]
  exact h2 hw
def sIx (n d:Nat):Option Int->Nat
 |none=>d
 |some v=>if v<0 then(v+(n:Int)).toNat else min v.toNat n
theorem sIx_none (n d:Nat):sIx n d none=d:=rfl
theorem sIx_nat (n d k:Nat):sIx n d (some (k:Int))=min k n:=by
 show(if (k:Int)<0 then((k:Int)+(n:Int)).toNat else min (k:Int).toNat n)=min k n
 rw[if_neg (by omega),Int.toNat_natCast]
theorem sIx_le (n d:Nat)(hd:d<=n)(o:Option Int):sIx n d o<=n:=by
 cases o with
 |none=>exact hd
 |some v=>
  show(if v<0 then(v+(n:Int)).toNat else min v.toNat n)<=n
  by_cases hv:v<0
  ·rw[if_pos hv];omega
  ·rw[if_neg hv];exact Nat.min_le_right _ _
theorem clip_eq (v:Int)(n d:Nat):(if v<0 then max (v+(n:Int)) 0 else min v (n:Int))=((sIx n d (some v):Nat):Int):=by
 show(if v<0 then max (v+(n:Int)) 0 else min v (n:Int))=(((if v<0 then(v+(n:Int)).toNat else min v.toNat n):Nat):Int)
 by_cases hv:v<0
 ·simp only[if_pos hv];omega
 ·simp only[if_neg hv];omega
theorem adjust_gen (lo hi:Option Int)(n:Nat):Builtin.Slice.sliceAdjust lo hi 1 (n:Int)=(((sIx n 0 lo:Nat):Int),((sIx n n hi:Nat):Int)):=by
 have h1:¬((1:Int)<0):=by omega
 unfold Builtin.Slice.sliceAdjust
 simp only[h1,if_false]
 refine Prod.ext ?_ ?_
 ·cases lo with
  |none=>rfl
  |some v=>exact clip_eq v n 0
 ·cases hi with
  |none=>rfl
  |some v=>exact clip_eq v n n
theorem places_gen (i j:Nat):Builtin.Slice.slicePlaces (i:Int) (j:Int) 1=j-i:=by
 unfold Builtin.Slice.slicePlaces
 have h1:(1:Int) > 0:=by omega
 simp only[h1,if_true,Int.ediv_one]
 split<;>omega
theorem slicePart_ {v:Value}{o:Option Int}{Q:Option Int->Shared->Prop}(p:IsPart v o)(h:Q o s):wpAny (model prog w) A (Builtin.Slice.slicePartIndex v) Q E s:=by
 cases p with
 |none=>exact slicePart_none h
 |int i t=>exact slicePart_int h
theorem sliceApplied_gen {sl:Addr}{vl vu:Value}{lo hi:Option Int}{n:Nat}{Q:Int×Int×Nat->Shared->Prop}(hs:s.heap.IsSliceOf sl vl vu .none)(pl:IsPart vl lo)(pu:IsPart vu hi)
  (h:Q (((sIx n 0 lo:Nat):Int),1,sIx n n hi-sIx n 0 lo) s):wpAny (model prog w) A (Builtin.Slice.sliceApplied (.ref sl) (pure (n:Int))) Q E s:=by
 obtain⟨os,hos,hcs,hds⟩:=id hs
 unfold Builtin.Slice.sliceApplied Builtin.Slice.sliceFields
 refine wpAny_bind (wpAny_bind (wpAny_field hos hds (x:=vl) rfl (wpAny_bind (wpAny_field hos hds (x:=vu) rfl (wpAny_bind (wpAny_field hos hds (x:=.none) rfl (wpAny_pure ?_)))))))
 refine wpAny_bind (slicePart_none ?_)
 show wpAny _ _ (if ((1:Int)==0)=true then _ else _) _ _ s
 rw[if_neg (by decide)]
 refine wpAny_bind (slicePart_ pl (wpAny_bind (slicePart_ pu (wpAny_bind (wpAny_pure ?_)))))
 show wpAny _ _ (match Builtin.Slice.sliceAdjust lo hi 1 (n:Int) with|(lo,hi)=>pure (lo,(1:Int),Builtin.Slice.slicePlaces lo hi 1)) _ _ s
 rw[adjust_gen lo hi n]
 show wpAny _ _ (pure (((sIx n 0 lo:Nat):Int),(1:Int),Builtin.Slice.slicePlaces ((sIx n 0 lo:Nat):Int) ((sIx n n hi:Nat):Int) 1)) _ _ s
 rw[places_gen]
 exact wpAny_pure h
theorem pick_gen (xs:Array Value)(i k:Nat):((List.range k).filterMap fun(m:Nat)=>xs[((i:Int)+(m:Int)*1).toNat]?).toArray=((xs.toList.drop i).take k).toArray:=by
 have e:(fun(m:Nat)=>xs[((i:Int)+(m:Int)*1).toNat]?)=fun m=>xs[i+m]?:=by
  funext m
  have:((i:Int)+(m:Int)*1).toNat=i+m:=by omega
  rw[this]
 rw[e]
 have:=pick_run xs i k
 rw[List.filterMap_map] at this
 have e2:((fun x=>xs[x]?) ∘ fun x=>i+x)=fun m=>xs[i+m]?:=rfl
 rw[e2] at this
 rw[this]
theorem getItem_tuple_cut {t sl:Addr}{items:Array Value}{vl vu:Value}{lo hi:Option Int}{Q:Value->Shared->Prop}(ht:IsTup s.heap t items)(hs:s.heap.IsSliceOf sl vl vu .none)(pl:IsPart vl lo)(pu:IsPart vu hi)
  (hw:¬(sIx items.size 0 lo=0/\sIx items.size items.size hi=items.size))
  (h:Q (.ref s.heap.objs.size) { s with heap:=s.heap.push { cls:=.type "tuple",data:=.seq ((items.toList.drop (sIx items.size 0 lo)).take (sIx items.size items.size hi-sIx items.size 0 lo)).toArray } })
  (hsz:items.size<=sizeLine):wpAny (model prog w) A (getItem (.ref t) (.ref sl)) Q E s:=by
 have htake:sizeOk (.seq ((items.toList.drop (sIx items.size 0 lo)).take (sIx items.size items.size hi-sIx items.size 0 lo)).toArray):=by
  show((items.toList.drop (sIx items.size 0 lo)).take (sIx items.size items.size hi-sIx items.size 0 lo)).toArray.size<=sizeLine
  rw[List.size_toArray,List.length_take,List.length_drop,Array.length_toList]
  omega
 have hj:sIx items.size items.size hi<=items.size:=sIx_le _ _ (Nat.le_refl _) hi
 obtain⟨os,hos,hcs,hds⟩:=id hs
 have hTs:s.TypeIs (.ref sl) "slice":=⟨os,hos,hcs⟩
 unfold getItem
 try with_reducible refine wpAny_holding ?_
 first|refine wpAny_bind (wpAny_pure ?_)|skip
 refine wpAny_bind (wpAny_sequenceKey ht.typeIs (by decide) ?_)
 refine wpAny_bind (wpAny_callSpecial?_slot (name:=Str.ofString "__getitem__") ht.typeIs PyProof.Rows.slot_tuple_getitem
  (wpAny_call_entry PyProof.Rows.slot_tuple_getitem ht.typeIs entry_tuple_getitem ?_ (args_tuple_getitem _ _)))
 show wpAny _ _ (Builtin.Tuple.tupleItemsOf (.ref t) >>= _) _ _ s
 refine wpAny_bind (tupleItemsOf_ ht ?_)
 refine wpAny_bind (wpAny_typeOf hTs ?_)
 rw[if_pos (by decide)]
 refine wpAny_bind (sliceApplied_gen hs pl pu ?_)
 have hno:¬((((sIx items.size 0 lo:Nat):Int)==0&&(1:Int)==1&&(sIx items.size items.size hi-sIx items.size 0 lo)==items.size)=true):=by
  intro q
  rw[Bool.and_eq_true,Bool.and_eq_true] at q
  have q1:((sIx items.size 0 lo:Nat):Int)=0:=eq_of_beq q.1.1
  have q2:sIx items.size items.size hi-sIx items.size 0 lo=items.size:=eq_of_beq q.2
  exact hw ⟨by omega,by omega⟩
 show wpAny _ _ (if (((sIx items.size 0 lo:Nat):Int)==0&&(1:Int)==1&&(sIx items.size items.size hi-sIx items.size 0 lo)==items.size)=true then _ else _) _ _ s
 rw[if_neg hno,pick_gen]
 first
  |exact wpAny_bind (m:=Builtin.Tuple.tupleExact _) (wpAny_newObj_type (wpAny_pure ⟨_,rfl,wpAny_pure h⟩) htake)
  |exact wpAny_bind (m:=Builtin.Tuple.tupleExact _) (wpAny_newObj_type (wpAny_bind (wpAny_pure (wpAny_pure ⟨_,rfl,wpAny_pure h⟩))) htake)
  |exact wpAny_bind (wpAny_bind (m:=Builtin.Tuple.tupleExact _) (wpAny_newObj_type (wpAny_pure (wpAny_pure ⟨_,rfl,wpAny_pure h⟩)) htake))
  |exact wpAny_bind (wpAny_bind (m:=Builtin.Tuple.tupleExact _) (wpAny_newObj_type (wpAny_pure ⟨_,rfl,wpAny_pure h⟩) htake))
end
end HT
namespace L2
open PySem PySem.Spec PyProof.Rows
abbrev TO:=St->Hp->(Option Int->Hp->Prop)->Prop
def PO (X:Cx)(e:Option Expr)(t:TO):Prop:=
 ∀(pins:List (Addr×Obj)) (s:Shared) (σ:St) (H:Hp) (Q:Option Int->Hp->Prop),Inv X pins σ H s->t σ H Q→
  wpAny (model X.prog X.w) X.A (evalPart e X.env) (fun u s'=>∃o H',Inv X pins σ H' s'/\IsPart u o/\Q o H') X.xe s
def tNoPart:TO:=fun _ H Q=>Q none H
def tPart (t:TE):TO:=fun σ H Q=>t σ H fun x H1=>∃i,x=.int i/\Q (some i) H1
theorem intsAre_of {ns:List Int}:∀{us:List Value},Vals (ns.map V.int) us->IntsAre us ns:=by
 induction ns with
 |nil=>intro us r;rw[List.map_nil] at r;cases r;exact .nil
 |cons n ns ih=>
  intro us r
  rw[List.map_cons] at r
  cases r with
  |cons r1 r2=>
   obtain⟨t,e⟩:=r1
   subst e
   exact .cons n t (ih r2)
section
variable {X:Cx} {e:Expr} {te:TE} {lo hi:Option Expr} {tl th:TO} {pos p2:Pos}
theorem po_none:PO X none tNoPart:=by
 intro pins s σ H Q I h
 rw[evalPart_none]
 exact wpAny_pure ⟨none,H,I,.none,h⟩
theorem po_some (h:PE X e te):PO X (some e) (tPart te):=by
 intro pins s σ H Q I hw
 rw[evalPart_some]
 refine thn (h pins s σ H _ I hw) fun u s1 hq9=>?_
 obtain⟨x,H1,I1,r1,q1⟩:=hq9
 obtain⟨i,rfl,q⟩:=q1
 obtain⟨t,rfl⟩:=r1
 exact⟨some i,H1,I1,.int i t,q⟩
def SlR (X:Cx)(r:V->Option Int->Option Int->Hp->VK->Prop):Prop:=
 ∀(pins:List (Addr×Obj)) (s:Shared) (σ:St) (H:Hp) (x:V) (v vl vu:Value) (lo hi:Option Int) (sl:Addr) (Q:VK),Inv X pins σ H s->RelV x v->s.heap.IsSliceOf sl vl vu .none->IsPart vl lo->IsPart vu hi->r x lo hi H Q→
  ∃T id,typeLookup (.type T) "__getitem__"=pure (some (.builtin id))/\s.TypeIs v T/\wpAny (model X.prog X.w) X.A (getItem v (.ref sl)) (EP X pins σ Q) X.xe s
def tSl (r:V->Option Int->Option Int->Hp->VK->Prop)(te:TE)(tl th:TO):TE:=fun σ H Q=>te σ H fun x H1=>tl σ H1 fun l H2=>th σ H2 fun u H3=>r x l u H3 Q
theorem pe_slice {r:V->Option Int->Option Int->Hp->VK->Prop}(hr:SlR X r)(he:PE X e te)(hl:PO X lo tl)(hu:PO X hi th):PE X (.Subscript e (.Slice lo hi none p2) pos) (tSl r te tl th):=by
 intro pins s σ H Q I h
 refine Subscript_ (thn (he pins s σ H _ I h) fun v s1 ⟨x,H1,I1,r1,q1⟩=>?_)
 refine wpAny_Slice (thn (hl pins s1 σ H1 _ I1 q1) fun vl s2 ⟨l,H2,I2,pl,q2⟩=>thn (hu pins s2 σ H2 _ I2 q2) fun vu s3 ⟨u,H3,I3,pu,q3⟩=>?_)
 rw[evalPart_none]
 refine wpAny_pure ?_
 have I4:Inv X pins σ H3 { s3 with heap:=s3.heap.push { cls:=.type "slice",data:=.fields #[vl,vu,.none] } }:=I3.kept (t':=s3.toks) fun b ob q=>Heap.get?_push_of_some _ q
 obtain⟨T,id,hT,ht,hg⟩:=hr pins { s3 with heap:=s3.heap.push { cls:=.type "slice",data:=.fields #[vl,vu,.none] } } σ H3 x v vl vu l u s3.heap.objs.size Q I4 r1 (Heap.IsSliceOf.new ..) pl pu q3
 show wpAny (model X.prog X.w) X.A (subscriptTail e (.Slice lo hi none p2) v (.ref s3.heap.objs.size)) (EP X pins σ Q) X.xe { s3 with heap:=s3.heap.push { cls:=.type "slice",data:=.fields #[vl,vu,.none] } }
 exact tail_any (ops:=[.ref s3.heap.objs.size,v]) ht hT hg (by with_unfolding_all rfl)
def cutV (xs:List V)(lo hi:Option Int):List V:=(xs.drop (HT.sIx xs.length 0 lo)).take (HT.sIx xs.length xs.length hi-HT.sIx xs.length 0 lo)
theorem cutV_length (xs:List V)(lo hi:Option Int):(cutV xs lo hi).length<=xs.length:=by
 unfold cutV
 rw[List.length_take,List.length_drop]
 omega
def rSlT (K:W.Frag):V->Option Int->Option Int->Hp->VK->Prop:=fun x lo hi H Q=>∃a xs,x=.ref a/\SqT K H a xs∧
 ¬(HT.sIx xs.length 0 lo=0/\HT.sIx xs.length xs.length hi=xs.length)/\∀p,H p=none->Q (.ref p) (upd H p (.tup (cutV xs lo hi)))
theorem sl_tup:SlR X (rSlT X.K):=by
 intro pins s σ H x v vl vu lo hi sl Q I rx hs pl pu h
 obtain⟨a,xs,rfl,hx,hw,q⟩:=h
 cases rx
 obtain⟨its,r,ht,hz⟩:=I.tuple hx
 have hlen:its.toArray.size=xs.length:=by rw[List.size_toArray];exact r.length.symm
 refine⟨"tuple",_,PyProof.Rows.slot_tuple_getitem.lookup,ht.typeIs,?_⟩
 refine HT.getItem_tuple_cut ht hs pl pu (by rw[hlen];exact hw) ?_ (by rw[hlen];exact hz)
 rw[hlen]
 refine⟨.ref s.heap.objs.size,_,I.laid (t':=s.toks) (o:=.tup (cutV xs lo hi)) (fun b ob q=>Heap.get?_push_of_some _ q) (Nat.le_refl _) ?_,rfl,q _ (I.hok.fresh (Nat.le_refl _))⟩
 exact⟨Nat.le_trans (cutV_length xs lo hi) hz,_,(r.drop (HT.sIx xs.length 0 lo)).take (HT.sIx xs.length xs.length hi-HT.sIx xs.length 0 lo),IsTup.new _ _⟩
def rCatT (K:W.Frag):R2:=fun x y H Q=>∃a b xs ys,x=.ref a/\y=.ref b/\SqT K H a xs/\SqT K H b ys/\xs≠[]/\xs.length+ys.length<=sizeLine∧
 (ys=[]->Q (.ref a) H)/\(ys≠[]->∀p,H p=none->Q (.ref p) (upd H p (.tup (xs++ys))))
theorem Vals.nil_iff {xs:List V}{us:List Value}(r:Vals xs us):us=[]↔xs=[]:=by
 cases r with
 |nil=>simp
 |cons _ _=>simp
theorem op_catT:OpR X (binaryOp .Add) (rCatT X.K):=by
 intro pins s σ H x y v u Q I rx ry h
 obtain⟨a,b,xs,ys,rfl,rfl,ha,hb,hx,hz,q1,q2⟩:=h
 cases rx
 cases ry
 obtain⟨its,r1,p1,_⟩:=I.tuple ha
 obtain⟨its2,r2,p2,_⟩:=I.tuple hb
 refine HT.cat_tup p1 p2 (fun z=>hx (r1.nil_iff.mp z)) (fun z=>⟨.ref a,H,I,rfl,q1 (r2.nil_iff.mp z)⟩) (fun z=>?_) (by rw[<- r1.length,<- r2.length];exact hz)
 refine⟨.ref s.heap.objs.size,_,I.laid (t':=s.toks) (o:=.tup (xs++ys)) (fun b ob q=>Heap.get?_push_of_some _ q) (Nat.le_refl _) ?_,rfl,q2 (fun w=>z (r2.nil_iff.mpr w)) _ (I.hok.fresh (Nat.le_refl _))⟩
 exact⟨by rw[List.length_append];exact hz,_,r1.append r2,IsTup.new _ _⟩
end
end L2
namespace L2
open PySem PySem.Spec PyProof.Rows
def ixN (n:Nat)(i:Int):Option Nat:=if 0<=i then(if i<n then some i.toNat else none) else if -(n:Int)<=i then some (i+n).toNat else none
def atI {α:Type}(xs:List α)(i:Int):Option α:=(ixN xs.length i).bind fun j=>xs[j]?
theorem ixN_seq {n:Nat}{i:Int}{j:Nat}(h:ixN n i=some j):seqIndex? i n=some j/\j<n/\-(n:Int)<=i/\i<n:=by
 unfold ixN at h
 by_cases h0:0<=i
 ·rw[if_pos h0] at h
  by_cases h1:i<n
  ·rw[if_pos h1] at h
   have e:i.toNat=j:=Option.some.inj h
   exact⟨by rw[seqIndex_of h0 h1,e],by omega,by omega,h1⟩
  ·rw[if_neg h1] at h;cases h
 ·rw[if_neg h0] at h
  by_cases h1:-(n:Int)<=i
  ·rw[if_pos h1] at h
   have e:(i+n).toNat=j:=Option.some.inj h
   exact⟨by rw[seqIndex_neg (by omega) h1,e],by omega,h1,by omega⟩
  ·rw[if_neg h1] at h;cases h
theorem atI_get {α:Type}{xs:List α}{i:Int}{v:α}(h:atI xs i=some v):∃j,seqIndex? i xs.length=some j/\xs[j]?=some v/\j<xs.length/\-(xs.length:Int)<=i/\i<xs.length:=by
 unfold atI at h
 cases e:ixN xs.length i with
 |none=>rw[e] at h;cases h
 |some j=>
  rw[e] at h
  obtain⟨h1,h2,h3,h4⟩:=ixN_seq e
  exact⟨j,h1,h,h2,h3,h4⟩
theorem atI_nat {α:Type}{xs:List α}{j:Nat}{v:α}(h:xs[j]?=some v):atI xs (j:Int)=some v:=by
 have hj:j<xs.length:=(List.getElem?_eq_some_iff.mp h).1
 have e:ixN xs.length (j:Int)=some j:=by
  unfold ixN
  rw[if_pos (by omega),if_pos (by omega)];simp
 unfold atI;rw[e];exact h
def PlainIx (b:Expr):Prop:=∀o i,subscripted b false o i=operate [o,i] (getItem o i)
def IxR (X:Cx)(r:R2):Prop:=
 ∀(value slice:Expr) (pins:List (Addr×Obj)) (s:Shared) (σ:St) (H:Hp) (x y:V) (v u:Value) (Q:VK),Inv X pins σ H s->RelV x v->RelV y u->r x y H Q→
  subscripted slice false v u=operate [v,u] (getItem v u)->wpAny (model X.prog X.w) X.A (subscriptTail value slice v u) (EP X pins σ Q) X.xe s
def MtR (X:Cx)(id:String)(r:V->List V->Hp->VK->Prop):Prop:=
 ∀(pins:List (Addr×Obj)) (s:Shared) (σ:St) (H:Hp) (x:V) (xs:List V) (v:Value) (us:List Value) (Q:VK),Inv X pins σ H s->RelV x v->Vals xs us->r x xs H Q→
  wpAny (model X.prog X.w) X.A (call (.builtin id) (v::us)) (EP X pins σ Q) X.xe s
section
variable {X:Cx} {a b:Expr} {ta tb:TE} {pos:Pos}
theorem pe_ix {r:R2}(hr:IxR X r)(ha:PE X a ta)(hb:PE X b tb)(hs:PlainIx b):PE X (.Subscript a b pos) (tOp r ta tb):=by
 intro pins s σ H Q I h
 exact Subscript_ (binT ha hb I h fun v u s2 x y H2 I2 rx ry q=>hr a b pins s2 σ H2 x y v u Q I2 rx ry q (hs _ _))
def rIxL (K:W.Frag):R2:=fun x y H Q=>∃p xs i v,x=.ref p/\y=.int i/\SqL K H p xs/\atI xs i=some v/\Q v H
def rIxT (K:W.Frag):R2:=fun x y H Q=>∃p xs i v,x=.ref p/\y=.int i/\SqT K H p xs/\atI xs i=some v/\Q v H
theorem ix_list:IxR X (rIxL X.K):=by
 intro value slice pins s σ H x y v u Q I rx ry h hs
 obtain⟨p,xs,i,z,rfl,rfl,hq,he,q⟩:=h
 cases rx
 obtain⟨t,rfl⟩:=ry
 obtain⟨its,r,pl,hz⟩:=I.list hq
 obtain⟨j,h1,h2,h3,h4,h5⟩:=atI_get he
 obtain⟨w,ew,rw'⟩:=r.get h2
 have hl:=r.length
 have hn:=line63
 have fin:EP X pins σ Q w s:=⟨z,H,I,rw',q⟩
 by_cases h0:0<=i
 ·have hj:i.toNat=j:=by
   rw[seqIndex_of h0 h5] at h1
   exact Option.some.inj h1
  exact item_listR pl.isList h0 (by omega) (by rw[hj];simpa using ew) fin hs
 ·have hj:(i+(its.toArray.size:Int)).toNat=j:=by
   rw[seqIndex_neg (by omega) h4] at h1
   rw[List.size_toArray,<- hl]
   exact Option.some.inj h1
  exact subscriptTail_builtinR (x:=w) pl.isList.typeIs slot_list_getitem.lookup
   (wpAny_getItem_list_neg (Q:=fun r s'=>r=w/\EP X pins σ Q r s') pl.isList (by omega) (by rw[List.size_toArray]<;>omega) (by omega) (by rw[hj];simpa using ew) ⟨rfl,fin⟩) hs
theorem ix_tup:IxR X (rIxT X.K):=by
 intro value slice pins s σ H x y v u Q I rx ry h hs
 obtain⟨p,xs,i,z,rfl,rfl,hq,he,q⟩:=h
 cases rx
 obtain⟨t,rfl⟩:=ry
 obtain⟨its,r,pl,hz⟩:=I.tuple hq
 obtain⟨j,h1,h2,h3,h4,h5⟩:=atI_get he
 obtain⟨w,ew,rw'⟩:=r.get h2
 have hl:=r.length
 have hn:=line63
 have fin:EP X pins σ Q w s:=⟨z,H,I,rw',q⟩
 exact subscriptTail_builtinR (x:=w) pl.typeIs slot_tuple_getitem.lookup
  (getItem_tuple (j:=j) (Q:=fun r s'=>r=w/\EP X pins σ Q r s') pl (by omega) (by omega) (by rw[List.size_toArray,<- hl];exact h1) (by simpa using ew) ⟨rfl,fin⟩) hs
theorem slice_bounds (lo hi:Option Int)(n:Nat):(sliceBounds lo hi none n).1=((HT.sIx n 0 lo:Nat):Int)/\(sliceBounds lo hi none n).2.1=((HT.sIx n n hi:Nat):Int)/\(sliceBounds lo hi none n).2.2=1:=by
 refine⟨?_,?_,rfl⟩
 ·cases lo with
  |none=>simp[sliceBounds,HT.sIx]
  |some i=>
   simp only[sliceBounds,HT.sIx,Option.getD_none,show(1:Int) > 0 by decide,if_true]
   by_cases h:i<0
   ·simp only[h,if_true]<;>omega
   ·simp only[h,if_false]<;>omega
 ·cases hi with
  |none=>simp[sliceBounds,HT.sIx]
  |some i=>
   simp only[sliceBounds,HT.sIx,Option.getD_none,show(1:Int) > 0 by decide,if_true]
   by_cases h:i<0
   ·simp only[h,if_true]<;>omega
   ·simp only[h,if_false]<;>omega
theorem slicePick_cut (its:List Value)(lo hi:Option Int):slicePick its.toArray lo hi none=((its.drop (HT.sIx its.length 0 lo)).take (HT.sIx its.length its.length hi-HT.sIx its.length 0 lo)).toArray:=by
 obtain⟨h1,h2,h3⟩:=slice_bounds lo hi its.toArray.size
 unfold slicePick
 rw[h1,h2,h3]
 simp only[sliceRange_one,pick_run,List.size_toArray]<;>rfl
def rSlL (K:W.Frag):V->Option Int->Option Int->Hp->VK->Prop:=fun x lo hi H Q=>∃a xs,x=.ref a/\SqL K H a xs/\∀p,H p=none->Q (.ref p) (upd H p (.lst (cutV xs lo hi)))
theorem sl_list:SlR X (rSlL X.K):=by
 intro pins s σ H x v vl vu lo hi sl Q I rx hs pl pu h
 obtain⟨a,xs,rfl,hx,q⟩:=h
 cases rx
 obtain⟨its,r,ht,hz⟩:=I.list hx
 have hlen:=r.length
 refine⟨"list",_,slot_list_getitem.lookup,ht.isList.typeIs,?_⟩
 refine wpAny_getItem_list_slice ht.isList hs pl pu .none (by simp) ?_ (by rw[List.size_toArray]<;>omega)
 rw[slicePick_cut,<- hlen]
 refine⟨.ref s.heap.objs.size,_,I.laid (t':=s.toks) (o:=.lst (cutV xs lo hi)) (fun b ob q=>Heap.get?_push_of_some _ q) (Nat.le_refl _) ?_,rfl,q _ (I.hok.fresh (Nat.le_refl _))⟩
 exact⟨Nat.le_trans (cutV_length xs lo hi) hz,_,0,(r.drop (HT.sIx xs.length 0 lo)).take (HT.sIx xs.length xs.length hi-HT.sIx xs.length 0 lo),Heap.get?_push_size _ rfl⟩
def flatV:V->Bool
 |.non=>true
 |.bl _=>true
 |.int _=>true
 |.str _=>true
 |_=>false
def eqV:V->V->Bool
 |.non,.non=>true
 |.bl a,.bl b=>a==b
 |.bl a,.int b=>(if a then 1 else 0)==b
 |.int a,.bl b=>a==(if b then 1 else 0)
 |.int a,.int b=>a==b
 |.str a,.str b=>a==b
 |_,_=>false
theorem eqAt_V {A:Around}{s:Shared}{y x:V}{u v:Value}(ry:RelV y u)(rx:RelV x v)(fy:flatV y=true)(fx:flatV x=true):SeqAt.EqAt A s u v (eqV y x):=by
 cases y with
 |non=>
  cases ry
  cases x with
  |non=>cases rx;exact SeqAt.EqAt.same _
  |bl b=>cases rx;exact SeqAt.EqAt.none_bool b
  |int b=>obtain⟨t,rfl⟩:=rx;exact SeqAt.EqAt.none_int b t
  |str b=>obtain⟨t,rfl⟩:=rx;exact SeqAt.EqAt.none_str b t
  |_=>exact absurd (show false=true from fx) Bool.false_ne_true
 |bl a=>
  cases ry
  cases x with
  |non=>cases rx;exact SeqAt.EqAt.bool_none a
  |bl b=>cases rx;exact SeqAt.EqAt.bool_bool a b
  |int b=>obtain⟨t,rfl⟩:=rx;exact SeqAt.EqAt.bool_int a b t
  |str b=>obtain⟨t,rfl⟩:=rx;exact SeqAt.EqAt.bool_str a b t
  |_=>exact absurd (show false=true from fx) Bool.false_ne_true
 |int a=>
  obtain⟨t',rfl⟩:=ry
  cases x with
  |non=>cases rx;exact SeqAt.EqAt.int_none a t'
  |bl b=>cases rx;exact SeqAt.EqAt.int_bool a t' b
  |int b=>obtain⟨t,rfl⟩:=rx;exact SeqAt.EqAt.int_int a t' b t
  |str b=>obtain⟨t,rfl⟩:=rx;exact SeqAt.EqAt.int_str a t' b t
  |_=>exact absurd (show false=true from fx) Bool.false_ne_true
 |str a=>
  obtain⟨t',rfl⟩:=ry
  cases x with
  |non=>cases rx;exact SeqAt.EqAt.str_none a t'
  |bl b=>cases rx;exact SeqAt.EqAt.str_bool a t' b
  |int b=>obtain⟨t,rfl⟩:=rx;exact SeqAt.EqAt.str_int a t' b t
  |str b=>obtain⟨t,rfl⟩:=rx;exact SeqAt.EqAt.str_str a t' b t
  |_=>exact absurd (show false=true from fx) Bool.false_ne_true
 |_=>exact absurd (show false=true from fy) Bool.false_ne_true
def eqU (x:V)(u:Value):Bool:=match u with
 |.none=>eqV .non x
 |.bool b=>eqV (.bl b) x
 |.int i _=>eqV (.int i) x
 |.str z _=>eqV (.str z) x
 |_=>false
theorem eqU_of {x y:V}{u:Value}(r:RelV y u)(f:flatV y=true):eqU x u=eqV y x:=by
 cases y with
 |non=>cases r;rfl
 |bl b=>cases r;rfl
 |int i=>obtain⟨t,rfl⟩:=r;rfl
 |str z=>obtain⟨t,rfl⟩:=r;rfl
 |_=>exact absurd (show false=true from f) Bool.false_ne_true
theorem any_eqU {x:V}:∀{xs:List V} {us:List Value},Vals xs us->xs.all flatV=true->us.any (eqU x)=xs.any fun y=>eqV y x
 |_,_,.nil,_=>rfl
 |y::xs,u::us,.cons r t,f=>by
  rw[List.all_cons,Bool.and_eq_true] at f
  rw[List.any_cons,List.any_cons,eqU_of r f.1,any_eqU t f.2]
theorem mem_eqAt {A:Around}{s:Shared}{x:V}{v:Value}(rx:RelV x v)(fx:flatV x=true):∀{xs:List V} {us:List Value},Vals xs us->xs.all flatV=true->∀u∈us,SeqAt.EqAt A s u v (eqU x u)
 |_,_,.nil,_=>fun u hu=>by cases hu
 |y::xs,u::us,.cons r t,f=>fun u' hu=>by
  rw[List.all_cons,Bool.and_eq_true] at f
  rcases List.mem_cons.mp hu with rfl|hu
  ·rw[eqU_of r f.1];exact eqAt_V r rx f.1 fx
  ·exact mem_eqAt rx fx t f.2 u' hu
def inV (x:V)(xs:List V):Bool:=xs.any fun y=>eqV y x
def rIn (K:W.Frag)(neg:Bool):R2:=fun x y H Q=>∃p xs,y=.ref p/\(SqL K H p xs\/SqT K H p xs)/\flatV x=true/\xs.all flatV=true/\Q (.bl (if neg then !inV x xs else inV x xs)) H
theorem op_in_seq:OpR X (compareOp .In) (rIn X.K false):=by
 intro pins s σ H x y v u Q I rx ry h
 obtain⟨p,xs,rfl,hq,fx,fs,q⟩:=h
 cases ry
 rcases hq with hq|hq
 ·obtain⟨its,r,pl,hz⟩:=I.list hq
  refine SeqAt.in_listAt (eqU x) pl.isList (fun w hw=>mem_eqAt rx fx r fs w (by simpa using hw)) ⟨.bl _,H,I,rfl,?_⟩
  rw[show its.toArray.any (eqU x)=its.any (eqU x) by simp,any_eqU r fs]
  exact q
 ·obtain⟨its,r,pl,hz⟩:=I.tuple hq
  refine SeqAt.in_tupleAt (eqU x) pl (fun w hw=>mem_eqAt rx fx r fs w (by simpa using hw)) ⟨.bl _,H,I,rfl,?_⟩
  rw[show its.toArray.any (eqU x)=its.any (eqU x) by simp,any_eqU r fs]
  exact q
theorem call_len_seq:CallR X (.builtin "len") (fun xs H Q=>∃p ys,xs=[.ref p]/\(SqL X.K H p ys\/SqT X.K H p ys)/\Q (.int ys.length) H):=by
 intro pins s σ H xs us Q I r h
 obtain⟨p,ys,rfl,hq,q⟩:=h
 obtain⟨u,rfl,rx⟩:=vals1 r
 cases rx
 have hn:=line63
 rcases hq with hq|hq
 ·obtain⟨its,r',pl,hz⟩:=I.list hq
  have hlen:=r'.length
  exact Calls.call_len_list pl.isList (by simp only[List.size_toArray]<;>omega) ⟨.int ys.length,H,I.tok _,⟨s.toks+1,by rw[List.size_toArray,hlen]⟩,q⟩
 ·obtain⟨its,r',pl,hz⟩:=I.tuple hq
  have hlen:=r'.length
  exact len_tuple pl (by simp only[List.size_toArray]<;>omega) ⟨.int ys.length,H,I.tok _,⟨s.toks+1,by rw[List.size_toArray,hlen]⟩,q⟩
theorem call_tuple_of:CallR X (.type "tuple") (fun xs H Q=>∃p ys,xs=[.ref p]/\((SqL X.K H p ys/\∀l,H l=none->Q (.ref l) (upd H l (.tup ys)))\/(SqT X.K H p ys/\Q (.ref p) H))):=by
 intro pins s σ H xs us Q I r h
 obtain⟨p,ys,rfl,h⟩:=h
 obtain⟨u,rfl,rx⟩:=vals1 r
 cases rx
 rcases h with⟨hq,q⟩|⟨hq,q⟩
 ·obtain⟨its,r',pl,hz⟩:=I.list hq
  have hlen:=r'.length
  refine call_tuple_list pl.isList (fun h' kp=>?_) (by simp only[List.size_toArray]<;>omega)
  have I1:Inv X pins σ H { s with heap:=h' }:=I.kept (t':=s.toks) kp
  have I2:Inv X pins σ (upd H h'.objs.size (.tup ys)) { s with heap:=h'.push { cls:=.type "tuple",data:=.seq its.toArray } }:=
   I1.laid (t':=s.toks) (fun b o e=>Heap.get?_push_of_some _ e) (Nat.le_refl _) (show ObjOk X.prog X.w _ _ _ (.tup ys) from⟨hz,its,r',IsTup.new _ _⟩)
  exact⟨.ref h'.objs.size,_,I2,rfl,q _ (I1.hok.fresh (Nat.le_refl _))⟩
 ·obtain⟨its,r',pl,hz⟩:=I.tuple hq
  exact call_tuple_same pl ⟨.ref p,H,I,rfl,q⟩
def tyV (K:W.Frag)(T:String)(x:V)(H:Hp):Prop:=match x with
 |.str _=>T="str"
 |.int _=>T="int"
 |.ref p=>(T="list"/\∃xs,SqL K H p xs)\/(T="tuple"/\∃o,K.lookup p=some o/\o.cls=.type "tuple"/\o.dict=none)∨
   (T="dict"/\((∃kvs,H p=some (.dK kvs))\/∃kvs,H p=some (.dT kvs)))\/(T="set"/\∃S n,H p=some (.set S n))
 |_=>False
theorem tyV_is {pins:List (Addr×Obj)}{σ:St}{H:Hp}{s:Shared}{T:String}{x:V}{v:Value}(I:Inv X pins σ H s)(r:RelV x v)(ty:tyV X.K T x H):
  s.TypeIs v T/\∀a,v=.ref a->∃ob,s.heap.get? a=some ob/\ob.dict=none:=by
 cases x with
 |str z=>
  obtain⟨t,rfl⟩:=r
  cases(show T="str" from ty)
  exact⟨typeIs_str s z t,fun _ e=>nomatch e⟩
 |int i=>
  obtain⟨t,rfl⟩:=r
  cases(show T="int" from ty)
  exact⟨typeIs_int s i t,fun _ e=>nomatch e⟩
 |ref p=>
  cases r
  rcases ty with⟨rfl,xs,hq⟩|⟨rfl,o,hk,hc,hd⟩|⟨rfl,hk⟩|⟨rfl,S,n,hk⟩
  ·obtain⟨its,_,pl,_⟩:=I.list hq
   refine⟨pl.isList.typeIs,fun a e=>?_⟩
   cases e
   obtain⟨o,n,e,c,hd,_⟩:=pl
   exact⟨o,e,hd⟩
  ·refine⟨⟨o,I.kIn p o hk,hc⟩,fun a e=>?_⟩
   cases e
   exact⟨o,I.kIn _ o hk,hd⟩
  ·have z:∃o,s.heap.get? p=some o/\o.ExactDict:=by
    rcases hk with⟨kvs,hk⟩|⟨kvs,hk⟩
    ·obtain⟨_,_,_,_,o,_,_,e,ex,_⟩:=I.hok p _ hk
     exact⟨o,e,ex⟩
    ·obtain⟨_,_,_,_,o,_,_,e,ex,_⟩:=I.hok p _ hk
     exact⟨o,e,ex⟩
   obtain⟨o,e,ex⟩:=z
   refine⟨⟨o,e,ex.1⟩,fun a e2=>?_⟩
   cases e2
   exact⟨o,e,ex.2.1⟩
  ·obtain⟨o,_,_,_,e,ex,_⟩:=I.hok p _ hk
   refine⟨⟨o,e,ex.1⟩,fun a e2=>?_⟩
   cases e2
   exact⟨o,e,ex.2.1⟩
 |_=>exact False.elim ty
def tBM (K:W.Frag)(T:String)(r:V->List V->Hp->VK->Prop)(to:TE)(t:TA):TE:=fun σ H Q=>to σ H fun x H1=>tyV K T x H1/\t σ H1 fun xs H2=>r x xs H2 Q
variable {o e:Expr} {es:List Expr} {to:TE} {t:TA} {name:Str} {apos cpos:Pos} {T id:String} {r:V->List V->Hp->VK->Prop}
theorem pe_bm (pa:PlainAttrs T)(slot:Slot T name id)(hty:typeOf (.builtin id)=pure (.type "method_descriptor"))(hm:MtR X id r)(ho:PE X o to)(ha:PA X (e::es) t)
  (hbase:attributeBase o name X.env (eval o X.env)=eval o X.env:=by rfl)
  (hfew:((backTo cpos (starEach (e::es) X.env)).all (fun x=>!x.1)&&(backToKw cpos (keywordEach [] X.env)).all (fun x=>x.1.isSome)
   &&decide ((e::es).length+([]:List Keyword).length+(if ([]:List Keyword).isEmpty then 0 else 1)<30))=true:=by rfl)
  (hline:(apos.endLine==cpos.line)=true:=by rfl) (hs:starEach (e::es) X.env=(false,eval e X.env)::starEach es X.env:=by rfl) (hplain:(backTo cpos (starEach es X.env)).any (·.1)=false:=by rfl):
  PE X (.Call (.Attribute o name apos) (e::es) [] cpos) (tBM X.K T r to t):=by
 intro pins s σ H Q I h
 refine wpAny_Call_method_late hbase hfew hline rfl (thn (ho pins s σ H _ I h) fun v s1 ⟨x,H1,I1,r1,ty,q1⟩=>?_)
 obtain⟨h1,h2⟩:=tyV_is I1 r1 ty
 refine⟨T,id,pa,slot,hty,h1,h2,?_⟩
 have hA:=ha cpos pins s1 σ H1 _ I1 q1
 rw[hs] at hA ⊢
 refine Calls.callWith_builtin (by show(false||(backTo cpos (starEach es X.env)).any (·.1))=false;rw[hplain]<;>rfl) (Calls.evalArgs_plain ?_)
 exact thn hA fun us s2 ⟨vs,H2,I2,r2,q2⟩=>hm pins s2 σ H2 x vs v us Q I2 r1 r2 q2
end
end L2
namespace L2
open PySem PySem.Spec PyProof.Rows
def MtM (X:Cx)(id:String)(r:V->List V->Hp->VK->Prop):Prop:=
 ∀(pins:List (Addr×Obj)) (s:Shared) (σ:St) (H:Hp) (x:V) (xs:List V) (v:Value) (us:List Value) (Q:VK),Inv X pins σ H s->RelV x v->Vals xs us->r x xs H Q→
  wpAny (model X.prog X.w) X.A (call (.builtin id) (v::us)) (EP X pins σ Q) X.xe s
theorem Vals.one:∀{x:V} {us:List Value},Vals [x] us->∃u,us=[u]/\RelV x u
 |_,_,.cons r .nil=>⟨_,rfl,r⟩
section
variable {X:Cx} {pins:List (Addr×Obj)} {σ:St} {H:Hp} {s:Shared} {l b:Addr} {xs ys zs:List V}
theorem Inv.lset {its its':List Value}{n:Nat}{f:Array Value->Array Value}{t':Nat}(I:Inv X pins σ H s)(hH:H l=some (.lst xs))
  (e:s.heap.get? l=some { cls:=.type "list",data:=.seq its.toArray n }) (hf:f its.toArray=its'.toArray) (hv:Vals ys its') (hz:ys.length<=sizeLine):
  Inv X pins σ (upd H l (.lst ys)) { s with heap:=s.heap.update l (Obj.mapSeq f),toks:=t' }:=by
 have q:=PySem.IsL.update e f
 rw[hf] at q
 refine I.write (x:=l) (e:=l) (by rw[hH];exact trivial) (.inl rfl) (fun b' u hb hu=>(Heap.get?_update_other s.heap (Obj.mapSeq f) (Ne.symm hb)).trans hu) ⟨_,q⟩ ?_
 exact⟨hz,its',_,hv,q⟩
theorem Inv.lnew {its:List Value}{t':Nat}(I:Inv X pins σ H s)(hv:Vals ys its)(hz:ys.length<=sizeLine):
  Inv X pins σ (upd H s.heap.objs.size (.lst ys)) { s with heap:=s.heap.push { cls:=.type "list",data:=.seq its.toArray },toks:=t' }:=
 I.laid (fun _ _ q=>Heap.get?_push_of_some _ q) (Nat.le_refl _) ⟨hz,its,0,hv,Heap.get?_push_size _ rfl⟩
theorem Inv.fresh (I:Inv X pins σ H s):H s.heap.objs.size=none:=I.hok.fresh (Nat.le_refl _)
theorem Inv.lstM (I:Inv X pins σ H s)(hH:H l=some (.lst xs)):xs.length<=sizeLine/\∃(its:List Value) (n:Nat),Vals xs its/\xs.length=its.length/\s.heap.get? l=some { cls:=.type "list",data:=.seq its.toArray n }:=by
 obtain⟨z,its,n,r,e⟩:=I.hok l _ hH
 exact⟨z,its,n,r,r.length,e⟩
theorem notLongL {n:Nat}(h:n<=sizeLine):Builtin.List.listTooLong n=false:=by
 unfold Builtin.List.listTooLong
 exact decide_eq_false (by omega)
end
section
variable {X:Cx}
def rAppend:V->List V->Hp->VK->Prop:=fun x vs H Q=>∃l xs y,x=.ref l/\vs=[y]/\H l=some (.lst xs)/\xs.length<sizeLine/\Q .non (upd H l (.lst (xs++[y])))
theorem mt_append:MtM X "list.append" rAppend:=by
 intro pins s σ H x vs v us Q I rx rv h
 obtain⟨l,xs,y,rfl,rfl,hH,hz,q⟩:=h
 cases rx
 obtain⟨u,rfl,ru⟩:=rv.one
 obtain⟨z,its,n,r,hl,e⟩:=I.lstM hH
 refine call_meets F.slot_list_append ⟨_,e,rfl⟩ F.entry_list_append (F.args_list_append_2 _ _) (PySem.list_append l its.toArray n u (by rw[List.size_toArray];omega)) ⟨e,?_⟩
 refine⟨.non,_,I.lset (its':=its++[u]) hH e (by simp) (r.append (.cons ru .nil)) ?_,rfl,q⟩
 rw[List.length_append,List.length_singleton]
 omega
def rExtend:V->List V->Hp->VK->Prop:=fun x vs H Q=>∃l b xs zs,x=.ref l/\vs=[.ref b]/\H l=some (.lst xs)/\H b=some (.lst zs)/\xs.length+zs.length<=sizeLine/\Q .non (upd H l (.lst (xs++zs)))
theorem mt_extend:MtM X "list.extend" rExtend:=by
 intro pins s σ H x vs v us Q I rx rv h
 obtain⟨l,b,xs,zs,rfl,rfl,hH,hB,hz,q⟩:=h
 cases rx
 obtain⟨u,rfl,ru⟩:=rv.one
 cases ru
 obtain⟨z,its,n,r,hl,e⟩:=I.lstM hH
 obtain⟨z2,its2,n2,r2,hl2,e2⟩:=I.lstM hB
 have hsz:its.toArray.size+its2.toArray.size<=sizeLine:=by rw[List.size_toArray,List.size_toArray];omega
 have hlong:¬(!its.toArray.isEmpty&&Builtin.List.listTooLong (its.toArray.size+its2.toArray.size))=true:=by
  rw[notLongL hsz,Bool.and_false]
  exact Bool.false_ne_true
 refine call_meets F.slot_list_extend ⟨_,e,rfl⟩ F.entry_list_extend (F.args_list_extend_2 _ _)
  (AutoSeq1.list_extend_list_list_0 l its.toArray n b its2.toArray n2 hlong (by rw[List.size_toArray];omega) (by omega)) ⟨e,e2,?_⟩
 refine⟨.non,_,I.lset (its':=its++its2) hH e (by simp) (r.append r2) ?_,rfl,q⟩
 rw[List.length_append]
 omega
end
end L2
namespace Att
open PySem PySem.W PySem.Calls PyProof.Rows
theorem ints_of_wellAll {P:Params}{h:Heap}:∀(ns:List Int) (vs:List Value),WellAll P h vs (ns.map WData.int)->IntsAre vs ns:=by
 intro ns
 induction ns with
 |nil=>
  intro vs w
  rw[List.map_nil] at w
  cases w
  exact .nil
 |cons n ns ih=>
  intro vs w
  rw[List.map_cons] at w
  cases w with
  |cons a b=>
   cases a
   exact .cons _ _ (ih _ b)
theorem script_of {l:OpenLaw}{n:Nat}(hn:l.most=some n){P:Params}{h:Heap}{args:List WData}{vals:List Value}
  (hpre:l.row.toRowW.claim.pre args=true) (hwl:WellAll P h vals args):
  ∃a vs ns,vals=[Value.ref a]/\args=[WData.list (ns.map WData.int)]/\h.get? a=some { cls:=.type "list",data:=.seq vs.toArray }/\IntsAre vs ns/\ns.length<=n:=by
 have hsh:WShape.hasAll [] args [.list .int]=true:=(pre_splitW hpre).1
 have hc:l.pre.holds [] { args:=args }=true:=(pre_splitW hpre).2
 obtain⟨d,r,rfl,h1,h2⟩:=hasAllW_cons hsh
 obtain rfl:=hasAllW_nil h2
 obtain⟨xs,rfl,h3⟩:=hasW_list h1
 obtain⟨ns,rfl⟩:=items_int h3
 have hlen:ns.length<=n:=by
  unfold OpenLaw.pre at hc
  have h4:(WTm.not (.lt (.lit (.int (n:Int))) (.len (.arg 0)))).holds [] { args:=[.list (ns.map .int)] }=true:=by
   have h4:=(holds_andW hc).1
   rw[hn] at h4
   exact h4
  have h5:=condW_of h4 (w_not (w_lt w_lit (w_len_list (w_arg rfl))))
  rw[List.length_map] at h5
  refine Nat.le_of_not_lt fun q=>?_
  have q':(n:Int)<((ns.length:Nat):Int):=by omega
  first
   | (rw[decide_eq_true q'] at h5;exact absurd h5 (by decide))
   | (simp at h5;omega)
 cases hwl with
 |cons w1 w2=>
  cases w2
  cases w1 with
  |list ho hall=>exact⟨_,_,ns,rfl,rfl,ho,ints_of_wellAll ns _ hall,hlen⟩
theorem post_true (l:OpenLaw)(args:List WData):l.row.toRowW.claim.post args (.bool true) args=true:=
 postW_of (r:=l.row.toRowW) (X:=(true==true))
  (show WShape.has [] (.bool true) .bool=true by first|rfl|decide|simp[WShape.has,WShape.arms,WShape.armsAll])
  (show(WTm.eq .res (.lit (.bool true))).value [] { args:=args,res:=some (.bool true),after:=args }=some (.bool (true==true)) from w_eq_bool (w_res rfl) w_lit) rfl
theorem attach_call {l:OpenLaw}{n:Nat}{q:Program}{loose:List Str}{XP:(Str->Option Value)->Heap->Prop}{YP:World->Heap->Prop}{d:DefRec}
  (hn:l.most=some n) (hdf:d.params.defaults=[])
  (call:∀(w:World) (s₀ s₁:Shared) (mg mb:Str->Option Value) (fa:Addr) (o:Obj) (pm cd doc:Value) (a:Addr) (vs:List Value) (ns:List Int),
   Ground q loose [] XP w s₀ mg mb s₁.heap->YP w s₁.heap→
   s₁.heap.get? fa=some o->o.data=.func (docDef d.name d.params d.body d.scope pm cd doc)->s₁.heap.CodeRec cd d.name->mg d.name=some (.ref fa)→
   s₁.heap.get? a=some { cls:=.type "list",data:=.seq vs.toArray }->IntsAre vs ns->ns.length<=n->s₁.gens=#[]→
   codeAny (model l.prog w) callerA (.call (.ref fa) ⟨[.ref a],[]⟩) (fun r s'=>r=.ok (.ret (.bool true))/\OldK s₁.heap s'.heap/\s'.os=s₁.os/\AllBare s'.gens) s₁):
  WalkO q loose XP YP l.row.toRowW d [] (fun f vs=>PySem.call f vs):=by
 intro w s₀ s₁ mg mb G Y fa o pm cd doc dV kV ho hd hcd hD hmg hg args vals as hpre hlay hrd hwl hlo
 obtain rfl:dV=.none:=Dflts.none hD hdf
 obtain rfl:kV=.none:=Dflts.noKw hD
 obtain⟨a,vs,ns,rfl,rfl,hobj,hints,hlen⟩:=script_of hn hpre hwl
 refine enter_call (codeAny_mono (call w s₀ s₁ mg mb fa o pm cd doc a vs ns G Y ho (fd_plain hd) hcd hmg hobj hints hlen hg) fun r s' hq=>?_)
 obtain⟨rfl,h2,h3,h4⟩:=hq
 exact⟨.inl ⟨.bool true,.bool true,[],rfl,fun _=>rfl,.bool true,post_true l _,fun _=>⟨List.Pairwise.nil,fun _ hm=>(nomatch hm)⟩⟩,h2,h3,h4⟩
end Att
namespace L2
open PySem PySem.Spec PyProof.Rows
theorem vals_ints:∀{vs:List Value} {ns:List Int},IntsAre vs ns->Vals (ns.map V.int) vs
 |_,_,.nil=>.nil
 |_,_,.cons n t h=>.cons ⟨t,rfl⟩ (vals_ints h)
def Only (H:Hp):Prop:=∀b,H b=none\/∃o xs,H b=some (.frz o (.lst xs))
theorem law_call {P:Program}{w:World}{K:W.Frag}{mg mb:Str->Option Value}{CX:CXT}{k:Nat}{fa a:Addr}{fd:FuncData}{x:Str}{sp:Sp}{s₁:Shared}{vs:List Value}{ns:List Int}
  (KX:K.In s₁.heap) (hns:s₁.heap.Ns mainGlobals mg) (hb:s₁.heap.Ns builtinsNs mb) (hbb:∀x:Str,x≠"__name__"->mb x=bootBuiltins x) (hlim:s₁.heap.NoLimit) (hg:s₁.gens=#[])
  (ha:s₁.heap.get? a=some { cls:=.type "list",data:=.seq vs.toArray }) (hi:IntsAre vs ns) (hl:ns.length<=sizeLine) (hr:Room k callerA)
  (F:∀base:Heap,K.In base->base.Ns mainGlobals mg->FnOk P w K mg base CX k fa fd [x] sp) (hbind:∀(s:Shared) (u:Value),BindsTo s fd ⟨[u],[]⟩ [(x,u)])
  (hsp:∀H:Hp,Only H->SqL K H a (ns.map V.int)->sp [.ref a] H (fun v _=>v=.bl true) fun _ _ _=>False)
  (hCX:∀H e s',CX [] H s₁ (fun _ _ _=>False) e s'->False):
  codeAny (model P w) callerA (.call (.ref fa) ⟨[.ref a],[]⟩) (fun r s'=>r=.ok (.ret (.bool true))/\OldK s₁.heap s'.heap/\s'.os=s₁.os/\AllBare s'.gens) s₁:=by
 have rv:=vals_ints hi
 have lenV:=hi.length
 have core:∀H:Hp,Only H->SqL K H a (ns.map V.int)->HOk P w H s₁.heap->(∀b,H b≠none->b=a)->(H a≠none->K.lookup a=none)→
   codeAny (model P w) callerA (.call (.ref fa) ⟨[.ref a],[]⟩) (fun r s'=>r=.ok (.ret (.bool true))/\OldK s₁.heap s'.heap/\s'.os=s₁.os/\AllBare s'.gens) s₁:=by
  intro H hO hS hok hA hK
  have base_of:∀{b:Addr} {o:Obj},s₁.heap.get? b=some o->H b=none->(hidT s₁.heap H).get? b=some o:=fun e n=>hidT_get e n
  have noA:∀{b:Addr} {o:Obj} {es:Array DictEntry} {ep:Nat},s₁.heap.get? b=some o->o.data=.dict es ep->H b=none:=fun {b o es ep} e d=>by
   cases q:H b with
   |none=>rfl
   |some u=>
    have e':b=a:=hA b (by rw[q];simp)
    subst e'
    rw[ha] at e;cases e
    have d':Data.seq vs.toArray _=Data.dict es ep:=d
    cases d'
  have nsK:∀{b:Addr} {m:Str->Option Value},s₁.heap.Ns b m->(hidT s₁.heap H).Ns b m:=fun {b m} ⟨o,es,ep,e,d,r⟩=>⟨o,es,ep,base_of e (noA e d),d,r⟩
  have hKb:K.In (hidT s₁.heap H):=fun b o e=>base_of (KX b o e) (by
   cases q:H b with
   |none=>rfl
   |some u=>
    have e':b=a:=hA b (by rw[q];simp)
    subst e'
    rw[hK (by rw[q];simp)] at e;cases e)
  have hM:Mod K mg (hidT s₁.heap H):=⟨hKb,nsK hns,⟨mb,nsK hb,hbb⟩,let ⟨mc,h1,h2⟩:=hlim;⟨mc,nsK h1,h2⟩⟩
  have e0:Env0 P w K mg (hidT s₁.heap H) callerA [] s₁ H:=⟨rfl,hM,fun b o e=>of_hidT e,Nat.le_of_eq (hidT_size _ _),trivial,fun b hb=>absurd (show b∈([]:List Addr) from hb) (by simp),hok,.of_eq hg⟩
  refine codeAny_mono ((F _ hKb (nsK hns)).run callerA [] s₁ H ⟨[.ref a],[]⟩ [.ref a] [.ref a] _ _ hr e0 (hbind s₁ (.ref a)) (.cons rfl .nil) (hsp H hO hS)) fun r s' h=>?_
  cases r with
  |error e=>exact(hCX H e s' h).elim
  |ok fl=>
   cases fl with
   |next=>exact False.elim h
   |brk=>exact False.elim h
   |cont=>exact False.elim h
   |ret u=>
    obtain⟨v,H',os,bare,un,hok',r',q⟩:=h
    have q':v=.bl true:=q
    subst q'
    obtain rfl:u=Value.bool true:=r'
    refine⟨rfl,OldK.of_keep fun b o e=>?_,os,bare⟩
    cases q:H b with
    |none=>exact un.keep b o e q (by intro z;exact absurd (show b∈([]:List Addr) from z) (by simp)) (by simp)
    |some u=>
     rcases hO b with z|⟨ob,xs,z⟩
     ·rw[q] at z;cases z
     ·have z2:=un.frzs b ob _ z
      obtain⟨e1,_⟩:=hok b _ z
      obtain⟨e2,_⟩:=hok' b _ z2
      rw[e] at e1;cases e1
      exact e2
 cases hk:K.lookup a with
 |some o=>
  have e:=KX a o hk
  rw[ha] at e
  cases e
  refine core (fun _=>none) (fun _=>.inl rfl) (.inr ⟨_,vs.toArray,_,hk,rfl,rfl,rfl,by rw[List.size_toArray,lenV];exact hl,by simpa using rv⟩) (fun b u z=>by have z':(none:Option HO)=some u:=z;cases z') (fun b z=>absurd rfl z) fun z=>absurd rfl z
 |none=>
  refine core (fun b=>if b=a then some (.frz { cls:=.type "list",data:=.seq vs.toArray } (.lst (ns.map V.int))) else none) (fun b=>?_) (.inl (.inr ⟨{ cls:=.type "list",data:=.seq vs.toArray },if_pos rfl⟩)) (fun b u z=>?_) (fun b z=>?_) fun _=>hk
  ·by_cases hb:b=a
   ·exact .inr ⟨_,_,if_pos hb⟩
   ·exact .inl (if_neg hb)
  ·by_cases hb:b=a
   ·have z':=(if_pos hb).symm.trans z
    cases z'
    subst hb
    exact⟨ha,by rw[List.length_map];exact hl,vs,_,rv,ha⟩
   ·have z':=(if_neg hb).symm.trans z
    cases z'
  ·by_cases hb:b=a
   ·exact hb
   ·exact absurd (if_neg hb) z
end L2
namespace L2
open PySem PySem.Spec PyProof.Rows
theorem walk_of {l:W.OpenLaw}{n k:Nat}{q:Program}{loose:List Str}{XP:(Str->Option Value)->Heap->Prop}{YP:World->Heap->Prop}{d:DefRec}{K:Params->W.Frag}{CX:World->CXT}{sp:World->Sp}{x:Str}
  (hn:l.most=some n) (hn2:n<=sizeLine) (hdf:d.params.defaults=[]) (hr:Room k callerA)
  (hY:∀(w:World) (h:Heap),YP w h->(K w.params).In h)
  (F:∀(w:World) (mg:Str->Option Value) (fa:Addr) (h:Heap),(K w.params).In h->h.Ns mainGlobals mg->mg d.name=some (.ref fa)→
   ∃fd:FuncData,(∀(s:Shared) (u:Value),BindsTo s fd ⟨[u],[]⟩ [(x,u)])∧
    ∀base:Heap,(K w.params).In base->base.Ns mainGlobals mg->FnOk l.prog w (K w.params) mg base (CX w) k fa fd [x] (sp w))
  (hsp:∀(w:World) (H:Hp) (a:Addr) (ns:List Int),ns.length<=n->Only H->SqL (K w.params) H a (ns.map V.int)->sp w [.ref a] H (fun v _=>v=.bl true) fun _ _ _=>False)
  (hCX:∀(w:World) (H:Hp) (s:Shared) (e:Value) (s':Shared),CX w [] H s (fun _ _ _=>False) e s'->False):
  W.WalkO q loose XP YP l.row.toRowW d [] (fun f vs=>PySem.call f vs):=by
 refine Att.attach_call hn hdf fun w s₀ s₁ mg mb fa o pm cd doc a vs ns G Y ho hd hcd hmg hobj hints hlen hg=>?_
 have KX:=hY w _ Y
 obtain⟨fd,hb,hF⟩:=F w mg fa _ KX G.T.g hmg
 exact law_call KX G.T.g G.T.b G.T.builtins G.T.nolimit hg hobj hints (Nat.le_trans hlen hn2) hr hF hb (fun H hO hS=>hsp w H a ns hlen hO hS) fun H e s'=>hCX w H s₁ e s'
end L2
namespace L2
open PySem PySem.Spec PyProof.Rows
abbrev CX0:CXT:=fun _ _ _ _ _ _=>False
abbrev E0:XK:=fun _ _ _=>False
theorem pass0 {X:Cx}:Passes CX0 X E0:=fun _ _ _ _ _ _ _ h=>h.elim
structure Fun (K:W.Frag)(x qual:Str)(st:Stmt)(f:Addr)(fd:FuncData):Prop where
 ex:∃(oc:Value) (od:Option Addr) (kV doc pm:Value) (an:Option Addr) (cdv ct:Value) (osl:Array (Option Value)),
  fd=W.fnOf x qual (defArgs st) (defBody st) (defScope st) .none kV doc pm an cdv ct/\K.lookup f=some ⟨oc,od,.func fd,osl⟩/\W.codeIn K cdv qual=true
 kp:W.keepIn K (.ref f)=true
section
variable {P:Program} {w:World} {K:W.Frag} {mg:Str->Option Value} {base:Heap}
theorem Fun.ok {x qual:Str}{st:Stmt}{f:Addr}{fd:FuncData}{N ps:List Str}{k:Nat}{sp:Sp}(F:Fun K x qual st f fd)(S:FnScope N ps (defScope st))(len:∀vs H Q E,sp vs H Q E->vs.length=ps.length)
  (hbody:∀(cdv:Value) (A:Around) (outer:List Env) (s:Shared) (H:Hp) (vs:List V) (Q:VK) (E:XK),Room k (A.deeper (envOfC qual (defScope st) s.heap.objs.size f cdv))->sp vs H Q E→
   ∃t,PSs (cxOf CX0 P w K mg base N qual (defScope st) f cdv A outer s H E).nox (defBody st) t/\t { nx:=fun _ H'=>Q .non H',rt:=Q } (start N vs) H):FnOk P w K mg base CX0 (k+1) f fd ps sp:=by
 obtain⟨oc,od,kV,doc,pm,an,cdv,ct,osl,rfl,lk,hcd⟩:=F.ex
 refine fn_of lk hcd S len fun A outer s H vs Q E hr hsp=>?_
 obtain⟨t,h,q⟩:=hbody cdv A outer s H vs Q E hr hsp
 exact⟨t,h.nox,q⟩
theorem Fun.binds {x qual:Str}{st:Stmt}{f:Addr}{fd:FuncData}{ps:List Str}(F:Fun K x qual st f fd)
  (h:∀(kV doc pm:Value) (an:Option Addr) (cdv ct:Value) (us:List Value),us.length=ps.length->bindArgs (W.fnOf x qual (defArgs st) (defBody st) (defScope st) .none kV doc pm an cdv ct) ⟨us,[]⟩=pure (ps.zip us)):Binds K fd ps []:=by
 obtain⟨oc,od,kV,doc,pm,an,cdv,ct,osl,rfl,lk,hcd⟩:=F.ex
 exact .all (h kV doc pm an cdv ct)
theorem fun_mk {x qual:Str}{st:Stmt}{f:Addr}{oc:Value}{od an:Option Addr}{osl:Array (Option Value)}{kV doc pm cdv ct:Value}(l:K.lookup f=some ⟨oc,od,.func (W.fnOf x qual (defArgs st) (defBody st) (defScope st) .none kV doc pm an cdv ct),osl⟩)
  (c:W.codeIn K cdv qual=true) (k:W.keepIn K (.ref f)=true):Fun K x qual st f (W.fnOf x qual (defArgs st) (defBody st) (defScope st) .none kV doc pm an cdv ct):=⟨⟨oc,od,kV,doc,pm,an,cdv,ct,osl,rfl,l,c⟩,k⟩
end
theorem hu_of {A:Around}{k:Nat}(hr:Room k A):A.units+1<cLine:=Nat.lt_of_le_of_lt (Nat.add_le_add_left (by decide:1<=64) _) hr.units
theorem small1000 {n:Nat}(h:n<=1000):n<sizeLine:=Nat.lt_of_le_of_lt h (by decide)
section
variable {X:Cx}
theorem pv (i:Nat){x:Str}{pos:Pos}(hN:X.N[i]?=some x:=by rfl)(hv:Vis X.env.scope x:=by first|exact Or.inl rfl|exact Or.inr (Or.inl rfl)|exact Or.inr (Or.inr rfl))(hd:(x==("__debug__":Str))=false:=by decide)
  (hcd:(x==("__classdict__":Str))=false:=by decide):PE X (.Name x pos) (tVar i):=pe_var hN hv hd hcd
end
theorem iteF {A B:Prop}(h:B):if false=true then A else B:=by
 rw[if_neg Bool.false_ne_true]
 exact h
theorem iteT {A B:Prop}(h:A):if true=true then A else B:=by
 rw[if_pos rfl]
 exact h
theorem ite2 {c A B:Prop}[Decidable c](h1:c->A)(h2:¬c->B):if c then A else B:=by
 by_cases h:c
 ·rw[if_pos h]
  exact h1 h
 ·rw[if_neg h]
  exact h2 h
theorem iteNS {c A B:Prop}[Decidable c](hc:c)(h:B):if (!decide c)=true then A else B:=by
 rw[decide_eq_true hc]
 exact iteF h
def Same (H H':Hp):Prop:=∀b o,H b=some o->H' b=some o
theorem Same.refl (H:Hp):Same H H:=fun _ _ h=>h
theorem Same.trans {H H1 H2:Hp}(a:Same H H1)(b:Same H1 H2):Same H H2:=fun c o h=>b c o (a c o h)
theorem Same.free {H H':Hp}(e:Same H H'){l:Addr}(h:H' l=Option.none):H l=Option.none:=by
 cases q:H l with
 |none=>rfl
 |some o=>
  rw[e l o q] at h
  cases h
theorem Same.seq {K:W.Frag}{H H':Hp}{a:Addr}{xs:List V}(e:Same H H')(h:SqL K H a xs):SqL K H' a xs:=by
 rcases h with(h|⟨o,h⟩)|h
 ·exact .inl (.inl (e _ _ h))
 ·exact .inl (.inr ⟨o,e _ _ h⟩)
 ·exact .inr h
end L2
set_option maxHeartbeats 4000000
namespace SO
open PySem PyProof PyProof.Rows
section
variable {M:Model} {A:Around} {E:Value->Shared->Prop} {s:Shared} {O:KeyOrd} {ky:Keyed->O.α} {κ:SortKind} {a₀:Array Keyed}
def Cmp (M:Model)(A:Around)(s:Shared)(O:KeyOrd)(ky:Keyed->O.α)(κ:SortKind)(a₀:Array Keyed):Prop:=∀x∈a₀.toList,∀y∈a₀.toList,∀(Q:Bool->Shared->Prop) (E:Value->Shared->Prop),Q (O.blt (ky x) (ky y)) s->wpAny M A (keyLt' κ x.1 y.1) Q E s
def dK:Keyed:=(Value.none,Value.none)
def kk (ky:Keyed->O.α)(xs:Array Keyed)(i:Nat):O.α:=ky (xs[i]?.getD dK)
structure SB (κ:SortKind)(a₀:Array Keyed)(st:SortSt):Prop where
 perm:(arrOf st).Perm a₀
 kind:kindOf st=κ
 failed:failedOf st=none
theorem SB.size {st:SortSt}(h:SB κ a₀ st):(arrOf st).size=a₀.size:=h.perm.size_eq
theorem SB.set {st:SortSt}(h:SB κ a₀ st){xs:Array Keyed}(hp:xs.Perm (arrOf st)):SB κ a₀ (setArr st xs):=⟨hp.trans h.perm,h.kind,h.failed⟩
theorem SB.mem {st:SortSt}(h:SB κ a₀ st){x:Keyed}(hx:x∈(arrOf st).toList):x∈a₀.toList:=(Array.perm_iff_toList_perm.mp h.perm).mem_iff.mp hx
theorem SB.at {st:SortSt}(h:SB κ a₀ st){i:Nat}(hi:i<a₀.size):∃x,(arrOf st)[i]?=some x/\x∈a₀.toList/\kk ky (arrOf st) i=ky x:=by
 have hi':i<(arrOf st).size:=by rw[h.size];exact hi
 have e:(arrOf st)[i]?=some (arrOf st)[i]:=getElem?_pos _ i hi'
 refine⟨_,e,h.mem (by simp),?_⟩
 unfold kk
 rw[e]
 rfl
theorem wpS_lt {st:SortSt}{x y:Keyed}{Q:Option Bool->SortSt->Prop}(hC:Cmp M A s O ky κ a₀)(hx:x∈a₀.toList)(hy:y∈a₀.toList)(hk:kindOf st=κ)(h:Q (some (O.blt (ky x) (ky y))) st):wpS M A E s (lt' x y) Q st:=by
 rw[lt'_eq]
 refine wpS_bind (wpS_get ?_)
 rw[hk]
 refine wpS_bind (wpS_lift (wpAny_attempt (hC x hx y hy _ _ ⟨rfl,?_⟩)))
 exact wpS_pure h
theorem wpS_elem {st:SortSt}{arr:Array Keyed}{i:Nat}{x:Keyed}{Q:Keyed->SortSt->Prop}(hi:arr[i]?=some x)(h:Q x st):wpS M A E s (elem' arr i) Q st:=by
 rw[elem'_eq,hi]
 exact wpS_pure h
theorem wpS_ltA {st:SortSt}{i j:Nat}{Q:Option Bool->SortSt->Prop}(hC:Cmp M A s O ky κ a₀)(hB:SB κ a₀ st)(hi:i<a₀.size)(hj:j<a₀.size)(h:Q (some (O.blt (kk ky (arrOf st) i) (kk ky (arrOf st) j))) st):wpS M A E s (ltAt' i j) Q st:=by
 obtain⟨x,e1,hx,k1⟩:=hB.at (ky:=ky) hi
 obtain⟨y,e2,hy,k2⟩:=hB.at (ky:=ky) hj
 rw[k1,k2] at h
 rw[ltAt'_eq]
 refine wpS_bind (wpS_get ?_)
 exact wpS_bind (wpS_elem e1 (wpS_bind (wpS_elem e2 (wpS_lt hC hx hy hB.kind h))))
theorem kk_congr {xs ys:Array Keyed}{i j:Nat}(h:xs[i]?=ys[j]?):kk ky xs i=kk ky ys j:=by unfold kk;rw[h]
theorem kk_bubble {xs:Array Keyed}{src d:Nat}(hs:src<xs.size)(hd:d<=src)(k:Nat):kk ky (bubble xs src d) k=if k=src-d then kk ky xs src else if src-d<k/\k<=src then kk ky xs (k-1) else kk ky xs k:=by
 have e:=getElem?_bubble hs d hd k
 by_cases h1:k=src-d
 ·rw[if_pos h1] at e ⊢;exact kk_congr e
 ·rw[if_neg h1] at e ⊢
  by_cases h2:src-d<k/\k<=src
  ·rw[if_pos h2] at e ⊢;exact kk_congr e
  ·rw[if_neg h2] at e ⊢;exact kk_congr e
theorem kk_mirror {xs:Array Keyed}{i j:Nat}(hj:j<=xs.size)(k:Nat):kk ky (mirror xs i j ((j-i) / 2)) k=if i<=k/\k<j then kk ky xs (i+j-1-k) else kk ky xs k:=by
 have e:=getElem?_mirror_all (i:=i) hj k
 by_cases h1:i<=k/\k<j
 ·rw[if_pos h1] at e ⊢;exact kk_congr e
 ·rw[if_neg h1] at e ⊢;exact kk_congr e
theorem kk_mirror_equal {xs:Array Keyed}{i j:Nat}(hj:j<=xs.size)(heq:∀k,i<=k->k<j->kk ky xs k=kk ky xs (j-1))(k:Nat):kk ky (mirror xs i j ((j-i) / 2)) k=kk ky xs k:=by
 rw[kk_mirror hj]
 split
 ·rw[heq _ (by omega) (by omega),heq k (by omega) (by omega)]
 ·rfl
def Ag (xs ys:Array Keyed)(lo hi:Nat):Prop:=∀k,k<lo\/hi<=k->ys[k]?=xs[k]?
theorem Ag.refl (xs:Array Keyed)(lo hi:Nat):Ag xs xs lo hi:=fun _ _=>rfl
theorem Ag.trans {xs ys zs:Array Keyed}{lo hi:Nat}(a:Ag xs ys lo hi)(b:Ag ys zs lo hi):Ag xs zs lo hi:=fun k h=>(b k h).trans (a k h)
theorem Ag.mirror {xs:Array Keyed}{i j lo hi:Nat}(hj:j<=xs.size)(h1:lo<=i)(h2:j<=hi):Ag xs (mirror xs i j ((j-i) / 2)) lo hi:=fun k h=>by
 rw[getElem?_mirror_all hj,if_neg (by omega)]
theorem Ag.bubble {xs:Array Keyed}{src d lo hi:Nat}(hs:src<xs.size)(hd:d<=src)(h1:lo<=src-d)(h2:src<hi):Ag xs (bubble xs src d) lo hi:=fun k h=>by
 rw[getElem?_bubble hs d hd,if_neg (by omega),if_neg (by omega)]
def Up (ky:Keyed->O.α)(xs:Array Keyed)(lo n:Nat):Prop:=∀i j,i<=j->j<n->O.kle (kk ky xs (lo+i)) (kk ky xs (lo+j))
def Dn (ky:Keyed->O.α)(xs:Array Keyed)(lo n:Nat):Prop:=∀i j,i<=j->j<n->O.kle (kk ky xs (lo+j)) (kk ky xs (lo+i))
def ascL (lo a nrem:Nat):StateT SortSt Sem AscSt:=
 forIn [a:nrem] ((none,a):AscSt) fun _ __s=>do
  let __x ← ltAt' (lo+__s.snd) (lo+__s.snd-1)
  match __x with
  |some smaller=>if smaller=true then pure (ForInStep.done (none,__s.snd)) else pure (ForInStep.yield (none,__s.snd+1))
  |_=>pure (ForInStep.done (some none,__s.snd))
def tailL (lo n nrem:Nat):StateT SortSt Sem (Option Nat):=do
 reverseSlice' lo (lo+n)
 let __s ← ascL lo n nrem
 match __s.fst with
 |some r=>pure r
 |none=>pure (some __s.snd)
def descL (lo n nrem:Nat):StateT SortSt Sem DescSt:=
 forIn [n:nrem] ((none,n,0):DescSt) fun _ __s=>do
  let __x ← ltAt' (lo+__s.snd.fst) (lo+__s.snd.fst-1)
  match __x with
  |some smaller=>
   if smaller=true then
    if __s.snd.snd > 0 then do
     reverseSlice' (lo+__s.snd.fst-(__s.snd.snd+1)) (lo+__s.snd.fst)
     pure (ForInStep.yield (none,__s.snd.fst+1,0))
    else pure (ForInStep.yield (none,__s.snd.fst+1,0))
   else do
    let __x ← ltAt' (lo+__s.snd.fst-1) (lo+__s.snd.fst)
    match __x with
    |some larger=>
     if larger=true then pure (ForInStep.done (none,__s.snd.fst,__s.snd.snd))
     else pure (ForInStep.yield (none,__s.snd.fst+1,__s.snd.snd+1))
    |_=>pure (ForInStep.done (some none,__s.snd.fst,__s.snd.snd))
  |_=>pure (ForInStep.done (some none,__s.snd.fst,__s.snd.snd))
def partL (lo n nrem:Nat):StateT SortSt Sem (Option Nat):=do
 liftM (rule "list.sort.descending-run")
 let __s ← descL lo (n+1) nrem
 match __s.fst with
 |some r=>pure r
 |none=>
  if __s.snd.snd > 0 then do
   reverseSlice' (lo+__s.snd.fst-(__s.snd.snd+1)) (lo+__s.snd.fst)
   tailL lo __s.snd.fst nrem
  else tailL lo __s.snd.fst nrem
theorem bcong {α β:Type}{m m':StateT SortSt Sem α}{f g:α->StateT SortSt Sem β}(h:m=m')(h':∀x,f x=g x):(m >>= f)=(m' >>= g):=by rw[h,show f=g from funext h']
theorem tailL_eq (lo n nrem:Nat):tailL lo n nrem=(do
  reverseSlice' lo (lo+n)
  let mut n:=n
  for _ in [n:nrem] do
   let some smaller ← ltAt' (lo+n) (lo+n-1)|return none
   if smaller then break
   n:=n+1
  return some n):=by
 unfold tailL ascL
 refine bcong rfl fun _=>bcong rfl fun s3=>?_
 obtain⟨r3,n3⟩:=s3
 cases r3<;>rfl
theorem partL_eq (lo n nrem:Nat):partL lo n nrem=(do
 let mut n:=n
 rule "list.sort.descending-run"
 n:=n+1
 let mut neq:=0
 for _ in [n:nrem] do
  let some smaller ← ltAt' (lo+n) (lo+n-1)|return none
  if smaller then
   if neq > 0 then reverseSlice' (lo+n-(neq+1)) (lo+n)
   neq:=0
  else
   let some larger ← ltAt' (lo+n-1) (lo+n)|return none
   if larger then break
   neq:=neq+1
  n:=n+1
 if neq > 0 then reverseSlice' (lo+n-(neq+1)) (lo+n)
 tailL lo n nrem):=by
 unfold partL descL
 refine bcong rfl fun _=>bcong rfl fun s3=>?_
 obtain⟨r3,n3,q3⟩:=s3
 cases r3<;>rfl
theorem countL_eq (lo nrem:Nat):countRun' lo nrem=(do
  let __s ← ascL lo 1 nrem
  match __s.fst with
  |some r=>pure r
  |none=>
   if (__s.snd==nrem)=true then pure (some __s.snd)
   else if __s.snd > 1 then do
    let __x ← ltAt' lo (lo+__s.snd-1)
    match __x with
    |some rose=>if rose=true then pure (some __s.snd) else do
      reverseSlice' lo (lo+__s.snd)
      partL lo __s.snd nrem
    |_=>pure none
   else partL lo __s.snd nrem):=by
 rw[countRun'_eq]
 refine bcong (by unfold ascL;rfl) fun __s=>?_
 obtain⟨r,n⟩:=__s
 cases r with
 |some r=>rfl
 |none=>
  dsimp only
  split
  ·rfl
  ·split
   ·refine bcong rfl fun x=>?_
    cases x with
    |none=>rfl
    |some rose=>
     dsimp only
     split
     ·rfl
     ·refine bcong rfl fun _=>?_
      rw[partL_eq]
      simp only[tailL_eq]
      rfl
   ·rw[partL_eq]
    simp only[tailL_eq]
    rfl
end
end SO
namespace SO
open PySem PyProof PyProof.Rows
section
variable {M:Model} {A:Around} {E:Value->Shared->Prop} {s:Shared} {O:KeyOrd} {ky:Keyed->O.α} {κ:SortKind} {a₀:Array Keyed}
theorem wpS_rev {st:SortSt}{i j:Nat}{Q:Unit->SortSt->Prop}(h:Q () (setArr st (mirror (arrOf st) i j ((j-i) / 2)))):wpS M A E s (reverseSlice' i j) Q st:=by
 rw[reverseSlice'_eq];exact wpS_modify h
structure Kp (κ:SortKind)(a₀:Array Keyed)(lo hi:Nat)(st st':SortSt):Prop where
 sb:SB κ a₀ st'
 ag:Ag (arrOf st) (arrOf st') lo hi
 pend:pendingOf st'=pendingOf st
theorem Kp.refl {lo hi:Nat}{st:SortSt}(h:SB κ a₀ st):Kp κ a₀ lo hi st st:=⟨h,Ag.refl _ _ _,rfl⟩
theorem Kp.trans {lo hi:Nat}{st st' st'':SortSt}(a:Kp κ a₀ lo hi st st')(b:Kp κ a₀ lo hi st' st''):Kp κ a₀ lo hi st st'':=⟨b.sb,a.ag.trans b.ag,b.pend.trans a.pend⟩
theorem Kp.mirror {lo hi i j:Nat}{st st':SortSt}(a:Kp κ a₀ lo hi st st')(hj:j<=a₀.size)(h1:lo<=i)(h2:j<=hi):Kp κ a₀ lo hi st (setArr st' (mirror (arrOf st') i j ((j-i) / 2))):=
 a.trans ⟨a.sb.set (mirror_perm _ _ _ _),Ag.mirror (by rw[a.sb.size];exact hj) h1 h2,rfl⟩
theorem wpS_ascL {st:SortSt}{lo a nrem:Nat}{Q:AscSt->SortSt->Prop}(hC:Cmp M A s O ky κ a₀)(hn:lo+nrem<=a₀.size)(ha:1<=a)(han:a<=nrem)(hB:SB κ a₀ st)(hs:Up ky (arrOf st) lo a)
  (h:∀n,a<=n->n<=nrem->Up ky (arrOf st) lo n->(n=nrem\/O.klt (kk ky (arrOf st) (lo+n)) (kk ky (arrOf st) (lo+n-1)))->Q (none,n) st):wpS M A E s (ascL lo a nrem) Q st:=by
 unfold ascL
 refine wpS_forRange (I:=fun x c st'=>st'=st/\c=(none,x)/\Up ky (arrOf st) lo x) ?step ?fin ⟨rfl,rfl,hs⟩
 case fin=>
  rintro c st' ⟨rfl,rfl,hs'⟩
  rw[show max a nrem=nrem by omega] at hs' ⊢
  exact h nrem han (Nat.le_refl _) hs' (.inl rfl)
 case step=>
  rintro x c st' hax hxn ⟨rfl,rfl,hs'⟩
  dsimp only
  refine wpS_bind (wpS_ltA (ky:=ky) hC hB (by omega) (by omega) ?_)
  cases hless:O.blt (kk ky (arrOf st') (lo+x)) (kk ky (arrOf st') (lo+x-1))
  case true=>
   simp only[if_true]
   exact wpS_pure (h x hax (by omega) hs' (.inr hless))
  case false=>
   simp only[Bool.false_eq_true,if_false]
   refine wpS_pure ⟨rfl,rfl,fun i j hij hj=>?_⟩
   by_cases hjx:j<x
   ·exact hs' i j hij hjx
   ·have hj':j=x:=by omega
    subst hj'
    by_cases hi':i=j
    ·subst hi';exact KeyOrd.kle_refl _
    ·refine KeyOrd.kle_trans (hs' i (j-1) (by omega) (by omega)) ?_
     rw[show lo+(j-1)=lo+j-1 by omega]
     exact hless
theorem wpS_tailL {st₀ st:SortSt}{lo n nrem:Nat}{Q:Option Nat->SortSt->Prop}(hC:Cmp M A s O ky κ a₀)(hn:lo+nrem<=a₀.size)(h1:1<=n)(hnn:n<=nrem)(hB:Kp κ a₀ lo (lo+nrem) st₀ st)(hs:Dn ky (arrOf st) lo n)
  (h:∀m st',Kp κ a₀ lo (lo+nrem) st₀ st'->1<=m->m<=nrem->Up ky (arrOf st') lo m->Q (some m) st'):wpS M A E s (tailL lo n nrem) Q st:=by
 unfold tailL
 have hsz:lo+n<=(arrOf st).size:=by rw[hB.sb.size];omega
 refine wpS_bind (wpS_rev ?_)
 have hB':=hB.mirror (i:=lo) (j:=lo+n) (by omega) (by omega) (by omega)
 refine wpS_bind (wpS_ascL hC hn h1 hnn hB'.sb ?_ fun m hm1 hm2 hsm _=>wpS_pure (h m _ hB' (by omega) hm2 hsm))
 intro i j hij hj
 show O.kle (kk ky (mirror (arrOf st) lo (lo+n) ((lo+n-lo) / 2)) (lo+i)) (kk ky (mirror (arrOf st) lo (lo+n) ((lo+n-lo) / 2)) (lo+j))
 rw[kk_mirror hsz,kk_mirror hsz,if_pos (by omega),if_pos (by omega)]
 have:=hs (n-1-j) (n-1-i) (by omega) (by omega)
 rw[show lo+(n-1-i)=lo+(lo+n)-1-(lo+i) by omega,show lo+(n-1-j)=lo+(lo+n)-1-(lo+j) by omega] at this
 exact this
theorem wpS_descL {st₀ st:SortSt}{lo n nrem:Nat}{Q:DescSt->SortSt->Prop}(hC:Cmp M A s O ky κ a₀)(hn:lo+nrem<=a₀.size)(h1:1<=n)(hnn:n<=nrem)(hB:Kp κ a₀ lo (lo+nrem) st₀ st)(hs:Dn ky (arrOf st) lo n)
  (h:∀m neq st',Kp κ a₀ lo (lo+nrem) st₀ st'->n<=m->m<=nrem->Dn ky (arrOf st') lo m->neq+1<=m->(∀i,lo+m-(neq+1)<=i->i<lo+m->kk ky (arrOf st') i=kk ky (arrOf st') (lo+m-1))->Q (none,m,neq) st'):wpS M A E s (descL lo n nrem) Q st:=by
 unfold descL
 refine wpS_forRange (I:=fun x c st'=>∃neq,c=(none,x,neq)/\Kp κ a₀ lo (lo+nrem) st₀ st'/\Dn ky (arrOf st') lo x/\neq+1<=x∧
   (∀i,lo+x-(neq+1)<=i->i<lo+x->kk ky (arrOf st') i=kk ky (arrOf st') (lo+x-1))) ?step ?fin ⟨0,rfl,hB,hs,by omega,fun i h1 h2=>by congr 1;omega⟩
 case fin=>
  rintro c st' ⟨neq,rfl,hB',hs',hq,he⟩
  rw[show max n nrem=nrem by omega] at hs' hq he ⊢
  exact h nrem neq st' hB' hnn (Nat.le_refl _) hs' hq he
 case step=>
  rintro x c st' hax hxn ⟨neq,rfl,hB',hs',hq,he⟩
  dsimp only
  have hsz:lo+x<=(arrOf st').size:=by rw[hB'.sb.size];omega
  refine wpS_bind (wpS_ltA (ky:=ky) hC hB'.sb (by omega) (by omega) ?_)
  cases hless:O.blt (kk ky (arrOf st') (lo+x)) (kk ky (arrOf st') (lo+x-1))
  case true=>
   simp only[if_true]
   have step1:∀xs:Array Keyed,(∀k,kk ky xs k=kk ky (arrOf st') k)->Dn ky xs lo (x+1):=by
    intro xs hk i j hij hj
    rw[hk,hk]
    by_cases hjx:j<x
    ·exact hs' i j hij hjx
    ·have hj':j=x:=by omega
     subst hj'
     by_cases hi':i=j
     ·subst hi';exact KeyOrd.kle_refl _
     ·refine KeyOrd.kle_trans (KeyOrd.kle_of_klt hless) ?_
      rw[show lo+j-1=lo+(j-1) by omega]
      exact hs' i (j-1) (by omega) (by omega)
   by_cases hneq:neq > 0
   ·rw[if_pos hneq]
    refine wpS_bind (wpS_rev (wpS_pure ⟨0,rfl,hB'.mirror (by omega) (by omega) (by omega),step1 _ (kk_mirror_equal hsz he),by omega,fun i h1 h2=>by congr 1;omega⟩))
   ·rw[if_neg hneq]
    exact wpS_pure ⟨0,rfl,hB',step1 _ (fun _=>rfl),by omega,fun i h1 h2=>by congr 1;omega⟩
  case false=>
   simp only[Bool.false_eq_true,if_false]
   refine wpS_bind (wpS_ltA (ky:=ky) hC hB'.sb (by omega) (by omega) ?_)
   cases hlarger:O.blt (kk ky (arrOf st') (lo+x-1)) (kk ky (arrOf st') (lo+x))
   case true=>
    simp only[if_true]
    exact wpS_pure (h x neq st' hB' hax (by omega) hs' hq he)
   case false=>
    simp only[Bool.false_eq_true,if_false]
    have heqx:kk ky (arrOf st') (lo+x)=kk ky (arrOf st') (lo+x-1):=KeyOrd.kle_antisymm hlarger hless
    refine wpS_pure ⟨neq+1,rfl,hB',fun i j hij hj=>?_,by omega,fun i h1 h2=>?_⟩
    ·by_cases hjx:j<x
     ·exact hs' i j hij hjx
     ·have hj':j=x:=by omega
      subst hj'
      by_cases hi':i=j
      ·subst hi';exact KeyOrd.kle_refl _
      ·rw[heqx,show lo+j-1=lo+(j-1) by omega];exact hs' i (j-1) (by omega) (by omega)
    ·rw[show lo+(x+1)-1=lo+x by omega]
     by_cases hix:i=lo+x
     ·subst hix;rfl
     ·rw[heqx];exact he i (by omega) (by omega)
theorem wpS_partL {st₀ st:SortSt}{lo n nrem:Nat}{Q:Option Nat->SortSt->Prop}(hC:Cmp M A s O ky κ a₀)(hn:lo+nrem<=a₀.size)(hnn:n+1<=nrem)(hB:Kp κ a₀ lo (lo+nrem) st₀ st)(hs:Dn ky (arrOf st) lo (n+1))
  (h:∀m st',Kp κ a₀ lo (lo+nrem) st₀ st'->1<=m->m<=nrem->Up ky (arrOf st') lo m->Q (some m) st'):wpS M A E s (partL lo n nrem) Q st:=by
 unfold partL
 refine wpS_bind (wpS_lift (wpAny_rule ⟨rfl,?_⟩))
 refine wpS_bind (wpS_descL hC hn (by omega) hnn hB hs fun m neq st' hB' hm1 hm2 hs' hq he=>?_)
 dsimp only
 have hsz:lo+m<=(arrOf st').size:=by rw[hB'.sb.size];omega
 by_cases hneq:neq > 0
 ·rw[if_pos hneq]
  refine wpS_bind (wpS_rev (wpS_tailL hC hn (by omega) hm2 (hB'.mirror (by omega) (by omega) (by omega)) ?_ h))
  intro i j hij hj
  show O.kle (kk ky (mirror (arrOf st') _ _ _) (lo+j)) (kk ky (mirror (arrOf st') _ _ _) (lo+i))
  rw[kk_mirror_equal hsz he,kk_mirror_equal hsz he]
  exact hs' i j hij hj
 ·rw[if_neg hneq]
  exact wpS_tailL hC hn (by omega) hm2 hB' hs' h
theorem wpS_count {st:SortSt}{lo nrem:Nat}{Q:Option Nat->SortSt->Prop}(hC:Cmp M A s O ky κ a₀)(hn:lo+nrem<=a₀.size)(h1:1<=nrem)(hB:SB κ a₀ st)
  (h:∀m st',Kp κ a₀ lo (lo+nrem) st st'->1<=m->m<=nrem->Up ky (arrOf st') lo m->Q (some m) st'):wpS M A E s (countRun' lo nrem) Q st:=by
 rw[countL_eq]
 have hK:Kp κ a₀ lo (lo+nrem) st st:=Kp.refl hB
 refine wpS_bind (wpS_ascL hC hn (Nat.le_refl 1) h1 hB (fun i j hij hj=>by have:i=j:=(by omega);subst this;exact KeyOrd.kle_refl _) fun n hn1 hn2 hsn hor=>?_)
 dsimp only
 by_cases hnn:n=nrem
 ·rw[if_pos (by simpa using hnn)]
  exact wpS_pure (h n st hK hn1 hn2 hsn)
 ·rw[if_neg (by simpa using hnn)]
  have hlt:O.klt (kk ky (arrOf st) (lo+n)) (kk ky (arrOf st) (lo+n-1)):=hor.resolve_left hnn
  by_cases hgt:n > 1
  ·rw[if_pos hgt]
   refine wpS_bind (wpS_ltA (ky:=ky) hC hB (by omega) (by omega) ?_)
   cases hrose:O.blt (kk ky (arrOf st) lo) (kk ky (arrOf st) (lo+n-1))
   case true=>
    simp only[if_true]
    exact wpS_pure (h n st hK hn1 hn2 hsn)
   case false=>
    simp only[Bool.false_eq_true,if_false]
    have hsz:lo+n<=(arrOf st).size:=by rw[hB.size];omega
    have hall:∀k,lo<=k->k<lo+n->kk ky (arrOf st) k=kk ky (arrOf st) (lo+n-1):=by
     intro k hk0 hk
     have a1:=hsn 0 (k-lo) (by omega) (by omega)
     have a2:=hsn (k-lo) (n-1) (by omega) (by omega)
     rw[show lo+(k-lo)=k by omega] at a1 a2
     rw[show lo+(n-1)=lo+n-1 by omega] at a2
     rw[Nat.add_zero] at a1
     exact KeyOrd.kle_antisymm a2 (KeyOrd.kle_trans hrose a1)
    refine wpS_bind (wpS_rev (wpS_partL hC hn (by omega) (hK.mirror (by omega) (by omega) (by omega)) ?_ h))
    intro i j hij hj
    show O.kle (kk ky (mirror (arrOf st) _ _ _) (lo+j)) (kk ky (mirror (arrOf st) _ _ _) (lo+i))
    rw[kk_mirror_equal hsz hall,kk_mirror_equal hsz hall]
    by_cases hjn:j<n
    ·rw[hall (lo+i) (by omega) (by omega),hall (lo+j) (by omega) (by omega)];exact KeyOrd.kle_refl _
    ·have hj':j=n:=by omega
     subst hj'
     by_cases hi':i=j
     ·subst hi';exact KeyOrd.kle_refl _
     ·rw[hall (lo+i) (by omega) (by omega)];exact KeyOrd.kle_of_klt hlt
  ·rw[if_neg hgt]
   have hn1':n=1:=by omega
   subst hn1'
   refine wpS_partL hC hn (by omega) hK ?_ h
   intro i j hij hj
   by_cases hi':i=j
   ·subst hi';exact KeyOrd.kle_refl _
   ·have hi0:i=0:=by omega
    have hj1:j=1:=by omega
    subst hi0;subst hj1
    exact KeyOrd.kle_of_klt hlt
theorem wpS_bin {st:SortSt}{lo n ok:Nat}{Q:Bool->SortSt->Prop}(hC:Cmp M A s O ky κ a₀)(hn:lo+n<=a₀.size)(hok:ok<=n)(hB:SB κ a₀ st)(hs:Up ky (arrOf st) lo ok)
  (h:∀st',Kp κ a₀ lo (lo+n) st st'->Up ky (arrOf st') lo n->Q true st'):wpS M A E s (binarySort' lo n ok) Q st:=by
 rw[binarySort'_eq]
 refine wpS_bind (wpS_mono (wpS_forRange (I:=fun k c st'=>c=(none,())/\Kp κ a₀ lo (lo+n) st st'/\Up ky (arrOf st') lo (min k n))
  (Q:=fun c st'=>c=(none,())/\Kp κ a₀ lo (lo+n) st st'/\Up ky (arrOf st') lo n) ?step ?fin ?init) ?post)
 case post=>
  rintro c st' ⟨rfl,hB',hs'⟩
  exact wpS_pure (h st' hB' hs')
 case init=>
  refine⟨rfl,Kp.refl hB,fun i j hij hj=>?_⟩
  by_cases h1:ok=0
  ·have:i=j:=by omega
   subst this;exact KeyOrd.kle_refl _
  ·exact hs i j hij (by omega)
 case fin=>
  rintro c st' ⟨hc,hB',hs'⟩
  refine⟨hc,hB',?_⟩
  rwa [show min (max (max ok 1) n) n=n by omega] at hs'
 case step=>
  rintro k c st' hak hkn ⟨rfl,hB',hs'⟩
  rw[show min k n=k by omega] at hs'
  have hk:lo+k<a₀.size:=by omega
  refine wpS_bind (wpS_mono (wpS_forRange (I:=fun x c st''=>st''=st'/\∃l r,c=(none,l,r)/\l<=r/\r<=k/\r-l<=k-x∧
    (∀i,i<l->O.kle (kk ky (arrOf st') (lo+i)) (kk ky (arrOf st') (lo+k)))/\(∀i,r<=i->i<k->O.klt (kk ky (arrOf st') (lo+k)) (kk ky (arrOf st') (lo+i))))
   (Q:=fun c st''=>st''=st'/\∃l r,c=(none,l,r)/\l<=k∧
    (∀i,i<l->O.kle (kk ky (arrOf st') (lo+i)) (kk ky (arrOf st') (lo+k)))/\(∀i,l<=i->i<k->O.klt (kk ky (arrOf st') (lo+k)) (kk ky (arrOf st') (lo+i)))) ?istep ?ifin ?iinit) ?ipost)
  case iinit=>exact⟨rfl,0,k,rfl,by omega,by omega,by omega,fun i hi=>by omega,fun i h1 h2=>by omega⟩
  case ifin=>
   rintro c st'' ⟨rfl,l,r,rfl,hlr,hrk,hm,hlo,hhi⟩
   have:l=r:=by omega
   subst this
   exact⟨rfl,l,l,rfl,hrk,hlo,hhi⟩
  case istep=>
   rintro x c st'' _ hxk ⟨rfl,l,r,rfl,hlr,hrk,hm,hlo,hhi⟩
   dsimp only
   by_cases hge:l≥r
   ·rw[if_pos hge]
    have:l=r:=by omega
    subst this
    exact wpS_pure ⟨rfl,l,l,rfl,hrk,hlo,hhi⟩
   ·rw[if_neg hge]
    refine wpS_bind (wpS_ltA (ky:=ky) hC hB'.sb hk (by omega) ?_)
    cases hless:O.blt (kk ky (arrOf st'') (lo+k)) (kk ky (arrOf st'') (lo+(l+r) / 2))
    case true=>
     simp only[if_true]
     refine wpS_pure ⟨rfl,l,(l+r) / 2,rfl,by omega,by omega,by omega,hlo,fun i h1 h2=>?_⟩
     exact KeyOrd.klt_of_klt_of_kle hless (hs' _ _ h1 h2)
    case false=>
     simp only[Bool.false_eq_true,if_false]
     refine wpS_pure ⟨rfl,(l+r) / 2+1,r,rfl,by omega,by omega,by omega,fun i h1=>?_,hhi⟩
     exact KeyOrd.kle_trans (hs' i ((l+r) / 2) (by omega) (by omega)) (show O.kle _ _ from hless)
  case ipost=>
   rintro c st'' ⟨rfl,l,r,rfl,hlk,hlo,hhi⟩
   show wpS _ _ _ _ (do moveDown' (lo+k) (lo+l);pure (ForInStep.yield (none,()))) _ _
   rw[moveDown'_eq]
   have hks:lo+k<(arrOf st'').size:=by rw[hB'.sb.size];exact hk
   refine wpS_bind (wpS_modify (wpS_pure ⟨rfl,hB'.trans ⟨hB'.sb.set (bubble_perm _ _ _),Ag.bubble hks (by omega) (by omega) (by omega),rfl⟩,?_⟩))
   rw[show min (k+1) n=k+1 by omega]
   intro i j hij hj
   show O.kle (kk ky (bubble (arrOf st'') (lo+k) (lo+k-(lo+l))) (lo+i)) (kk ky (bubble (arrOf st'') (lo+k) (lo+k-(lo+l))) (lo+j))
   rw[kk_bubble hks (by omega),kk_bubble hks (by omega),show lo+k-(lo+k-(lo+l))=lo+l by omega]
   have e1:∀i,lo+l<lo+i->lo+i-1=lo+(i-1):=fun i h=>by omega
   repeat' split
   all_goals first
    | (exfalso;omega)
    |exact KeyOrd.kle_refl _
    |exact hlo _ (by omega)
    | (rw[e1 _ (by omega)];exact KeyOrd.kle_of_klt (hhi _ (by omega) (by omega)))
    |exact hs' _ _ (by omega) (by omega)
    | (rw[e1 _ (by omega)];exact hs' _ _ (by omega) (by omega))
    | (rw[e1 i (by omega),e1 j (by omega)];exact hs' _ _ (by omega) (by omega))
end
end SO
namespace SO
open PySem PyProof PyProof.Rows
section
variable {M:Model} {A:Around} {E:Value->Shared->Prop} {s:Shared} {O:KeyOrd} {ky:Keyed->O.α} {κ:SortKind} {a₀:Array Keyed}
def SL (ky:Keyed->O.α)(l:List Keyed):Prop:=l.Pairwise fun x y=>O.kle (ky x) (ky y)
theorem kk_some {a:Array Keyed}{i:Nat}{x:Keyed}(e:a[i]?=some x):kk ky a i=ky x:=by unfold kk;rw[e];rfl
theorem up_SL {a:Array Keyed}(h:Up ky a 0 a.size):SL ky a.toList:=by
 refine List.pairwise_iff_getElem.mpr fun i j hi hj hij=>?_
 have hi':i<a.size:=by simpa using hi
 have hj':j<a.size:=by simpa using hj
 have:=h i j (by omega) hj'
 rw[Nat.zero_add,Nat.zero_add,kk_some (getElem?_pos a i hi'),kk_some (getElem?_pos a j hj')] at this
 exact this
end
end SO
namespace SO
open PySem PyProof PyProof.Rows
section
variable {M:Model} {A:Around} {E:Value->Shared->Prop} {s:Shared} {O:KeyOrd} {ky:Keyed->O.α} {κ:SortKind} {a₀ a b:Array Keyed} {st₀:SortSt}
theorem at_lt {a:Array Keyed}{i:Nat}(h:i<a.size):∃x,a[i]?=some x/\x∈a.toList:=⟨a[i],getElem?_pos a i h,by simp⟩
end
end SO
namespace L2
open PySem PySem.Spec PyProof.Rows
section
variable {prog:Program} {w:World} {A:Around} {R:Result->Shared->Prop} {s:Shared}
theorem comp_loop {elt target iter:Expr}{ifs:List Expr}{scope:Scope}{pos:Pos}{it acc:Value}{env:Env}(I:Nat->Shared->Prop)
  (turn:∀n s,I n s->wpAny (model prog w) A (pyNext it) (fun r s1=>match r with
   |none=>R (.ok .next) s1
   |some v=>wpAny (model prog w) A (letOwnedTupleGo target it v) (fun _ s1'=>wpAny (model prog w) A (assign target env v) (fun _ s2=>
     wpAny (model prog w) A (forIn ifs true fun c r=>if r=true then do let ok ← isTrue c env (eval c env);pure (ForInStep.yield ok) else pure (ForInStep.yield r)) (fun ok s3=>
      if ok=true then wpAny (model prog w) A (eval elt env) (fun x s4=>
       wpAny (model prog w) A (call (.builtin "list.append") [acc,x]) (fun _ s5=>∃m,m<n/\I m s5) (fun _ _=>False) s4) (fun _ _=>False) s3
      else ∃m,m<n/\I m s3) (fun _ _=>False) s2) (fun _ _=>False) s1') (fun _ _=>False) s1) (fun _ _=>False) s)
  (n:Nat) (h:I n s):
  codeAny (model prog w) A (.compLoop (.ListComp elt [⟨target,iter,ifs,0⟩] scope pos) 0 it acc env) R s:=by
 refine codeAny_loop rfl I (fun n s hI=>?_) n h
 show wpAny _ A ((compTurn (.ListComp elt [⟨target,iter,ifs,0⟩] scope pos) 0 it acc env).onRaise (fun x=>do noteFrame x env;theTreesLotGoes x)) _ _ s
 refine wpAny_noted ?_
 rw[compTurn_list]
 refine wpAny_bind (wpAny_standAt (wpAny_bind (wpAny_mono (turn n s hI) (fun r s1 h1=>?_) fun _ _ f=>f.elim)))
 cases r with
 |none=>exact wpAny_pure h1
 |some v=>
  refine wpAny_bind (wpAny_mono h1 (fun _ s1' h1'=>?_) fun _ _ f=>f.elim)
  refine wpAny_bind (wpAny_mono h1' (fun _ s2 h2=>wpAny_bind (wpAny_mono h2 (fun ok s3 h3=>?_) fun _ _ f=>f.elim)) fun _ _ f=>f.elim)
  cases ok with
  |false=>exact wpAny_pure ⟨rfl,h3⟩
  |true=>
   exact wpAny_bind (wpAny_bind (wpAny_mono h3 (fun x s4 h4=>wpAny_bind (wpAny_mono h4 (fun _ s5 h5=>wpAny_pure (wpAny_pure ⟨rfl,h5⟩)) fun _ _ f=>f.elim)) fun _ _ f=>f.elim))
end
def clOf (env:Env):List (Str×NameKind)->List (Str×Addr)->List (Str×Addr)
 | [],cs=>cs
 | (n,k)::r,cs=>clOf env r (if (k==NameKind.free)=true then(match env.cells.lookup n with|some a=>(n,a)::cs|none=>cs) else cs)
theorem closure_loop {env:Env}{f:Str×NameKind->List (Str×Addr)->Sem (ForInStep (List (Str×Addr)))}
  (hf:∀n k cs,f (n,k) cs=if (k==NameKind.free)=true then(do let a ← cellOf env n;pure (.yield ((n,a)::cs))) else pure (.yield cs)):
  ∀(l:List (Str×NameKind)) (cs:List (Str×Addr)),(∀y∈l,y.2=.free->∃c,env.cells.lookup y.1=some c)->forIn l cs f=pure (clOf env l cs)
 | [],cs,_=>by rw[List.forIn_nil];rfl
 | (n,k)::r,cs,h=>by
  have hr:∀y∈r,y.2=.free->∃c,env.cells.lookup y.1=some c:=fun y hy=>h y (List.mem_cons_of_mem _ hy)
  rw[List.forIn_cons,hf]
  unfold clOf
  by_cases hk:(k==NameKind.free)=true
  ·obtain⟨c,hc⟩:=h (n,k) List.mem_cons_self (by simpa using hk)
   have hc':env.cells.lookup n=some c:=hc
   rw[if_pos hk,if_pos hk]
   simp only[cellOf,hc',pure_bind]
   exact closure_loop hf r _ hr
  ·rw[if_neg hk,if_neg hk,pure_bind]
   exact closure_loop hf r _ hr
theorem closure_eq {env:Env}{scope:Scope}(h:∀y∈scope.names,y.2=.free->∃c,env.cells.lookup y.1=some c):closureFor scope env=pure (clOf env scope.names []):=by
 simp only[closureFor]
 rw[closure_loop (env:=env) (fun n k cs=>by cases hk:k==NameKind.free<;>simp[hk]) scope.names [] h]
 rfl
theorem clOf_mem {env:Env}{x:Str}{c:Addr}:∀{l:List (Str×NameKind)} {cs:List (Str×Addr)},(∀z d,cs.lookup z=some d->env.cells.lookup z=some d)->(clOf env l cs).lookup x=some c->env.cells.lookup x=some c
 | [],_,hc,h=>hc _ _ h
 | (n,k)::r,cs,hc,h=>by
  unfold clOf at h
  refine clOf_mem (l:=r) ?_ h
  intro z d hz
  split at hz
  ·split at hz
   ·rename_i a ha
    rw[List.lookup_cons] at hz
    split at hz
    ·rename_i e
     have e':z=n:=by simpa using e
     subst e'
     rw[ha]
     exact hz
    ·exact hc z d hz
   ·exact hc z d hz
  ·exact hc z d hz
theorem clOf_get {env:Env}{x:Str}{c:Addr}(e:env.cells.lookup x=some c):∀{l:List (Str×NameKind)} {cs:List (Str×Addr)},(∀z d,cs.lookup z=some d->env.cells.lookup z=some d)→
  ((x,NameKind.free)∈l\/∃d,cs.lookup x=some d)->(clOf env l cs).lookup x=some c
 | [],cs,hc,h=>by
  rcases h with h|⟨d,h⟩
  ·simp at h
  ·have:=hc x d h
   rw[e] at this
   cases this
   exact h
 | (n,k)::r,cs,hc,h=>by
  unfold clOf
  have hc2:∀z d,(if (k==NameKind.free)=true then(match env.cells.lookup n with|some a=>(n,a)::cs|none=>cs) else cs).lookup z=some d->env.cells.lookup z=some d:=by
   intro z d hz
   split at hz
   ·split at hz
    ·rename_i a ha
     rw[List.lookup_cons] at hz
     split at hz
     ·rename_i e
      have e':z=n:=by simpa using e
      subst e'
      rw[ha]
      exact hz
     ·exact hc z d hz
    ·exact hc z d hz
   ·exact hc z d hz
  refine clOf_get e (l:=r) hc2 ?_
  have keep:∀d,cs.lookup x=some d->∃d,(if (k==NameKind.free)=true then(match env.cells.lookup n with|some a=>(n,a)::cs|none=>cs) else cs).lookup x=some d:=by
   intro d hd
   split
   ·split
    ·rename_i a ha
     rw[List.lookup_cons]
     split
     ·exact⟨_,rfl⟩
     ·exact⟨d,hd⟩
    ·exact⟨d,hd⟩
   ·exact⟨d,hd⟩
  rcases h with h|⟨d,h⟩
  ·rcases List.mem_cons.mp h with h|h
   ·have e1:x=n:=congrArg Prod.fst h
    have e2:k=NameKind.free:=(congrArg Prod.snd h).symm
    subst e1 e2
    refine .inr ⟨c,?_⟩
    rw[if_pos (by decide),e]
    simp[List.lookup_cons]
   ·exact .inl h
  ·exact .inr (keep d h)
theorem relabel_free {env:Env}:∀{names:List (Str×NameKind)} {x:Str} {k:NameKind},
  (names.map fun(n,k)=>if (k==NameKind.free&&env.scope.kind==.function&&env.kindOf n==some .cell) then(n,NameKind.cell) else(n,k)).lookup x=some k->(k=.cell\/k=.free)->(∀y∈names,y.2≠.cell)->names.lookup x=some .free
 | [],_,_,h,_,_=>by simp at h
 | (n,k0)::r,x,k,h,hk,hn=>by
  have ih:=@relabel_free env r x k
  have h':List.lookup x ((if (k0==NameKind.free&&env.scope.kind==.function&&env.kindOf n==some .cell)=true then(n,NameKind.cell) else(n,k0))::(r.map fun(n,k)=>if (k==NameKind.free&&env.scope.kind==.function&&env.kindOf n==some .cell) then(n,NameKind.cell) else(n,k)))=some k:=h
  cases hx:x==n with
  |true=>
   have go:List.lookup x ((n,k0)::r)=some k0:=by simp[List.lookup_cons,hx]
   rw[go]
   by_cases hc:(k0==NameKind.free&&env.scope.kind==.function&&env.kindOf n==some .cell)=true
   ·have:k0=NameKind.free:=by
     simp only[Bool.and_eq_true] at hc
     simpa using hc.1.1
    rw[this]
   ·rw[if_neg hc] at h'
    simp only[List.lookup_cons,hx] at h'
    cases h'
    rcases hk with hk|hk
    ·exact absurd hk (hn _ List.mem_cons_self)
    ·rw[hk]
  |false=>
   have go:List.lookup x ((n,k0)::r)=List.lookup x r:=by simp[List.lookup_cons,hx]
   rw[go]
   refine ih ?_ hk (fun y hy=>hn y (List.mem_cons_of_mem _ hy))
   by_cases hc:(k0==NameKind.free&&env.scope.kind==.function&&env.kindOf n==some .cell)=true
   ·rw[if_pos hc] at h'
    simp only[List.lookup_cons,hx] at h'
    exact h'
   ·rw[if_neg hc] at h'
    simp only[List.lookup_cons,hx] at h'
    exact h'
theorem relabel_of_free {env:Env}:∀{names:List (Str×NameKind)} {x:Str},names.lookup x=some .free→
  (names.map fun(n,k)=>if (k==NameKind.free&&env.scope.kind==.function&&env.kindOf n==some .cell) then(n,NameKind.cell) else(n,k)).lookup x=some .cell∨
  (names.map fun(n,k)=>if (k==NameKind.free&&env.scope.kind==.function&&env.kindOf n==some .cell) then(n,NameKind.cell) else(n,k)).lookup x=some .free
 | [],_,h=>by simp at h
 | (n,k0)::r,x,h=>by
  have ih:=@relabel_of_free env r x
  show List.lookup x ((if (k0==NameKind.free&&env.scope.kind==.function&&env.kindOf n==some .cell)=true then(n,NameKind.cell) else(n,k0))::_)=_\/List.lookup x ((if (k0==NameKind.free&&env.scope.kind==.function&&env.kindOf n==some .cell)=true then(n,NameKind.cell) else(n,k0))::_)=_
  cases hx:x==n with
  |true=>
   simp only[List.lookup_cons,hx] at h
   by_cases hc:(k0==NameKind.free&&env.scope.kind==.function&&env.kindOf n==some .cell)=true
   ·rw[if_pos hc]
    left
    simp only[List.lookup_cons,hx]
   ·rw[if_neg hc]
    right
    simp only[List.lookup_cons,hx]
    exact h
  |false=>
   simp only[List.lookup_cons,hx] at h
   by_cases hc:(k0==NameKind.free&&env.scope.kind==.function&&env.kindOf n==some .cell)=true
   ·rw[if_pos hc]
    simp only[List.lookup_cons,hx]
    exact ih h
   ·rw[if_neg hc]
    simp only[List.lookup_cons,hx]
    exact ih h
def blk (X:Cx)(N:List Str)(scope:Scope)(C:Addr)(s:Shared)(H:Hp)(ex:List Addr):Cx where
 prog:=X.prog
 w:=X.w
 K:=X.K
 mg:=X.mg
 base:=X.base
 A:=X.A
 N:=N
 s₀:=s
 H₀:=H
 env:=compEnvC scope (clOf X.env scope.names []) C X.env
 outer:=X.stack
 stack:=X.stack
 ex:=ex
 fn:=fun _=>false
 calm:=X.calm
 pn:=[]
 xe:=fun _ _=>False
structure BlkScope (sc:Scope)(N own cn:List Str)(ci:List Nat)(scope:Scope):Prop where
 kind:scope.kind=.function
 nocell:∀y∈scope.names,y.2≠.cell
 names:∀y∈scope.names,y.2=.local->scope.names.lookup y.1=some .local
 free:∀y∈scope.names,y.2=.free->sc.names.lookup y.1=some .cell\/sc.names.lookup y.1=some .free
 cap:(cn.map fun x=>(some x:Option Str))=ci.map fun i=>N[i]?
 capk:∀x∈cn,scope.names.lookup x=some .free
 nd:(own++cn).Nodup
theorem BlkScope.of {sc:Scope}{N own cn:List Str}{ci:List Nat}{scope:Scope}(h:scope.kind=.function/\(∀y∈scope.names,y.2≠.cell)/\(∀y∈scope.names,y.2=.local->scope.names.lookup y.1=some .local)/\(∀y∈scope.names,y.2=.free->sc.names.lookup y.1=some .cell\/sc.names.lookup y.1=some .free)/\(cn.map fun x=>(some x:Option Str))=(ci.map fun i=>N[i]?)/\(∀x∈cn,scope.names.lookup x=some .free)/\(own++cn).Nodup):BlkScope sc N own cn ci scope:=⟨h.1,h.2.1,h.2.2.1,h.2.2.2.1,h.2.2.2.2.1,h.2.2.2.2.2.1,h.2.2.2.2.2.2⟩
def blkS (own:List Str)(ci:List Nat)(σ:St):St:=own.map (fun _=>none)++ci.map fun i=>(σ[i]?).join
section
variable {X:Cx} {pins:List (Addr×Obj)} {σ:St} {H H2:Hp} {s s2:Shared} {sc:Scope} {N own cn:List Str} {ci:List Nat} {scope:Scope} {fp:List Addr}
theorem blk_cells (S:BlkScope sc N own cn ci scope)(hsc:X.env.scope=sc)(I:Inv X pins σ H s):∀y∈scope.names,y.2=.free->∃c,X.env.cells.lookup y.1=some c:=fun y hy hf=>by
 refine I.ok.has y.1 ?_
 have:=S.free y hy hf
 rw[<- hsc] at this
 exact this
theorem blk_inv (S:BlkScope sc N own cn ci scope)(hsc:X.env.scope=sc)(hN:X.N=N)(I:Inv X pins σ H s)(hfp:∀b∈fp,FpOk X pins H b)(hlt:∀b∈fp,b<s.heap.objs.size){h1:Heap}{tk:Nat}{m:Str->Option Value}
  (hns:h1.Ns s.heap.objs.size m) (keep:∀b o,s.heap.get? b=some o->h1.get? b=some o):
  Inv (blk X (own++cn) scope s.heap.objs.size s H fp) [] (blkS own ci σ) H { s with heap:=h1,toks:=tk }:=by
 have ccl:∀x c,(clOf X.env scope.names []).lookup x=some c->X.env.cells.lookup x=some c:=fun x c e=>clOf_mem (fun z d h=>by simp at h) e
 have cnl:cn.length=ci.length:=by have:=congrArg List.length S.cap;simpa using this
 refine⟨⟨I.ok.mod,?_,I.ok.glob,I.ok.blt,Nat.le_refl _,fun x y c e1 e2=>I.ok.inj x y c (ccl x c e1) (ccl y c e2),fun x hx=>?_,fun x c hf _=>?_,I.ok.hd,I.ok.frames,.inl rfl,fun b hb=>⟨Nat.ne_of_lt (hlt b hb),fun x c e=>(hfp b hb).2.2.2.2.1 x c (ccl x c e)⟩,I.bs,Nat.le_trans I.ok.bsz I.sz,fun b o e hb=>?_,fun b hb hb2=>?_,I.stack,I.stkFree⟩,
  rfl,I.bare,Un.kept keep,⟨m,hns,fun i x v e1 e2 e3=>?_⟩,fun x c e=>?_,I.hok.fresh (Nat.le_refl _),fun x c e=>I.freeC x c (ccl x c e),fun p hp=>absurd (show p∈([]:List (Addr×Obj)) from hp) (by simp),I.hok.kept keep,?_⟩
 ·exact S.kind
 ·have hx':(relabel scope X.env).names.lookup x=some .cell\/(relabel scope X.env).names.lookup x=some .free:=hx
  have hfree:scope.names.lookup x=some .free:=by
   rcases hx' with q|q
   ·exact relabel_free q (.inl rfl) S.nocell
   ·exact relabel_free q (.inr rfl) S.nocell
  have hm:=PySem.mem_of_lookup hfree
  obtain⟨c,hc⟩:=blk_cells S hsc I _ hm rfl
  exact⟨c,clOf_get hc (fun z d h=>by simp at h) (.inl hm)⟩
 ·exact absurd hf (by show ¬(false=true);decide)
 ·rcases(hfp b hb).2.2.2.1 with z|z
  ·exact I.ok.noex b o e z
  ·exact absurd (Nat.lt_of_lt_of_le (Heap.lt_size (I.ok.bs b o e).1) z) (Nat.lt_irrefl _)
 ·rcases List.mem_cons.mp (I.stkSub b hb2) with z|z
  ·exact(hfp b hb).2.1 z
  ·exact(hfp b hb).2.2.1 z
 ·have e1':(own++cn)[i]?=some x:=e1
  unfold blkS at e2
  by_cases hi:i<own.length
  ·rw[List.getElem?_append_left (by simpa using hi),List.getElem?_map] at e2
   cases q:own[i]? with
   |none=>rw[q] at e2;cases e2
   |some z=>rw[q] at e2;cases e2
  ·rw[List.getElem?_append_right (by simpa using hi)] at e2
   rw[List.getElem?_append_right (by omega)] at e1'
   rw[List.length_map,List.getElem?_map] at e2
   cases q:ci[i-own.length]? with
   |none=>rw[q] at e2;cases e2
   |some j=>
    rw[q] at e2
    have e2':(σ[j]?).join=some v:=Option.some.inj e2
    have e3':σ[j]?=some (some v):=by
     cases z:σ[j]? with
     |none=>rw[z] at e2';cases e2'
     |some o=>rw[z] at e2';exact congrArg some e2'
    have hNj:X.N[j]?=some x:=by
     have c1:=congrArg (fun l=>l[i-own.length]?) S.cap
     simp only[List.getElem?_map,e1',q,Option.map_some] at c1
     rw[hN]
     exact(Option.some.inj c1).symm
    have hfree:=S.capk x (List.mem_of_getElem? e1')
    have hm:=PySem.mem_of_lookup hfree
    have hk:=S.free _ hm rfl
    rw[<- hsc] at hk
    have hvis:Vis X.env.scope x:=.inr hk
    obtain⟨m0,_,hl⟩:=I.loc
    obtain⟨u,r,l⟩:=hl j x v hNj e3' hvis
    refine⟨u,r,.inr ⟨relabel_of_free hfree,?_⟩⟩
    rcases l with⟨l,_⟩|⟨_,c,ec,z⟩
    ·have l':X.env.scope.names.lookup x=some .local:=l
     rcases hk with hk|hk<;>(rw[hk] at l';cases l')
    ·refine⟨c,clOf_get ec (fun z d h=>by simp at h) (.inl hm),?_⟩
     obtain⟨o,ho,hd⟩:=z
     exact⟨o,keep c o ho,hd⟩
 ·obtain⟨v,o,ho,hd⟩:=I.cell x c (ccl x c e)
  exact⟨v,o,keep c o ho,hd⟩
 ·show(blkS own ci σ).length=(own++cn).length
  unfold blkS
  rw[List.length_append,List.length_append,List.length_map,List.length_map,cnl]
end
def PTs (X:Cx)(ifs:List Expr)(t:TT):Prop:=
 ∀(pins:List (Addr×Obj)) (s:Shared) (σ:St) (H:Hp) (Q:Bool->Hp->Prop),Inv X pins σ H s->t σ H Q→
  wpAny (model X.prog X.w) X.A (forIn ifs true fun c r=>if r=true then do let ok ← isTrue c X.env (eval c X.env);pure (ForInStep.yield ok) else pure (ForInStep.yield r)) (TP X pins σ Q) X.xe s
def tTrue:TT:=fun _ H Q=>Q true H
theorem pts_nil {X:Cx}:PTs X [] tTrue:=fun _ _ _ H _ I h=>wpAny_tests_nil ⟨H,I,h⟩
theorem pts_one {X:Cx}{c:Expr}{t:TT}(h:PT X c t):PTs X [c] t:=fun pins s σ H Q I q=>wpAny_tests_one (h pins s σ H Q I q)
def LcW (J:It)(g:TG)(tt:TT)(te:TE)(D:Addr)(Q:Hp->Prop)(W:Nat->Nat->St->Hp->Prop):Prop:=∀i m σ H,W i m σ H→
 (J.stop i H/\Q H)\/(J.go i H/\∀x H1,J.yld i H x H1->g x σ H1 fun σ2 H2=>tt σ2 H2 fun ok H3=>if ok=true then te σ2 H3 fun y H4=>∃ys,H4 D=some (.lst ys)/\ys.length<sizeLine∧
  ∃m',m'<m/\W (i+1) m' σ2 (upd H4 D (.lst (ys++[y]))) else ∃m',m'<m/\W (i+1) m' σ2 H3)
def tLC (own:List Str)(ci:List Nat)(wi:TI)(g:TG)(tt:TT)(te:TE):TE:=fun σ H Q=>wi σ H fun J H1=>∀D,H1 D=none→
 ∃W:Nat->Nat->St->Hp->Prop,(∃m,W 0 m (blkS own ci σ) (upd H1 D (.lst [])))/\LcW J g tt te D (Q (.ref D)) W
section
variable {X:Cx} {pins:List (Addr×Obj)} {σ:St} {H H2:Hp} {s s2:Shared} {sc:Scope} {N own cn:List Str} {ci:List Nat} {scope:Scope} {fp:List Addr}
 {elt tg iter:Expr} {ifs:List Expr} {pos:Pos} {g:TG} {tt:TT} {te:TE} {wi:TI}
theorem lc_block {it:Addr}{tn:Nat->Heap->Prop}{J:It}{Q:VK}{E:Value->Shared->Prop}{RR:Value->Addr->Result->Shared->Prop}(S:BlkScope sc N own cn ci scope)(hsc:X.env.scope=sc)(hN:X.N=N)(hc:X.calm=true)
  (I2:Inv X pins σ H2 s2) (T:Turn X.prog X.w X.K tg J fp it tn) (st2:tn 0 s2.heap) (f2:∀b∈fp,FpOk X pins H2 b)
  (hg:∀C s H,PG (blk X (own++cn) scope C s H fp) tg g) (ht:∀C s H,PTs (blk X (own++cn) scope C s H fp) ifs tt) (he:∀C s H,PE (blk X (own++cn) scope C s H fp) elt te)
  (q:∀D,H2 D=none->∃W:Nat->Nat->St->Hp->Prop,(∃m,W 0 m (blkS own ci σ) (upd H2 D (.lst [])))/\LcW J g tt te D (Q (.ref D)) W)
  (hRR:∀D C H' s',Inv X pins σ H' s'->Q (.ref D) H'->(∃m,s'.heap.Ns C m)->FpOk X pins H' C->RR (.ref D) C (.ok .next) s'):
  wpAny (model X.prog X.w) X.A (newList []) (fun acc s3=>wpAny (model X.prog X.w) X.A (newFunctionEnv scope X.env.globals (clOf X.env scope.names []) [] X.env.qual none .none (some X.env)) (fun cenv s4=>
   codeAny (model X.prog X.w) X.A (.compStart (.ListComp elt [⟨tg,iter,ifs,0⟩] scope pos) 0 (.ref it) acc { cenv with scope:=relabel scope X.env }) (RR acc cenv.locals) s4) E s3) E s2:=by
 refine wpAny_newObj_type (wpAny_newFunctionEnv S.nocell (by intro y hy;simp at hy) (fun h1 hns1 hsb1=>?_) S.kind)
 dsimp only at hns1 hsb1 ⊢
 have I3:Inv X pins σ (upd H2 s2.heap.objs.size (.lst [])) { s2 with heap:=s2.heap.push { cls:=.type "list",data:=.seq ([]:List Value).toArray },toks:=s2.toks }:=I2.lnew (its:=[]) (t':=s2.toks) .nil (Nat.zero_le _)
 have hD:H2 s2.heap.objs.size=none:=I2.hok.fresh (Nat.le_refl _)
 have fpe:∀b∈fp,b<s2.heap.objs.size:=fun b hb=>by
  obtain⟨o,e,_⟩:=T.obj _ _ st2 b hb
  exact Heap.lt_size e
 have f3:∀b∈fp,FpOk X pins (upd H2 s2.heap.objs.size (.lst [])) b:=fun b hb=>⟨by rw[upd_ne (Nat.ne_of_lt (fpe b hb))];exact(f2 b hb).1,(f2 b hb).2⟩
 obtain⟨W,⟨m0,w0⟩,turn⟩:=q s2.heap.objs.size hD
 generalize hs3:({ s2 with heap:=s2.heap.push { cls:=.type "list",data:=.seq ([]:List Value).toArray },toks:=s2.toks }:Shared)=s3 at I3
 have e3:s3.heap=s2.heap.push { cls:=.type "list",data:=.seq ([]:List Value).toArray }:=by rw[<- hs3]
 have hsz3:s3.heap.objs.size=s2.heap.objs.size+1:=by rw[e3,Heap.size_push]
 have keep3:∀b o,s2.heap.get? b=some o->s3.heap.get? b=some o:=fun b o e=>by rw[e3];exact Heap.get?_push_of_some _ e
 have keep:∀b o,s3.heap.get? b=some o->h1.get? b=some o:=fun b o e=>by
  refine hsb1.extBut b o ?_ (Heap.get?_push_of_some _ (by rw[<- e3];exact e))
  have:=Heap.lt_size e
  rw[e3] at this
  exact Nat.ne_of_lt this
 have hns:h1.Ns s3.heap.objs.size (fun x=>([]:List (Str×Value)).reverse.lookup x):=by rw[e3];exact hns1
 have I4:=blk_inv (fp:=fp) (tk:=s2.toks+([]:List (Str×Value)).length) S hsc hN I3 f3 (fun b hb=>by rw[hsz3];exact Nat.lt_succ_of_lt (fpe b hb)) hns keep
 have st4:tn 0 h1:=T.keep _ _ _ st2 fun b hb o e=>keep b o (keep3 b o e)
 have hC:(s2.heap.push { cls:=.type "list",data:=.seq ([]:List Value).toArray }).objs.size=s3.heap.objs.size:=by rw[e3]
 have stat:∀{H':Hp},(∀b∈fp,H' b=none)->∀b∈fp,FpOk (blk X (own++cn) scope s3.heap.objs.size s3 (upd H2 s2.heap.objs.size (.lst [])) fp) [] H' b:=fun hn b hb=>
  ⟨hn b hb,Nat.ne_of_lt (by rw[hsz3];exact Nat.lt_succ_of_lt (fpe b hb)),fun z=>I4.ok.exfs b hb z,.inl hb,(I4.ok.exf b hb).2,fun p hp=>absurd (show p∈([]:List (Addr×Obj)) from hp) (by simp)⟩
 have loop:∀s4:Shared,s4={ s3 with heap:=h1,toks:=s2.toks+([]:List (Str×Value)).length }→
   codeAny (model X.prog X.w) X.A (.compLoop (.ListComp elt [⟨tg,iter,ifs,0⟩] scope pos) 0 (.ref it) (.ref s2.heap.objs.size) (compEnvC scope (clOf X.env scope.names []) s3.heap.objs.size X.env)) (RR (.ref s2.heap.objs.size) s3.heap.objs.size) s4:=by
  rintro s4 rfl
  refine comp_loop (fun n s'=>∃i σ' H',Inv (blk X (own++cn) scope s3.heap.objs.size s3 (upd H2 s2.heap.objs.size (.lst [])) fp) [] σ' H' s'/\tn i s'.heap/\(∀b∈fp,H' b=none)/\W i n σ' H') ?_ m0
   ⟨0,_,_,I4,st4,fun b hb=>(f3 b hb).1,w0⟩
  rintro n s5 ⟨i,σ5,H5,I5,st5,fr5,w5⟩
  rcases turn i n σ5 H5 w5 with⟨stop,qn⟩|⟨go,step⟩
  ·refine thn (T.done (blk X (own++cn) scope s3.heap.objs.size s3 (upd H2 s2.heap.objs.size (.lst [])) fp) rfl rfl rfl hc i [] s5 σ5 H5 (fun _ _=>False) I5 (stat fr5) st5 stop) fun r s6 hq9=>?_
   obtain⟨hr,I6⟩:=hq9
   subst hr
   refine hRR _ _ H5 s6 (I3.call' I6.os I6.base I6.hok I6.bare fun b hb=>⟨(f3 b hb).2.2.2.1,(f3 b hb).2.1,(f3 b hb).2.2.2.2.1,(f3 b hb).2.2.2.2.2⟩) qn (let ⟨m,hn,_⟩:=I6.loc;⟨m,hn⟩) (I3.fpOk (Nat.le_refl _) I6.free)
  ·refine thn (T.item (blk X (own++cn) scope s3.heap.objs.size s3 (upd H2 s2.heap.objs.size (.lst [])) fp) rfl rfl rfl hc i [] s5 σ5 H5 (fun _ _=>False) I5 (stat fr5) st5 go) fun r s6 hq9=>?_
   obtain⟨u,hr,h6⟩:=hq9
   subst hr
   refine thn h6 fun _ s7 hq9=>?_
   obtain⟨x,H7,I7,r7,y7,st7,fr7⟩:=hq9
   have I7':=I7.pinned (stat fr7) (T.obj _ _ st7)
   refine thn (hg _ _ _ _ s7 σ5 H7 x u _ I7' r7 (step x H7 y7)) fun _ s8 hq9=>?_
   obtain⟨σ8,H8,I8,q8⟩:=hq9
   refine thn (ht _ _ _ _ s8 σ8 H8 _ I8 q8) fun ok s9 hq9=>?_
   obtain⟨H9,I9,q9⟩:=hq9
   have again:∀{H':Hp} {s':Shared} {m':Nat},Inv (blk X (own++cn) scope s3.heap.objs.size s3 (upd H2 s2.heap.objs.size (.lst [])) fp) ([]++pinsAt fp s7.heap) σ8 H' s'->W (i+1) m' σ8 H'→
     ∃i σ' H',Inv (blk X (own++cn) scope s3.heap.objs.size s3 (upd H2 s2.heap.objs.size (.lst [])) fp) [] σ' H' s'/\tn i s'.heap/\(∀b∈fp,H' b=none)/\W i m' σ' H':=fun {H' s' m'} I' w'=>by
    refine⟨i+1,σ8,H',I'.unpinned,T.keep _ _ _ st7 fun b hb o e=>(I'.pin (b,o) (List.mem_append_right _ (List.mem_append_right _ (mem_pinsAt hb e)))).1,fun b hb=>?_,w'⟩
    obtain⟨o,e,_⟩:=T.obj _ _ st7 b hb
    exact(I'.pin (b,o) (List.mem_append_right _ (List.mem_append_right _ (mem_pinsAt hb e)))).2.1
   cases ok with
   |false=>
    obtain⟨m',hm,w'⟩:=q9
    exact⟨m',hm,again I9 w'⟩
   |true=>
    refine thn (he _ _ _ _ s9 σ8 H9 _ I9 q9) fun v s10 hq9=>?_
    obtain⟨y,H10,I10,r10,ys,hDl,hz,m',hm,w'⟩:=hq9
    refine thn (mt_append _ s10 σ8 H10 (.ref s2.heap.objs.size) [y] (.ref s2.heap.objs.size) [v] (fun _ H11=>H11=upd H10 s2.heap.objs.size (.lst (ys++[y]))) I10 rfl (.cons r10 .nil) ⟨_,ys,y,rfl,rfl,hDl,hz,rfl⟩) fun _ s11 hq9=>?_
    obtain⟨_,H11,I11,_,e11⟩:=hq9
    subst e11
    exact⟨m',hm,again I11 w'⟩
 have es:({ s2 with heap:=h1,toks:=s2.toks+([]:List (Str×Value)).length }:Shared)={ s3 with heap:=h1,toks:=s2.toks+([]:List (Str×Value)).length }:=by rw[<- hs3]
 rw[hC]
 exact codeAny_compStart_list (loop _ es) (T.self _ 0 _ _ _ st4 (loop _ es))
theorem pe_lc (S:BlkScope sc N own cn ci scope)(hsc:X.env.scope=sc)(hN:X.N=N)(hc:X.calm=true)(hi:PI X tg iter wi)
  (hg:∀fp C s H,PG (blk X (own++cn) scope C s H fp) tg g) (ht:∀fp C s H,PTs (blk X (own++cn) scope C s H fp) ifs tt) (he:∀fp C s H,PE (blk X (own++cn) scope C s H fp) elt te)
  (hs:∀x,foldedSetIterable iter X.env x=pure x:=by intro _;rfl):PE X (.ListComp elt [⟨tg,iter,ifs,0⟩] scope pos) (tLC own ci wi g tt te):=by
 intro pins s σ H Q I h
 rw[eval_ListComp]
 refine wpAny_comprehension_free (use:=none) rfl hs (closure_eq (blk_cells S hsc I)) S.kind S.names (thn (hi pins s σ H _ I h) fun xv s1 h1=>thn h1 fun itv s2 h2=>?_)
 obtain⟨it,fp,tn,J,H2,e,I2,T,st2,f2,q⟩:=h2
 subst e
 refine lc_block (RR:=fun acc C=>compPost (model X.prog X.w) X.A X.xe none (EP X pins σ Q) acc C) S hsc hN hc I2 T st2 f2 (hg fp) (ht fp) (he fp) q ?_
 intro D C H' s' I' q' ⟨m,hn⟩ fC
 exact⟨m,hn,fun h' hs'=>⟨.ref D,H',I'.turned (t':=s'.toks) (fun b o hb e=>(hs'.2 b hb).trans e) fC.1 (Ne.symm (Ne.symm fC.2.1)) fC.2.2.2.1 fC.2.2.2.2.1 fC.2.2.2.2.2,rfl,q'⟩⟩
def tSetLC (i:Nat)(t:TE):TS:=fun D σ H=>t σ H fun v H1=>D.nx (σ.set i (some v)) H1
theorem ps_setlc {i:Nat}{y:Str}{py spos:Pos}(S:BlkScope sc N own cn ci scope)(hsc:X.env.scope=sc)(hN:X.N=N)(hc:X.calm=true)(hi:PI X tg iter wi)
  (hg:∀fp C s H,PG (blk X (own++cn) scope C s H fp) tg g) (ht:∀fp C s H,PTs (blk X (own++cn) scope C s H fp) ifs tt) (he:∀fp C s H,PE (blk X (own++cn) scope C s H fp) elt te)
  (hnd:X.N.Nodup) (hiy:X.N[i]?=some y) (hy:X.env.scope.names.lookup y=some .local)
  (hsw:swapsWith (.ListComp elt [⟨tg,iter,ifs,0⟩] scope pos) (some (.Name y py)) spos.line X.env=pure true)
  (hs:∀x,foldedSetIterable iter X.env x=pure x:=by intro _;rfl):PS X (.Assign [.Name y py] (.ListComp elt [⟨tg,iter,ifs,0⟩] scope pos) spos) (tSetLC i (tLC own ci wi g tt te)):=by
 intro pins s σ H D I h
 rw[exec_Assign_Name_used _ _ _ _ hsw]
 refine wpAny_bind (wpAny_standAt (wpAny_bind ?_))
 show wpAny _ X.A (do let _ ← comprehension (.ListComp elt [⟨tg,iter,ifs,0⟩] scope pos) scope X.env _ (newList []) false (eval iter X.env) (some (assign (.Name y py) X.env))) _ _ s
 refine wpAny_bind (wpAny_mono (wpAny_comprehension_free (use:=some (assign (.Name y py) X.env)) (Q:=fun _ s'=>SP X pins D .next s') rfl hs (closure_eq (blk_cells S hsc I)) S.kind S.names
  (thn (hi pins s σ H _ I h) fun xv s1 h1=>thn h1 fun itv s2 h2=>?_)) (fun _ s' hq=>wpAny_pure (wpAny_pure hq)) fun _ _ e=>e)
 obtain⟨it,fp,tn,J,H2,e,I2,T,st2,f2,q⟩:=h2
 subst e
 refine lc_block (RR:=fun acc C=>compPost (model X.prog X.w) X.A X.xe (some (assign (.Name y py) X.env)) (fun _ s'=>SP X pins D .next s') acc C) (Q:=fun v H1=>D.nx (σ.set i (some v)) H1) S hsc hN hc I2 T st2 f2 (hg fp) (ht fp) (he fp) q ?_
 intro D' C H' s' I' q' ⟨m,hn⟩ fC
 refine wpAny_assign_Name (store_ok2 (v:=.ref D') I' hnd hiy (.inl hy) rfl (fun s'' I'' ⟨a,hsb,ha⟩=>?_) (.inr hy))
 have hCa:C≠a:=by
  rcases ha with ha|ha
  ·rw[ha];exact fC.2.1
  ·exact Ne.symm (fC.2.2.2.2.1 _ _ ha)
 exact⟨m,hn.sameBut hsb hCa,fun h' hs'=>⟨_,H',I''.turned (t':=s''.toks) (fun b o hb e=>(hs'.2 b hb).trans e) fC.1 fC.2.1 fC.2.2.2.1 fC.2.2.2.2.1 fC.2.2.2.2.2,q'⟩⟩
end
theorem lc_range {lo:Int}{n:Nat}{caps:St}{tt:TT}{te:TE}{D:Addr}{Q:Hp->Prop}{H1:Hp}(Pv:Nat->List V->Hp->Prop)(hz:n<=sizeLine)(h0:Pv 0 [] (upd H1 D (.lst [])))(hl:∀i ys H,Pv i ys H->ys.length<=i)
  (hs:∀i ys H (N:VK) (M:Hp->Prop),i<n->Pv i ys H->(∀y H4,H4 D=some (.lst ys)->Pv (i+1) (ys++[y]) (upd H4 D (.lst (ys++[y])))->N y H4)->(∀H3,Pv (i+1) ys H3->M H3)→
   tt (some (.int (lo+i))::caps) H fun ok H3=>if ok=true then te (some (.int (lo+i))::caps) H3 N else M H3)
  (hd:∀ys H,Pv n ys H->Q H):∃W:Nat->Nat->St->Hp->Prop,(∃m,W 0 m (none::caps) (upd H1 D (.lst [])))/\LcW (Itr lo n) (gName 0) tt te D Q W:=by
 refine⟨fun i m σ H=>m=n-i/\i<=n/\(∃v,σ=v::caps)/\∃ys,Pv i ys H,⟨n,by simp,Nat.zero_le _,⟨none,rfl⟩,[],h0⟩,?_⟩
 rintro i m σ H ⟨rfl,hi,⟨v,rfl⟩,ys,p⟩
 have hy:=hl i ys H p
 by_cases hlt:i<n
 ·refine .inr ⟨hlt,fun x H1 y=>?_⟩
  obtain⟨e,y⟩:=y
  subst e y
  refine hs i ys _ _ _ hlt p (fun y H4 a c=>⟨ys,a,by omega,n-(i+1),by omega,rfl,hlt,⟨_,rfl⟩,_,c⟩) (fun H3 c=>⟨n-(i+1),by omega,rfl,hlt,⟨_,rfl⟩,ys,c⟩)
 ·have e:i=n:=by omega
  subst e
  exact .inl ⟨Nat.le_refl _,hd ys H p⟩
theorem lc_list {K:W.Frag}{a:Addr}{xs:List V}{caps:St}{tt:TT}{te:TE}{D:Addr}{Q:Hp->Prop}{H1:Hp}(Pv:Nat->List V->Hp->Prop)(hz:xs.length<=sizeLine)(h0:Pv 0 [] (upd H1 D (.lst [])))(hl:∀i ys H,Pv i ys H->ys.length<=i)(hq:∀i ys H,Pv i ys H->SqL K H a xs)
  (hs:∀i ys H (x:V) (N:VK) (M:Hp->Prop),xs[i]?=some x->Pv i ys H->(∀y H4,H4 D=some (.lst ys)->Pv (i+1) (ys++[y]) (upd H4 D (.lst (ys++[y])))->N y H4)->(∀H3,Pv (i+1) ys H3->M H3)→
   tt (some x::caps) H fun ok H3=>if ok=true then te (some x::caps) H3 N else M H3)
  (hd:∀ys H,Pv xs.length ys H->Q H):∃W:Nat->Nat->St->Hp->Prop,(∃m,W 0 m (none::caps) (upd H1 D (.lst [])))/\LcW (Itl K a) (gName 0) tt te D Q W:=by
 refine⟨fun i m σ H=>m=xs.length-i/\i<=xs.length/\(∃v,σ=v::caps)/\∃ys,Pv i ys H,⟨xs.length,by simp,Nat.zero_le _,⟨none,rfl⟩,[],h0⟩,?_⟩
 rintro i m σ H ⟨rfl,hi,⟨v,rfl⟩,ys,p⟩
 have hy:=hl i ys H p
 by_cases hlt:i<xs.length
 ·refine .inr ⟨⟨xs,xs[i],hq i ys H p,by simp[hlt]⟩,fun x H1 y=>?_⟩
  obtain⟨e,y⟩:=y
  subst e
  have hx:=y xs (hq i ys _ p)
  refine hs i ys _ x _ _ hx p (fun y H4 a c=>⟨ys,a,by omega,xs.length-(i+1),by omega,rfl,hlt,⟨_,rfl⟩,_,c⟩) (fun H3 c=>⟨xs.length-(i+1),by omega,rfl,hlt,⟨_,rfl⟩,ys,c⟩)
 ·have e:i=xs.length:=by omega
  subst e
  exact .inl ⟨⟨xs,hq _ ys H p,Nat.le_refl _⟩,hd ys H p⟩
theorem lc_tup {K:W.Frag}{a:Addr}{xs:List V}{caps:St}{tt:TT}{te:TE}{D:Addr}{Q:Hp->Prop}{H1:Hp}(Pv:Nat->List V->Hp->Prop)(hz:xs.length<=sizeLine)(h0:Pv 0 [] (upd H1 D (.lst [])))(hl:∀i ys H,Pv i ys H->ys.length<=i)(hq:∀i ys H,Pv i ys H->SqT K H a xs)
  (hs:∀i ys H (x:V) (N:VK) (M:Hp->Prop),xs[i]?=some x->Pv i ys H->(∀y H4,H4 D=some (.lst ys)->Pv (i+1) (ys++[y]) (upd H4 D (.lst (ys++[y])))->N y H4)->(∀H3,Pv (i+1) ys H3->M H3)→
   tt (some x::caps) H fun ok H3=>if ok=true then te (some x::caps) H3 N else M H3)
  (hd:∀ys H,Pv xs.length ys H->Q H):∃W:Nat->Nat->St->Hp->Prop,(∃m,W 0 m (none::caps) (upd H1 D (.lst [])))/\LcW (Itt K a) (gName 0) tt te D Q W:=by
 refine⟨fun i m σ H=>m=xs.length-i/\i<=xs.length/\(∃v,σ=v::caps)/\∃ys,Pv i ys H,⟨xs.length,by simp,Nat.zero_le _,⟨none,rfl⟩,[],h0⟩,?_⟩
 rintro i m σ H ⟨rfl,hi,⟨v,rfl⟩,ys,p⟩
 have hy:=hl i ys H p
 by_cases hlt:i<xs.length
 ·refine .inr ⟨⟨xs,xs[i],hq i ys H p,by simp[hlt]⟩,fun x H1 y=>?_⟩
  obtain⟨e,y⟩:=y
  subst e
  have hx:=y xs (hq i ys _ p)
  refine hs i ys _ x _ _ hx p (fun y H4 a c=>⟨ys,a,by omega,xs.length-(i+1),by omega,rfl,hlt,⟨_,rfl⟩,_,c⟩) (fun H3 c=>⟨xs.length-(i+1),by omega,rfl,hlt,⟨_,rfl⟩,ys,c⟩)
 ·have e:i=xs.length:=by omega
  subst e
  exact .inl ⟨⟨xs,hq _ ys H p,Nat.le_refl _⟩,hd ys H p⟩
end L2
namespace L2
open PySem PySem.Spec PyProof.Rows
section
variable {X:Cx}
theorem atI_int {xs:List V}{i:Int}{v:V}(h0:0<=i)(h:xs[i.toNat]?=some v):atI xs i=some v:=by
 have e:i=((i.toNat:Nat):Int):=by omega
 rw[e]
 exact atI_nat h
theorem Same.upd_free {H H':Hp}{a:Addr}{o:HO}(s:Same H H')(n:H a=none):Same H (upd H' a o):=fun b u e=>by
 rw[upd_ne (ne_of_none e n)]
 exact s b u e
def tCut (t:TS):TS:=fun D σ H=>∃M:St->Hp->Prop,t { D with nx:=M } σ H/\∀σ' H',M σ' H'->D.nx σ' H'
theorem ps_cut {st:Stmt}{t:TS}(h:PS X st t):PS X st (tCut t):=by
 intro pins s σ H D I ⟨M,h1,h2⟩
 refine thn (h pins s σ H _ I h1) fun f s' q=>?_
 cases f with
 |next=>
  obtain⟨σ',H',I',m⟩:=q
  exact⟨σ',H',I',h2 _ _ m⟩
 |brk=>exact q
 |cont=>exact q
 |ret u=>exact q
theorem small9 {n:Nat}(h:n<=100000):n<sizeLine:=Nat.lt_of_le_of_lt h (by decide)
end
end L2
namespace L2
open PySem PySem.Spec PyProof.Rows
section
variable {κ:Type} [DecidableEq κ]
def valV (kvs:List (κ×V))(k:κ):Option V:=(kvs.find? fun kv=>decide (kv.1=k)).map (·.2)
def putK (kvs:List (κ×V))(k:κ)(v:V):List (κ×V):=
 if (kvs.any fun kv=>decide (kv.1=k))=true then kvs.map (fun kv=>if kv.1=k then(kv.1,v) else kv) else kvs++[(k,v)]
theorem valV_pos {p:κ×V}{r:List (κ×V)}{k:κ}(e:p.1=k):valV (p::r) k=some p.2:=by simp[valV,List.find?_cons,e]
theorem valV_neg {p:κ×V}{r:List (κ×V)}{k:κ}(e:¬p.1=k):valV (p::r) k=valV r k:=by simp[valV,List.find?_cons,e]
theorem valV_any (k:κ):∀kvs:List (κ×V),(kvs.any fun kv=>decide (kv.1=k))=(valV kvs k).isSome
 | []=>rfl
 |p::r=>by
  rw[List.any_cons]
  by_cases e:p.1=k
  ·simp only[valV_pos e,decide_eq_true e,Bool.true_or,Option.isSome_some]
  ·rw[valV_neg e,decide_eq_false e,Bool.false_or];exact valV_any k r
theorem length_putK (kvs:List (κ×V))(k:κ)(v:V):(putK kvs k v).length<=kvs.length+1:=by
 unfold putK
 split
 ·rw[List.length_map];omega
 ·rw[List.length_append,List.length_cons,List.length_nil];omega
theorem putK_new {kvs:List (κ×V)}{k:κ}(v:V)(h:valV kvs k=none):putK kvs k v=kvs++[(k,v)]:=by
 unfold putK
 rw[valV_any,h]
 exact if_neg (by decide)
theorem RelO.isSome_eq {o:Option V}{u:Option Value}(r:RelO o u):o.isSome=u.isSome:=by
 cases o with
 |none=>cases u with
  |none=>rfl
  |some _=>exact(show False from r).elim
 |some _=>cases u with
  |none=>exact(show False from r).elim
  |some _=>rfl
theorem KV.val {kvs:List (κ×V)}{vs:List (κ×Value)}(r:KV kvs vs)(k:κ):RelO (valV kvs k) (valueAt vs k):=by
 unfold KV at r
 induction r with
 |nil=>exact True.intro
 |@cons p q ps qs h t ih=>
  obtain⟨h1,h2⟩:=h
  by_cases e:p.1=k
  ·have e':q.1=k:=h1.symm.trans e
   have b:valueAt (q::qs) k=some q.2:=by simp[valueAt,List.find?_cons,e']
   rw[valV_pos e,b];exact h2
  ·have e':¬q.1=k:=fun z=>e (h1.trans z)
   have b:valueAt (q::qs) k=valueAt qs k:=by simp[valueAt,List.find?_cons,e']
   rw[valV_neg e,b];exact ih
theorem KV.any {kvs:List (κ×V)}{vs:List (κ×Value)}(r:KV kvs vs)(k:κ):(kvs.any fun kv=>decide (kv.1=k))=vs.any fun kv=>decide (kv.1=k):=by
 unfold KV at r
 induction r with
 |nil=>rfl
 |cons h t ih=>rw[List.any_cons,List.any_cons,ih,h.1]
theorem KV.repl {kvs:List (κ×V)}{vs:List (κ×Value)}(r:KV kvs vs)(k:κ){y:V}{u:Value}(ry:RelV y u):
  KV (kvs.map fun kv=>if kv.1=k then(kv.1,y) else kv) (vs.map fun kv=>if kv.1=k then(kv.1,u) else kv):=by
 unfold KV at r ⊢
 induction r with
 |nil=>exact .nil
 |@cons p q ps qs h t ih=>
  rw[List.map_cons,List.map_cons]
  refine .cons ?_ ih
  obtain⟨h1,h2⟩:=h
  by_cases e:p.1=k
  ·rw[if_pos e,if_pos (h1.symm.trans e)];exact⟨h1,ry⟩
  ·rw[if_neg e,if_neg (fun z=>e (h1.trans z))];exact⟨h1,h2⟩
theorem KV.put {kvs:List (κ×V)}{vs:List (κ×Value)}(r:KV kvs vs)(k:κ){y:V}{u:Value}(ry:RelV y u):KV (putK kvs k y) (stored vs k u):=by
 unfold putK stored
 rw[r.any k]
 by_cases e:(vs.any fun kv=>decide (kv.1=k))=true
 ·rw[if_pos e,if_pos e];exact r.repl k ry
 ·rw[if_neg e,if_neg e];exact Paired.snoc r ⟨rfl,ry⟩
theorem KV.length {kvs:List (κ×V)}{vs:List (κ×Value)}(r:KV kvs vs):kvs.length=vs.length:=Paired.length r
end
section
variable {X:Cx} {pins:List (Addr×Obj)} {σ:St} {H:Hp} {s:Shared} {a:Addr} {y v:V} {u r:Value} {o:Option V} {A:Around} {E:Value->Shared->Prop}
theorem Inv.big (I:Inv X pins σ H s):sysModules<s.heap.objs.size:=by
 have h:mainGlobals<s.heap.objs.size:=(I.mod.glob.keeps I.bk).lt
 exact Nat.lt_trans (by decide) h
theorem d_write {h':Heap}{t':Nat}{ob:HO}(I:Inv X pins σ H s)(mu:Mut (H a))(hs:Heap.SameBut a s.heap h')(he:∃q,h'.get? a=some q)(new:ObjOk X.prog X.w (upd H a ob) h' a ob):
  Inv X pins σ (upd H a ob) { s with heap:=h',toks:=t' }:=
 I.write (x:=a) (e:=a) mu (.inl rfl) (fun b q hb z=>(hs.2 b hb).trans z) he new
end
def NoSl (i:Expr):Prop:=∀ov iv,subscripted i false ov iv=operate [ov,iv] (getItem ov iv)
theorem subD_of {prog:Program}{w:World}{A:Around}{E:Value->Shared->Prop}{s:Shared}{env:Env}{value slice:Expr}{pos:Pos}{T id:String}{Q:Value->Shared->Prop}
  (hl:typeLookup (.type T) "__getitem__"=pure (some (.builtin id))) (hs:NoSl slice)
  (h:wpAny (model prog w) A (eval value env) (fun o s₁=>wpAny (model prog w) A (eval slice env) (fun i s₂=>s₂.TypeIs o T/\wpAny (model prog w) A (getItem o i) Q E s₂) E s₁) E s):
  wpAny (model prog w) A (eval (.Subscript value slice pos) env) Q E s:=by
 refine Subscript_ (wpAny_mono h (fun o s₁ h₁=>wpAny_mono h₁ (fun i s₂ h₂=>?_) fun _ _ x=>x) fun _ _ x=>x)
 obtain⟨hT,h₂⟩:=h₂
 unfold subscriptTail
 refine wpAny_bind ?_
 rw[getitemInPython_of_ne hT.not_modules]
 refine wpAny_bind (wpAny_specialOf hT hl ?_)
 have fin:wpAny (model prog w) A (subscripted slice false o i) (fun r s₃=>wpAny (model prog w) A (letTemporaryGo value o r >>= fun _=>pure r) Q E s₃) E s₂:=by
  rw[hs o i]
  exact wpAny_operating (wpAny_mono h₂ (fun r s₃ h₃=>wpAny_bind (wpAny_letTemporaryGo (wpAny_pure h₃))) fun _ _ x=>x)
 first
  |exact wpAny_pure (wpAny_bind fin)
  |exact wpAny_bind (wpAny_pure (wpAny_bind fin))
  |exact wpAny_bind fin
def tPairs:List (TE×TE)->St->Hp->(List (V×V)->Hp->Prop)->Prop
 | [],_,H,Q=>Q [] H
 | (tk,tv)::r,σ,H,Q=>tk σ H fun x H1=>tv σ H1 fun y H2=>tPairs r σ H2 fun ps H3=>Q ((x,y)::ps) H3
abbrev VV:List (V×V)->List (Value×Value)->Prop:=Paired fun p q=>RelV p.1 q.1/\RelV p.2 q.2
def PPs (X:Cx)(pos:Pos)(keys:List (Option Expr))(values:List Expr)(trs:List (TE×TE)):Prop:=
 ∀(pins:List (Addr×Obj)) (s:Shared) (σ:St) (H:Hp) (Q:List (V×V)->Hp->Prop),Inv X pins σ H s->tPairs trs σ H Q→
  wpAny (model X.prog X.w) X.A (evalPairs (pairTrees keys values X.env pos)) (fun vs s'=>∃ps H',Inv X pins σ H' s'/\VV ps vs/\Q ps H') X.xe s
theorem pps_nil {X:Cx}{pos:Pos}:PPs X pos [] [] []:=fun pins s σ H Q I h=>pairTrees_nil_walk ⟨[],H,I,.nil,h⟩
theorem pps_cons {X:Cx}{pos:Pos}{k v:Expr}{ks:List (Option Expr)}{vs:List Expr}{tk tv:TE}{trs:List (TE×TE)}(hk:PE X k tk)(hv:PE X v tv)(hr:PPs X pos ks vs trs):
  PPs X pos (some k::ks) (v::vs) ((tk,tv)::trs):=fun pins s σ H Q I h=>
 pairTrees_cons_walk (thn (hk pins s σ H _ I h) fun u s1 ⟨x,H1,I1,rx,q1⟩=>thn (hv pins s1 σ H1 _ I1 q1) fun w2 s2 ⟨y,H2,I2,ry,q2⟩=>
  thn (hr pins s2 σ H2 _ I2 q2) fun ws s3 ⟨ps,H3,I3,rel,q3⟩=>⟨(x,y)::ps,H3,I3,.cons ⟨rx,ry⟩ rel,q3⟩)
structure M2 (X:Cx)(o:Expr)(m:Str)(apos:Pos)(e f:Expr)(cpos:Pos):Prop where
 base:attributeBase o m X.env (eval o X.env)=eval o X.env
 few:((backTo cpos (starEach [e,f] X.env)).all (fun x=>!x.1)&&(backToKw cpos (keywordEach [] X.env)).all (fun x=>x.1.isSome)
  &&decide (([e,f]:List Expr).length+([]:List Keyword).length+(if ([]:List Keyword).isEmpty then 0 else 1)<30))=true
 line:(apos.endLine==cpos.line)=true
 trees:backTo cpos (starEach [e,f] X.env)=[(false,eval e X.env),(false,eval f X.env)]
end L2
namespace L2
open PySem PySem.Spec PyProof.Rows
mutual
inductive DAt (K:W.Frag) (H:Hp):V->PyData->Prop
 |non:DAt K H .non .none
 |bl (b:Bool):DAt K H (.bl b) (.bool b)
 |int (i:Int):DAt K H (.int i) (.int i)
 |str (x:Str):DAt K H (.str x) (.str x)
 |lst {a:Addr} {xs:List V} {ds:List PyData}:SqL K H a xs->DsAt K H xs ds->DAt K H (.ref a) (.list ds)
 |tup {a:Addr} {xs:List V} {ds:List PyData}:SqT K H a xs->DsAt K H xs ds->DAt K H (.ref a) (.tuple ds)
inductive DsAt (K:W.Frag) (H:Hp):List V->List PyData->Prop
 |nil:DsAt K H [] []
 |cons {x:V} {d:PyData} {xs:List V} {ds:List PyData}:DAt K H x d->DsAt K H xs ds->DsAt K H (x::xs) (d::ds)
end
section
variable {X:Cx} {pins:List (Addr×Obj)} {σ:St} {H:Hp} {s:Shared}
mutual
theorem DAt.reads (I:Inv X pins σ H s):∀{x:V} {d:PyData} {u:Value},DAt X.K H x d->RelV x u->∃as,Reads s.heap u d as
 |_,_,_,.non,r=>by
  cases r
  exact⟨_,.none⟩
 |_,_,_,.bl b,r=>by
  cases r
  exact⟨_,.bool b⟩
 |_,_,_,.int i,r=>by
  obtain⟨t,rfl⟩:=r
  exact⟨_,.int i t⟩
 |_,_,_,.str x,r=>by
  obtain⟨t,rfl⟩:=r
  exact⟨_,.str x t⟩
 |_,_,_,.lst hq ds,r=>by
  cases r
  obtain⟨its,rv,p,_⟩:=I.list hq
  obtain⟨as,ra⟩:=DsAt.reads I ds rv
  obtain⟨o,h1,h2,n,h3⟩:=p.isList
  exact⟨_,.list h1 h2 h3 (by simpa using ra)⟩
 |_,_,_,.tup hq ds,r=>by
  cases r
  obtain⟨its,rv,p,_⟩:=I.tuple hq
  obtain⟨as,ra⟩:=DsAt.reads I ds rv
  obtain⟨o,h1,h2,n,h3⟩:=p
  exact⟨_,.tuple h1 h2 h3 (by simpa using ra)⟩
theorem DsAt.reads (I:Inv X pins σ H s):∀{xs:List V} {ds:List PyData} {us:List Value},DsAt X.K H xs ds->Vals xs us->∃as,ReadsAll s.heap us ds as
 |_,_,_,.nil,r=>by
  cases r
  exact⟨_,.nil⟩
 |_,_,_,.cons d ds,r=>by
  cases r with
  |cons r rs=>
   obtain⟨as,ra⟩:=DAt.reads I d r
   obtain⟨bs,rb⟩:=DsAt.reads I ds rs
   exact⟨_,.cons ra rb⟩
end
def DOk (d:PyData):Prop:=d.canLay0=true/\d.depth<=40
def rEqD (K:PySem.W.Frag)(neg:Bool):R2:=fun x y H Q=>∃dx dy,DAt K H x dx/\DAt K H y dy/\DOk dx/\DOk dy/\Q (.bl (if neg then !PyData.eqv dx dy else PyData.eqv dx dy)) H
theorem op_eqD (hu:X.A.units+64<cLine):OpR X (compareOp .Eq) (rEqD X.K false):=by
 intro pins s σ H x y v u Q I rx ry h
 obtain⟨dx,dy,ax,ay,okx,oky,q⟩:=h
 obtain⟨as,r1⟩:=ax.reads I rx
 obtain⟨bs,r2⟩:=ay.reads I ry
 refine SeqAt.compareEq_reads r1 r2 okx.1 oky.1 ?_ (fin_bl I q rfl)
 have h1:=okx.2
 have h2:min dx.depth dy.depth<=dx.depth:=Nat.min_le_left _ _
 omega
theorem op_neD (hu:X.A.units+64<cLine):OpR X (compareOp .NotEq) (rEqD X.K true):=by
 intro pins s σ H x y v u Q I rx ry h
 obtain⟨dx,dy,ax,ay,okx,oky,q⟩:=h
 obtain⟨as,r1⟩:=ax.reads I rx
 obtain⟨bs,r2⟩:=ay.reads I ry
 refine SeqAt.compareNe_reads r1 r2 okx.1 oky.1 ?_ (fin_bl I q rfl)
 have h1:=okx.2
 have h2:min dx.depth dy.depth<=dx.depth:=Nat.min_le_left _ _
 omega
def rInD (K:PySem.W.Frag)(neg:Bool):R2:=fun x y H Q=>∃p xs dx ds,y=.ref p/\(SqL K H p xs\/SqT K H p xs)/\DsAt K H xs ds/\DAt K H x dx/\DOk dx/\PyData.canLayAll0 ds=true∧
 Q (.bl (if neg then !(ds.any fun d=>PyData.eqv d dx) else ds.any fun d=>PyData.eqv d dx)) H
theorem in_room {a b c:Nat}(hu:a+64<c)(h:b<=40)(k:Nat):a+1+min k b<c:=by
 have h2:min k b<=b:=Nat.min_le_right _ _
 omega
theorem op_inD (hu:X.A.units+64<cLine):OpR X (compareOp .In) (rInD X.K false):=by
 intro pins s σ H x y v u Q I rx ry h
 obtain⟨p,xs,dx,ds,rfl,hp,ad,ax,okx,okd,q⟩:=h
 obtain⟨bs,r2⟩:=ax.reads I rx
 rcases hp with hp|hp
 ·obtain⟨as,r1⟩:=(DAt.lst hp ad).reads I ry
  exact SeqAt.in_list_reads r1 r2 okd okx.1 (in_room hu okx.2 _) (fin_bl I q rfl)
 ·obtain⟨as,r1⟩:=(DAt.tup hp ad).reads I ry
  exact SeqAt.in_tuple_reads r1 r2 okd okx.1 (in_room hu okx.2 _) (fin_bl I q rfl)
theorem op_notInD (hu:X.A.units+64<cLine):OpR X (compareOp .NotIn) (rInD X.K true):=by
 intro pins s σ H x y v u Q I rx ry h
 obtain⟨p,xs,dx,ds,rfl,hp,ad,ax,okx,okd,q⟩:=h
 obtain⟨bs,r2⟩:=ax.reads I rx
 rcases hp with hp|hp
 ·obtain⟨as,r1⟩:=(DAt.lst hp ad).reads I ry
  exact SeqAt.notIn_list_reads r1 r2 okd okx.1 (in_room hu okx.2 _) (fin_bl I q rfl)
 ·obtain⟨as,r1⟩:=(DAt.tup hp ad).reads I ry
  exact SeqAt.notIn_tuple_reads r1 r2 okd okx.1 (in_room hu okx.2 _) (fin_bl I q rfl)
def rCat0 (K:PySem.W.Frag):R2:=fun x y H Q=>∃a b ys,x=.ref a/\y=.ref b/\SqT K H a []/\SqT K H b ys/\Q (.ref b) H
theorem op_cat0:OpR X (binaryOp .Add) (rCat0 X.K):=by
 intro pins s σ H x y v u Q I rx ry h
 obtain⟨a,b,ys,rfl,rfl,ha,hb,q⟩:=h
 cases rx
 cases ry
 obtain⟨us,ru,pu,_⟩:=I.tuple ha
 obtain⟨ws,rw',pw,_⟩:=I.tuple hb
 cases ru
 obtain⟨⟨cls,dd,data,sl⟩,ho,hc,n,hd⟩:=id pu
 obtain⟨⟨cls2,dd2,data2,sl2⟩,ho2,hc2,n2,hd2⟩:=id pw
 simp only at hc hd hc2 hd2
 subst hc hd hc2 hd2
 have st:=tuple_addW0 a b ([]:List Value).toArray ws.toArray n n2 dd dd2 sl sl2 (by simp)
 exact concat_meets ⟨_,ho,rfl⟩ ⟨_,ho2,rfl⟩ noFill_tuple_add seq_tuple_add PySem.F.slot_tuple_add PySem.F.entry_tuple_add (PySem.F.args_tuple_add_2 _ _) st ⟨ho,ho2,⟨.ref b,H,I,rfl,q⟩⟩
def TSame (H H':Hp):Prop:=∀b xs,H b=some (.tup xs)->H' b=some (.tup xs)
theorem Same.tups {H H':Hp}(s:Same H H'):TSame H H':=fun b xs e=>s b _ e
theorem TSame.upd_lst {H H':Hp}{a:Addr}{ys:List V}{o:HO}(s:TSame H H')(h:H' a=some (.lst ys)):TSame H (upd H' a o):=fun b xs e=>by
 have q:=s b xs e
 rw[upd_ne (ne_of q h (by intro z;cases z))]
 exact q
end
end L2
namespace L2
open PySem PySem.Spec PyProof.Rows
open AutoSeq1 (wpAny_loadPart')
section
variable {X:Cx} {pins:List (Addr×Obj)} {σ:St} {H:Hp} {s:Shared}
theorem Inv.turnedT {h':Heap}{t':Nat}{ch:List Addr}{T:Addr}{o:HO}(I:Inv X pins σ H s)(hc:∀b∈ch,FpOk X pins H b)(k:∀b u,b∉ch->s.heap.get? b=some u->h'.get? b=some u)(hT:s.heap.objs.size<=T)(new:ObjOk X.prog X.w (upd H T o) h' T o):
  Inv X pins σ (upd H T o) { s with heap:=h',toks:=t' }:=by
 have hn:H T=none:=I.hok.fresh hT
 have nT:∀b u,s.heap.get? b=some u->b≠T:=fun b u e=>Nat.ne_of_lt (Nat.lt_of_lt_of_le (Heap.lt_size e) hT)
 have nc:∀b u,H b=some u->b∉ch:=fun b u e z=>by
  have:=(hc b z).1
  rw[e] at this
  cases this
 refine I.step (g':=s.gens) (d':=s.drawn) (ch:=ch) (fun b hb=>⟨(hc b hb).2.2.2.1,(hc b hb).2.1,(hc b hb).2.2.2.2.1,(hc b hb).2.2.2.2.2⟩) (fun b u _ _ z e _=>k b u z e) (fun b u _ _ z e _=>⟨u.slots,k b u z e⟩)
  (fun b u _ e n=>by rw[upd_ne (nT b u e)];exact n) (fun b u z e=>⟨u,k b u z e⟩) (fun b xs q=>by rw[upd_ne (ne_of_none q hn)];exact q) (fun b u xs q=>by rw[upd_ne (ne_of_none q hn)];exact q)
  (fun b ps q=>⟨#[],by rw[upd_ne (ne_of_none q hn),q];simp⟩) (fun m hm=>?_) (fun b u e=>?_) I.bare
 ·obtain⟨u,es,ep,ho,r⟩:=hm
  exact⟨u,es,ep,k _ u (fun z=>(hc _ z).2.1 rfl) ho,r⟩
 ·by_cases hb:b=T
  ·subst hb
   rw[upd_same] at e
   cases e
   exact new
  ·rw[upd_ne hb] at e
   refine(I.hok b u e).stay (fun c v z q=>k c v ?_ q) (fun c q=>by rw[upd_ne (ne_of_none q hn)];exact q) fun c xs q=>by rw[upd_ne (ne_of_none q hn)];exact q
   rcases z with z|z
   ·rw[z];exact nc b u e
   ·exact nc c _ z
theorem Inv.turnedL {h':Heap}{t':Nat}{ch:List Addr}(I:Inv X pins σ H s)(hc:∀b∈ch,FpOk X pins H b)(k:∀b u,b∉ch->s.heap.get? b=some u->h'.get? b=some u):Inv X pins σ H { s with heap:=h',toks:=t' }:=by
 have nc:∀b u,H b=some u->b∉ch:=fun b u e z=>by
  have:=(hc b z).1
  rw[e] at this
  cases this
 refine I.step (g':=s.gens) (d':=s.drawn) (ch:=ch) (fun b hb=>⟨(hc b hb).2.2.2.1,(hc b hb).2.1,(hc b hb).2.2.2.2.1,(hc b hb).2.2.2.2.2⟩) (fun b u _ _ z e _=>k b u z e) (fun b u _ _ z e _=>⟨u.slots,k b u z e⟩)
  (fun b u _ e n=>n) (fun b u z e=>⟨u,k b u z e⟩) (fun b xs q=>q) (fun b u xs q=>q) (fun b ps q=>⟨#[],by rw[q];simp⟩) (fun m hm=>?_) (fun b u e=>?_) I.bare
 ·obtain⟨u,es,ep,ho,r⟩:=hm
  exact⟨u,es,ep,k _ u (fun z=>(hc _ z).2.1 rfl) ho,r⟩
 ·refine(I.hok b u e).stay (fun c v z q=>k c v ?_ q) (fun c q=>q) fun c xs q=>q
  rcases z with z|z
  ·rw[z];exact nc b u e
  ·exact nc c _ z
end
end L2
namespace L2
open PySem PySem.Spec PyProof.Rows
section
variable {X:Cx}
def rCat1 (K:W.Frag):R2:=fun x y H Q=>∃a b xs ys,x=.ref a/\y=.ref b/\H a=some (.tup xs)/\SqT K H b ys/\xs≠[]/\xs.length+ys.length<=sizeLine/\∀p H',Same H H'->H' p=some (.tup (xs++ys))->Q (.ref p) H'
theorem op_cat1:OpR X (binaryOp .Add) (rCat1 X.K):=by
 intro pins s σ H x y v u Q I rx ry h
 obtain⟨a,b,xs,ys,rfl,rfl,ha,hb,hx,hz,q⟩:=h
 exact op_catT pins s σ H _ _ v u Q I rx ry ⟨a,b,xs,ys,rfl,rfl,SqT.of ha,hb,hx,hz,fun z=>q a H (Same.refl H) (by subst z;rw[List.append_nil];exact ha),fun _ p hp=>q p _ ((Same.refl H).upd_free hp) upd_same⟩
end
end L2
namespace L2
open PySem PySem.Spec PyProof.Rows
section
variable {X:Cx}
def manyI (ns:List Int):Nat:=(firstMet (fun i=>ns.getD i 0) ns.length).length
def inI (ns:List Int):Int->Bool:=fun k=>(firstMet (fun i=>ns.getD i 0) ns.length).any (·==k)
theorem call_setI (hc:X.calm=true):CallR X (.type "set") (fun xs H Q=>∃p ns,xs=[.ref p]/\SqL X.K H p (ns.map V.int)/\ns.length<=1000/\∀a,H a=none->Q (.ref a) (upd H a (.set (inI ns) (manyI ns)))):=by
 intro pins s σ H xs us Q I r h
 obtain⟨p,ns,rfl,hq,hn,q⟩:=h
 obtain⟨u,rfl,rx⟩:=vals1 r
 cases rx
 obtain⟨its,r',pl,hz⟩:=I.list hq
 have hlen:=r'.length
 rw[List.length_map] at hlen
 refine PySem.call_set_list (items:=its.toArray) (ns:=ns) (I.ok.hd hc) pl.isList (by simpa using intsAre_of r') (by unfold scanBound;rw[List.size_toArray];omega) fun h' tk hS hk=>?_
 rw[show its.toArray.size=ns.length by rw[List.size_toArray,hlen]] at hS
 exact⟨.ref s.heap.objs.size,_,I.laid (t':=tk) (fun b o e=>hk b o (Heap.lt_size e) e) (Nat.le_refl _) (show ObjOk X.prog X.w _ h' _ (.set (inI ns) (manyI ns)) from hS),rfl,q _ (I.hok.fresh (Nat.le_refl _))⟩
theorem call_lenS:CallR X (.builtin "len") (fun xs H Q=>∃a S n,xs=[V.ref a]/\H a=some (.set S n)/\Q (.int n) H):=by
 intro pins s σ H xs us Q I r h
 obtain⟨a,S,n,rfl,ha,q⟩:=h
 obtain⟨u,rfl,ru⟩:=vals1 r
 cases ru
 obtain⟨o,es,ep,t,ho,hex,hd,_,_,hb,hf,hn⟩:=show s.heap.SetOf (intKind X.prog X.w) a S n from I.hok _ _ ha
 subst hn
 unfold scanBound at hb
 exact call_len_set ho hex hd hf (by omega) ⟨.int es.size,H,I.tok _,⟨_,rfl⟩,q⟩
end
theorem range_getD (ns:List Int):(List.range ns.length).map (fun i=>ns.getD i 0)=ns:=by
 apply List.ext_getElem
 ·simp
 ·intro i h1 h2
  have h3:i<ns.length:=h2
  simp[List.getD,h3]
theorem first_nodup:∀(ns σ:List Int),σ.Nodup->(ns.foldl step_dedup σ).Nodup
 | [],σ,h=>h
 |v::ns,σ,h=>by
  refine first_nodup ns _ ?_
  unfold step_dedup
  split
  ·exact h
  ·rename_i hn
   rw[List.nodup_append]
   refine⟨h,by simp,fun x hx y hy=>?_⟩
   rw[List.mem_singleton] at hy
   intro z
   subst hy z
   exact hn (List.any_eq_true.mpr ⟨_,hx,by simp⟩)
theorem inI_iff (ns:List Int)(k:Int):inI ns k=true↔k∈ns:=by
 unfold inI
 rw[firstMet_any,range_getD,List.any_eq_true]
 exact⟨fun⟨x,hx,e⟩=>by rw[beq_iff_eq] at e;rwa [<- e],fun h=>⟨k,h,by simp⟩⟩
end L2
namespace L2
open PySem PySem.Spec PyProof.Rows
theorem zip_apart (n l m:Nat)(h1:l<n)(h2:m<n):ZipApart (n+4) (n+2) (n+3) n (n+1) l m:=by
 constructor<;>(show@Ne Nat _ _;omega)
theorem boot_zip:bootBuiltins "zip"=some (.type "zip"):=by decide +kernel
end L2
namespace L2
open PySem PySem.Spec PyProof.Rows
def numIs:Int->Value->Bool
 |k,.int i _=>i==k
 |k,.bool b=>(if b then(1:Int) else 0)==k
 |_,_=>false
theorem numIs_shape {k:Int}{v:Value}(h:numIs k v=true):(∃t,v=.int k t)\/∃b:Bool,v=.bool b/\(if b then(1:Int) else 0)=k:=by
 cases v<;>simp_all [numIs]
section
variable {prog:Program} {w:World} {A:Around} {E:Value->Shared->Prop} {s:Shared}
theorem hash_bl {b:Bool}{Q:Int->Shared->Prop}(h:Q (hashInt (if b then 1 else 0)) { s with toks:=s.toks+1 }):wpAny (model prog w) A (PySem.pyHash (.bool b)) Q E s:=by
 have tI:s.TypeIs (.bool b) "bool":=rfl
 unfold PySem.pyHash
 refine wpAny_bind ?_
 rw[cRoomFor,if_neg (by rw[show[Value.bool b].any Value.onHeap=false from rfl];exact Bool.false_ne_true)]
 refine wpAny_pure ?_
 refine wpAny_bind (wpAny_specialOf tI PySem.F.slot_bool_hash.lookup ?_)
 show wpAny _ _ (if (some (Value.builtin "int.__hash__")==some Value.none)=true then _ else _) Q E _
 rw[if_neg (by rw[beq_builtin_none];exact Bool.false_ne_true)]
 refine wpAny_bind (wpAny_specialOf tI PySem.F.slot_bool_hash.lookup ?_)
 show wpAny _ _ (callSpecialIfBoundUnlessNone? (.bool b) "__hash__" _ >>= _) Q E _
 refine wpAny_bind (wpAny_callSpecialIfBoundUnlessNone?_slot tI PySem.F.slot_bool_hash (wpAny_call_entry PySem.F.slot_bool_hash tI entry_int_hash ?_ (args_int_hash _)))
 cases b
 ·exact(show wpAny _ _ (do ret (← mkInt 0)) _ _ s from wpAny_ret_mkInt (by
   show wpAny _ _ (if (decide (-(2:Int) ^ 63<=0)&&decide ((0:Int)<2 ^ 63))=true then _ else _) Q E _
   rw[if_pos (by decide)]
   exact wpAny_pure h))
 ·exact(show wpAny _ _ (do ret (← mkInt 1)) _ _ s from wpAny_ret_mkInt (by
   show wpAny _ _ (if (decide (-(2:Int) ^ 63<=1)&&decide ((1:Int)<2 ^ 63))=true then _ else _) Q E _
   rw[if_pos (by decide)]
   exact wpAny_pure h))
end
def numKind (prog:Program)(w:World):PySem.KeyKind prog w Int where
 is:=numIs
 hash:=hashInt
 inj:=fun v a b ha hb=>by cases v<;>simp_all [numIs]
 byValue:=fun k v h=>by rcases numIs_shape h with⟨t,rfl⟩|⟨b,rfl,_⟩<;>rfl
 pyHash:=fun hv h=>by
  rcases numIs_shape hv with⟨t,rfl⟩|⟨b,rfl,e⟩
  ·exact wpAny_pyHash_int h
  ·exact hash_bl (by rw[e];exact h)
 eqBool:=fun {A E s a b u v Q} hu hv h=>by
  rcases numIs_shape hu with⟨t,rfl⟩|⟨c,rfl,e⟩<;>rcases numIs_shape hv with⟨t',rfl⟩|⟨d,rfl,e'⟩
  ·exact wpAny_eqBool_int h
  ·refine SeqAt.EqAt.int_bool a t d prog w E Q ?_
   rw[e',show(a==b)=decide (a=b) from rfl]
   exact h
  ·refine SeqAt.EqAt.bool_int c b t' prog w E Q ?_
   rw[e,show(a==b)=decide (a=b) from rfl]
   exact h
  ·refine SeqAt.EqAt.bool_bool c d prog w E Q ?_
   have q:(c==d)=decide (a=b):=by subst e e';cases c<;>cases d<;>rfl
   rw[q]
   exact h
 «strs»:=fun k x t v h=>by simp[numIs] at h
def nV:V->Option Int
 |.int i=>some i
 |.bl b=>some (if b then 1 else 0)
 |_=>none
theorem nV_is {P:Program}{w:World}{v:V}{u:Value}{k:Int}(e:nV v=some k)(r:RelV v u):(numKind P w).is k u=true:=by
 cases v with
 |int i=>obtain⟨t,rfl⟩:=(show ∃t,u=Value.int i t from r);cases e;simp[numKind,numIs]
 |bl b=>cases(show u=Value.bool b from r);cases e;simp[numKind,numIs]
 |_=>cases e
def Nums (xs:List V)(ns:List Int):Prop:=xs.map nV=ns.map some
theorem Nums.length {xs:List V}{ns:List Int}(h:Nums xs ns):xs.length=ns.length:=by
 have:=congrArg List.length h
 simpa using this
theorem Nums.get {xs:List V}{ns:List Int}{i:Nat}{n:Int}(h:Nums xs ns)(e:ns[i]?=some n):∃x,xs[i]?=some x/\nV x=some n:=by
 have q:(xs.map nV)[i]?=(ns.map some)[i]?:=by rw[h]
 rw[List.getElem?_map,List.getElem?_map,e] at q
 cases ex:xs[i]? with
 |none=>rw[ex] at q;cases q
 |some x=>rw[ex] at q;exact⟨x,rfl,Option.some.inj q⟩
theorem nums_ints (ns:List Int):Nums (ns.map V.int) ns:=by unfold Nums;rw[List.map_map];rfl
theorem Nums.snoc {xs:List V}{ns:List Int}{x:V}{n:Int}(h:Nums xs ns)(e:nV x=some n):Nums (xs++[x]) (ns++[n]):=by
 unfold Nums at h ⊢
 rw[List.map_append,List.map_append,h]
 simp[e]
theorem nums_are {P:Program}{w:World}:∀{xs:List V} {ns:List Int} {us:List Value},Nums xs ns->Vals xs us->ItemsAre (numKind P w) ns us
 | [],[],_,_,.nil=>.nil
 | [],_::_,_,h,_=>by simp[Nums] at h
 |_::_,[],_,h,_=>by simp[Nums] at h
 |x::xs,n::ns,_,h,.cons r t=>by
  have h':nV x=some n/\xs.map nV=ns.map some:=by simpa [Nums] using h
  exact .cons (nV_is h'.1 r) (nums_are (xs:=xs) h'.2 t)
def ND (P:Program)(w:World)(a:Addr)(kvs:List (Int×V)):HO:=.ext fun h=>kvs.length<=sizeLine/\(a==sysModules)=false/\∃vs,KV kvs vs/\h.DictOf (numKind P w) a vs
theorem nd_ok {P:Program}{w:World}{H:Hp}{h:Heap}{a:Addr}{kvs:List (Int×V)}{vs:List (Int×Value)}(z:kvs.length<=sizeLine)(hd:(a==sysModules)=false)(r:KV kvs vs)(dd:h.DictOf (numKind P w) a vs):ObjOk P w H h a (ND P w a kvs):=by
 refine⟨⟨z,hd,vs,r,dd⟩,?_,fun h1 h2 ⟨z,hd,vs,r,o,es,ep,g,m⟩ k=>⟨z,hd,vs,r,o,es,ep,k o g,m⟩⟩
 obtain⟨o,_,_,g,_⟩:=dd
 exact⟨o,g⟩
section
variable {X:Cx} {pins:List (Addr×Obj)} {σ:St} {H:Hp} {s:Shared} {a:Addr} {kvs:List (Int×V)} {k:Int} {y v:V} {u r:Value} {A:Around} {E:Value->Shared->Prop}
theorem nd_of (I:Inv X pins σ H s)(e:H a=some (ND X.prog X.w a kvs)):kvs.length<=sizeLine/\(a==sysModules)=false/\∃vs,KV kvs vs/\s.heap.DictOf (numKind X.prog X.w) a vs:=
 (show ObjOk X.prog X.w H s.heap a (ND X.prog X.w a kvs) from I.hok _ _ e).1
def tNGet (P:Program)(w:World)(td ty:TE):TE:=fun σ H Q=>td σ H fun x H1=>ty σ H1 fun y H2=>∃a kvs k v,x=.ref a/\H2 a=some (ND P w a kvs)/\nV y=some k/\valV kvs k=some v/\Q v H2
def tNNotIn (P:Program)(w:World)(ty td:TE):TE:=fun σ H Q=>ty σ H fun y H1=>td σ H1 fun x H2=>∃a kvs k,x=.ref a/\H2 a=some (ND P w a kvs)/\nV y=some k/\Q (.bl (!(valV kvs k).isSome)) H2
def sNPut (P:Program)(w:World)(td ty tv:TE):TS:=fun D σ H=>tv σ H fun v H1=>td σ H1 fun x H2=>ty σ H2 fun y H3=>∃a kvs k,x=.ref a/\H3 a=some (ND P w a kvs)/\nV y=some k/\kvs.length<sizeLine/\D.nx σ (upd H3 a (ND P w a (putK kvs k v)))
def tNDisp (P:Program)(w:World)(ty tv:TE):TE:=fun σ H Q=>∀p,H p=none->tPairs [(ty,tv)] σ (upd H p (ND P w p [])) fun ps H2=>H2 p=some (ND P w p [])/\∃y v k,ps=[(y,v)]/\nV y=some k/\Q (.ref p) (upd H2 p (ND P w p [(k,v)]))
variable {o i value:Expr} {pos pos':Pos} {td ty tv:TE}
theorem pe_nget (ho:PE X o td)(hi:PE X i ty)(hs:NoSl i):PE X (.Subscript o i pos) (tNGet X.prog X.w td ty):=by
 intro pins s σ H Q I h
 refine subD_of PySem.F.slot_dict_getitem.lookup hs (thn (ho pins s σ H _ I h) fun u s1 ⟨x,H1,I1,rx,q1⟩=>thn (hi pins s1 σ H1 _ I1 q1) fun iv s2 ⟨y,H2,I2,ry,a,kvs,k,v,ex,g,ey,l,q2⟩=>?_)
 subst ex
 obtain rfl:u=Value.ref a:=rx
 obtain⟨z,hd,vs,rel,dd⟩:=nd_of I2 g
 obtain⟨w',hw,rw'⟩:=RelO.some_of (v:=v) (o:=valueAt vs k) (by rw[<- l];exact rel.val k)
 exact⟨dd.typeIs,wpAny_getItem_of (nV_is ey ry) dd.mapOf hw ⟨v,H2,I2.tok _,rw',q2⟩⟩
theorem pc_nnotin (hi:PE X i ty)(ho:PE X o td):PC X .NotIn i o (tNNotIn X.prog X.w ty td):=by
 intro pins s σ H Q I h
 refine thn (hi pins s σ H _ I h) fun iv s1 ⟨y,H1,I1,ry,q1⟩=>thn (ho pins s1 σ H1 _ I1 q1) fun u s2 hq9=>?_
 obtain⟨x,H2,I2,rx,a,kvs,k,ex,g,ey,q2⟩:=hq9
 subst ex
 obtain rfl:u=Value.ref a:=rx
 obtain⟨z,hd,vs,rel,dd⟩:=nd_of I2 g
 refine wpAny_notIn_of (nV_is ey ry) hd dd.mapOf ?_
 rw[<- (rel.val k).isSome_eq]
 exact⟨.bl (!(valV kvs k).isSome),H2,I2.tok _,rfl,q2⟩
theorem ps_nput (ho:PE X o td)(hi:PE X i ty)(hv:PE X value tv)(hs:swapsWith value (some (.Subscript o i pos')) pos.line X.env=pure false):
  PS X (.Assign [.Subscript o i pos'] value pos) (sNPut X.prog X.w td ty tv):=by
 intro pins s σ H D I h
 refine wpAny_Assign_Subscript (thn (hv pins s σ H _ I h) fun r s1 ⟨v,H1,I1,rv,q1⟩=>thn (ho pins s1 σ H1 _ I1 q1) fun u s2 ⟨x,H2,I2,rx,q2⟩=>thn (hi pins s2 σ H2 _ I2 q2) fun iv s3 ⟨y,H3,I3,ry,a,kvs,k,ex,e,ey,l,q3⟩=>?_) hs
 subst ex
 obtain rfl:u=Value.ref a:=rx
 obtain⟨z,hd,vs,rel,dd⟩:=nd_of I3 e
 have hz:vs.length<=sizeLine:=by rw[<- rel.length];exact z
 have hl:(putK kvs k v).length<=sizeLine:=by have:=length_putK kvs k v;omega
 refine wpAny_setItem_pairs (hsz:=hz) (nV_is ey ry) dd fun h' dd' hs=>⟨σ,_,?_,q3⟩
 have he:∃q,h'.get? a=some q:=let ⟨q,_,_,hq,_⟩:=dd';⟨q,hq⟩
 exact d_write I3 (by rw[e];exact True.intro) hs he (nd_ok hl hd (rel.put k rv) dd')
theorem pe_ndisp {ke ve:Expr}(h:PE X ke ty)(hv:PE X ve tv):PE X (.Dict [some ke] [ve] pos) (tNDisp X.prog X.w ty tv):=by
 intro pins s σ H Q I q
 have hn:=I.hok.fresh (Nat.le_refl s.heap.objs.size)
 have hsz:(s.heap.objs.size==sysModules)=false:=beq_eq_false_iff_ne.mpr (Ne.symm (Nat.ne_of_lt I.big))
 have I1:=I.laid (a:=s.heap.objs.size) (o:=ND X.prog X.w s.heap.objs.size []) (h':=s.heap.push { cls:=.type "dict",data:=.dict #[] }) (t':=s.toks) (fun _ _ q=>Heap.get?_push_of_some _ q) (Nat.le_refl _) (nd_ok (Nat.zero_le _) hsz .nil (Heap.DictOf.new s.heap))
 refine wpAny_Dict_walk (knd:=numKind X.prog X.w) rfl rfl (by simp) (by simp) (thn ((pps_cons h hv pps_nil) pins _ σ _ _ I1 (q _ hn)) fun ws s2 ⟨ps,H2,I2,rel,e,y,v,k,ep,ey,q2⟩=>?_)
 subst ep
 cases rel with
 |@cons p1 w1 ps1 ws1 h1 t=>
  cases t
  obtain⟨u,r⟩:=w1
  obtain⟨z,hd,vs0,r0,dd⟩:=nd_of I2 e
  cases r0
  refine⟨[(k,r)],⟨nV_is ey h1.1,rfl,True.intro⟩,dd,fun h' dd' hs=>⟨.ref s.heap.objs.size,_,?_,rfl,q2⟩⟩
  have he:∃q,h'.get? s.heap.objs.size=some q:=let ⟨q,_,_,hq,_⟩:=dd';⟨q,hq⟩
  exact d_write I2 (by rw[e];exact True.intro) hs he (nd_ok (by show 1<=sizeLine;decide) hd (.cons ⟨rfl,h1.2⟩ .nil) dd')
end
end L2
namespace SO
open PySem PyProof PyProof.Rows HT
theorem lex_irr:∀a:List Int,lexLt a a=false
 | []=>rfl
 |x::xs=>by rw[lexLt_cons,if_pos rfl];exact lex_irr xs
theorem lex_neg:∀a b c:List Int,lexLt a c=true->lexLt a b=true\/lexLt b c=true
 | [],[],[],h=>by cases h
 | [],[],_::_,_=>.inr rfl
 | [],_::_,_,_=>.inl rfl
 |_::_,_,[],h=>by rw[lexLt_cons_nil] at h;cases h
 |_::_,[],_::_,_=>.inr rfl
 |x::xs,y::ys,z::zs,h=>by
  rw[lexLt_cons] at h
  rw[lexLt_cons,lexLt_cons]
  by_cases e1:x=y
  ·rw[if_pos e1]
   subst e1
   by_cases e2:x=z
   ·rw[if_pos e2] at h ⊢
    exact lex_neg xs ys zs h
   ·rw[if_neg e2] at h ⊢
    exact .inr h
  ·rw[if_neg e1]
   by_cases e2:y=z
   ·subst e2
    rw[if_neg e1] at h
    exact .inl h
   ·rw[if_neg e2]
    by_cases e3:x=z
    ·subst e3
     rcases Int.lt_or_gt_of_ne e1 with q|q
     ·exact .inl (by simpa using q)
     ·exact .inr (by simpa using q)
    ·rw[if_neg e3] at h
     have h:x<z:=by simpa using h
     by_cases q:x<y
     ·exact .inl (by simpa using q)
     ·exact .inr (by simp;omega)
theorem lex_tot:∀a b:List Int,lexLt a b=false->lexLt b a=false->a=b
 | [],[],_,_=>rfl
 | [],_::_,h,_=>by cases h
 |_::_,[],_,h=>by cases h
 |x::xs,y::ys,h1,h2=>by
  rw[lexLt_cons] at h1 h2
  by_cases e:x=y
  ·subst e
   rw[if_pos rfl] at h1 h2
   rw[lex_tot xs ys h1 h2]
  ·rw[if_neg e] at h1
   rw[if_neg (fun q=>e q.symm)] at h2
   have:=decide_eq_false_iff_not.mp h1
   have:=decide_eq_false_iff_not.mp h2
   omega
theorem neg_asym {α:Type}{r:α->α->Bool}(irr:∀a,r a a=false)(neg:∀a b c,r a c=true->r a b=true\/r b c=true)(tot:∀a b,r a b=false->r b a=false->a=b)(h3:∀a b,r a b=true->r b a=true->False):∀a b c,r a b=true->r b c=true->r a c=true:=by
 intro a b c h1 h2
 rcases neg a c b h1 with q|q
 ·exact q
 ·exact(h3 _ _ h2 q).elim
theorem lex_asym:∀a b:List Int,lexLt a b=true->lexLt b a=true->False
 | [],[],h,_=>by cases h
 | [],_::_,_,h=>by cases h
 |_::_,[],h,_=>by cases h
 |x::xs,y::ys,h1,h2=>by
  rw[lexLt_cons] at h1 h2
  by_cases e:x=y
  ·subst e
   rw[if_pos rfl] at h1 h2
   exact lex_asym xs ys h1 h2
  ·rw[if_neg e] at h1
   rw[if_neg (fun q=>e q.symm)] at h2
   have:=of_decide_eq_true h1
   have:=of_decide_eq_true h2
   omega
abbrev KP:=Int×List Int
def prLt (x y:KP):Bool:=lexLt (x.1::x.2) (y.1::y.2)
def prOrd:KeyOrd where
 α:=KP
 blt:=prLt
 irrefl:=fun a=>lex_irr _
 trans:=fun a b c=>neg_asym (r:=HT.lexLt) lex_irr lex_neg lex_tot lex_asym _ _ _
 negTrans:=fun a b c=>lex_neg _ _ _
 total:=fun a b h1 h2=>by
  have:=lex_tot _ _ h1 h2
  injection this with e1 e2
  exact Prod.ext e1 e2
def PrK (h:Heap)(k:KP)(v:Value):Prop:=∃a b t items,v=.ref a/\IsTup h a #[.int k.1 t,.ref b]/\IsTup h b items/\IntsAre items.toList k.2
theorem ints_inj:∀{vs:List Value} {ns ms:List Int},IntsAre vs ns->IntsAre vs ms->ns=ms
 |_,_,_,.nil,.nil=>rfl
 |_,_,_,.cons _ _ r,.cons _ _ r'=>by rw[ints_inj r r']
theorem tup_inj {h:Heap}{a:Addr}{x y:Array Value}(h1:IsTup h a x)(h2:IsTup h a y):x=y:=by
 obtain⟨o,e1,_,n,d1⟩:=h1
 obtain⟨o',e2,_,n',d2⟩:=h2
 rw[e1] at e2
 cases e2
 rw[d1] at d2
 injection d2
theorem PrK.inj {h:Heap}{k k':KP}{v:Value}(x:PrK h k v)(y:PrK h k' v):k=k':=by
 obtain⟨a,b,t,i,rfl,h1,h2,h3⟩:=x
 obtain⟨a',b',t',i',e,h1',h2',h3'⟩:=y
 cases e
 have e1:=tup_inj h1 h1'
 injection e1 with e1
 injection e1 with e2 e3
 injection e2 with e4
 injection e3 with e5
 injection e5 with e6
 subst e6
 have e7:=tup_inj h2 h2'
 subst e7
 exact Prod.ext e4 (ints_inj h3 h3')
open Classical in
noncomputable def kyP (h:Heap) (x:Keyed):KP:=if e:∃k,PrK h k x.1 then e.choose else(0,[])
theorem kyP_is {h:Heap}{k:KP}{x:Keyed}(e:PrK h k x.1):kyP h x=k:=by
 unfold kyP
 have q:∃k,PrK h k x.1:=⟨k,e⟩
 rw[dif_pos q]
 exact q.choose_spec.inj e
theorem tup_key {P:Program}{w:World}{h:Heap}{b:Addr}{items:Array Value}{ns:List Int}(x:IsTup h b items)(i:IntsAre items.toList ns):IsTupleKey (L2.numKind P w) h ns b:=by
 obtain⟨o,e1,e2,n,e3⟩:=x
 refine⟨o,items,n,e1,e2,e3,?_⟩
 generalize items.toList=l at i
 induction i with
 |nil=>exact .nil
 |cons n t r ih=>exact .cons (by show L2.numIs n (.int n t)=true;simp[L2.numIs]) ih
section
variable {prog:Program} {w:World} {A:Around} {E:Value->Shared->Prop} {s:Shared}
theorem cmp_pr {k k':KP}{x y:Value}{Q:Bool->Shared->Prop}(hu:A.units+2<cLine)(hx:PrK s.heap k x)(hy:PrK s.heap k' y)(h:Q (prLt k k') s):wpAny (model prog w) A (keyLt' (tuples' true) x y) Q E s:=by
 obtain⟨a,b,t,its,rfl,⟨o1,g1,c1,n1,d1⟩,h2,h3⟩:=hx
 obtain⟨a',b',t',its',rfl,⟨o1',g1',c1',n1',d1'⟩,h2',h3'⟩:=hy
 refine W.kat_lt g1 d1 g1' d1' ?_
 have ez:(#[Value.int k.1 t,.ref b].toList.zip #[Value.int k'.1 t',.ref b'].toList)=[(.int k.1 t,.int k'.1 t'),(.ref b,.ref b')]:=rfl
 rw[ez]
 have hl:prLt k k'=if k.1=k'.1 then lexLt k.2 k'.2 else decide (k.1<k'.1):=lexLt_cons _ _ _ _
 rw[hl] at h
 refine W.kat_cons (PySem.wpAny_eqBool_int ?_)
 by_cases e:k.1=k'.1
 ·rw[if_pos e] at h
  rw[show(k.1==k'.1)=true by simpa using e]
  refine W.kat_yes (W.kat_cons (PySem.wpAny_eqBool_tuple (knd:=L2.numKind prog w) (by omega) (tup_key h2 h3) (tup_key h2' h3') ?_))
  by_cases e2:k.2=k'.2
  ·rw[show decide (k.2=k'.2)=true by simpa using e2]
   refine W.kat_yes (W.kat_nil ?_)
   rw[e2,lex_irr] at h
   exact h
  ·rw[show decide (k.2=k'.2)=false by simpa using e2]
   refine W.kat_no (W.kat_one _ _ ?_)
   exact HT.lt_tupInts h2 h2' h3 h3' (by omega) h
 ·rw[if_neg e] at h
  rw[show(k.1==k'.1)=false by simpa using e]
  exact W.kat_no (oneLt_int h)
theorem cmp_prs {a₀:Array Keyed}(hu:A.units+2<cLine)(h:∀x∈a₀.toList,∃k,PrK s.heap k x.1):Cmp (model prog w) A s prOrd (kyP s.heap) (tuples' true) a₀:=by
 intro x hx y hy Q E hq
 obtain⟨k,hk⟩:=h x hx
 obtain⟨k',hk'⟩:=h y hy
 rw[kyP_is hk,kyP_is hk'] at hq
 exact cmp_pr hu hk hk' hq
end
end SO
namespace SO
open PySem PyProof PyProof.Rows HT
section
variable {prog:Program} {w:World} {A:Around} {E:Value->Shared->Prop} {s:Shared}
theorem tup_kept {h h':Heap}{a:Addr}{x:Array Value}(g:∀b o,h.get? b=some o->o.cls=.type "tuple"->h'.get? b=some o)(t:IsTup h a x):IsTup h' a x:=by
 obtain⟨o,e1,e2,e3⟩:=t
 exact⟨o,g a o e1 e2,e2,e3⟩
theorem PrK.kept {h h':Heap}{k:KP}{v:Value}(g:∀b o,h.get? b=some o->o.cls=.type "tuple"->h'.get? b=some o)(x:PrK h k v):PrK h' k v:=by
 obtain⟨a,b,t,i,rfl,h1,h2,h3⟩:=x
 exact⟨a,b,t,i,rfl,tup_kept g h1,tup_kept g h2,h3⟩
inductive PrKs (h:Heap):List KP->List Value->Prop
 |nil:PrKs h [] []
 |cons {k:KP} {v:Value} {ks:List KP} {vs:List Value}:PrK h k v->PrKs h ks vs->PrKs h (k::ks) (v::vs)
theorem PrKs.kept {h h':Heap}(g:∀b o,h.get? b=some o->o.cls=.type "tuple"->h'.get? b=some o):∀{ks:List KP} {vs:List Value},PrKs h ks vs->PrKs h' ks vs
 |_,_,.nil=>.nil
 |_,_,.cons x r=>.cons (x.kept g) (PrKs.kept g r)
theorem PrKs.mem {h:Heap}:∀{ks:List KP} {vs:List Value},PrKs h ks vs->∀v∈vs,∃k∈ks,PrK h k v
 |_,_,.cons x r,v,hv=>by
  rcases List.mem_cons.mp hv with rfl|hv
  ·exact⟨_,List.mem_cons_self,x⟩
  ·obtain⟨k,k1,k2⟩:=PrKs.mem r v hv
   exact⟨k,List.mem_cons_of_mem _ k1,k2⟩
theorem prs_firsts {h:Heap}:∀{ks:List KP} {vs:List Value},PrKs h ks vs->∃fs,W.KatTups h vs fs/\fs.length=vs.length/\∀f∈fs,∃n t,f=Value.int n t
 |_,_,.nil=>⟨[],W.KatTups.nil,rfl,fun f hf=>by cases hf⟩
 |_,_,.cons (k:=k) x r=>by
  obtain⟨fs,f1,f2,f3⟩:=prs_firsts r
  obtain⟨a,b,t,i,rfl,⟨o,e1,e2,n,e3⟩,h2,h3⟩:=x
  refine⟨.int k.1 t::fs,W.KatTups.cons e1 e2 e3 rfl f1,by rw[List.length_cons,List.length_cons,f2],fun f hf=>?_⟩
  rcases List.mem_cons.mp hf with rfl|hf
  ·exact⟨_,_,rfl⟩
  ·exact f3 f hf
theorem prs_kind {ks:List KP}{vs:List Value}{Q:SortKind->Shared->Prop}(x:PrKs s.heap ks vs)(hne:0<vs.length)(h:Q (tuples' true) s):wpAny (model prog w) A (keyKind' vs.toArray) Q E s:=by
 obtain⟨fs,f1,f2,f3⟩:=prs_firsts x
 refine W.kat_kind (T:=.type "int") f1 (by omega) (fun v hv=>?_) (by decide) ?_
 ·obtain⟨n,t,rfl⟩:=f3 v hv
  exact .now
 ·exact h
theorem pairs_mem {vs:List Value}{x:Keyed}(h:x∈(pairsOf vs).toList):x.1∈vs/\x.2=x.1:=by
 have:(pairsOf vs).toList=vs.zip vs:=by simp[pairsOf]
 rw[this] at h
 obtain⟨i,hi,e⟩:=List.mem_iff_getElem.mp h
 rw[List.getElem_zip] at e
 subst e
 exact⟨List.getElem_mem _,rfl⟩
end
end SO
namespace L2
open PySem PySem.Spec PyProof.Rows
section
variable {prog:Program} {w:World} {A:Around} {E:Value->Shared->Prop} {s:Shared}
def PairKey (P:Program)(w:World)(h:Heap)(k:Int×List Int)(a:Addr):Prop:=
 ∃o v b n,h.get? a=some o/\o.cls=.type "tuple"/\o.data=.seq #[v,.ref b] n/\numIs k.1 v=true/\IsTupleKey (numKind P w) h k.2 b
theorem PairKey.tup {k:Int×List Int}{a:Addr}(x:PairKey prog w s.heap k a):s.TypeIs (.ref a) "tuple":=let ⟨o,_,_,_,g,c,_⟩:=x;⟨o,g,c⟩
def pairHash (P:Program)(w:World)(k:Int×List Int):Int:=reduceHash (Builtin.Tuple.tupleHashOf [hashInt k.1,tupleKeyHash (numKind P w) k.2])
theorem pair_hash {k:Int×List Int}{a:Addr}{Q:Int->Shared->Prop}(hu:A.units+1<cLine)(hk:PairKey prog w s.heap k a)(h:Q (pairHash prog w k) { s with toks:=s.toks+(k.2.length+3) }):wpAny (model prog w) A (PySem.pyHash (.ref a)) Q E s:=by
 have tT:=hk.tup
 obtain⟨o,v,b,n,g,_,d,kv,kb⟩:=hk
 unfold PySem.pyHash
 first|unfold pyHashByItsType|skip
 refine wpAny_bind (wpAny_cRoomFor_or (.inr (by omega)) ?_)
 refine wpAny_bind (wpAny_specialOf tT PySem.F.slot_tuple_hash.lookup ?_)
 show wpAny _ _ (if (some (Value.builtin "tuple.__hash__")==some Value.none)=true then _ else _) Q E _
 rw[if_neg (by rw[beq_builtin_none];exact Bool.false_ne_true)]
 refine wpAny_bind (wpAny_specialOf tT PySem.F.slot_tuple_hash.lookup ?_)
 show wpAny _ _ (callSpecialIfBoundUnlessNone? (.ref a) "__hash__" _ >>= _) Q E _
 refine wpAny_bind (wpAny_callSpecialIfBoundUnlessNone?_slot tT PySem.F.slot_tuple_hash (wpAny_call_entry PySem.F.slot_tuple_hash tT PySem.F.entry_tuple_hash ?_ (PySem.F.args_tuple_hash_1 _)))
 show wpAny _ A.in1 (Builtin.Tuple.tupleItemsOf (.ref a) >>= _) _ _ _
 refine wpAny_bind (wpAny_tupleItemsOf g d ?_)
 refine wpAny_bind ?_
 rw[<- Array.forIn_toList]
 refine wpAny_forIn_list _ (fun rest (bb:Array Int) s'=>(rest=[v,.ref b]/\bb=#[]/\s'=s)\/(rest=[.ref b]/\bb=#[hashInt k.1]/\s'={ s with toks:=s.toks+1 })\/(rest=[]/\bb=#[hashInt k.1,tupleKeyHash (numKind prog w) k.2]/\s'={ s with toks:=s.toks+1+(k.2.length+1) })) _ ?_ ?_ _ _ (.inl ⟨rfl,rfl,rfl⟩)
 ·rintro x rest bb s' (⟨e,rfl,rfl⟩|⟨e,rfl,rfl⟩|⟨e,_,_⟩)
  ·cases e
   refine wpAny_bind ((numKind prog w).pyHash (k:=k.1) kv ?_)
   first
    |exact wpAny_pure (.inr (.inl ⟨rfl,rfl,rfl⟩))
    |exact wpAny_bind (wpAny_pure (wpAny_pure (.inr (.inl ⟨rfl,rfl,rfl⟩))))
  ·cases e
   refine wpAny_bind (wpAny_pyHash_tuple (knd:=numKind prog w) (ks:=k.2) (A:=A.in1) (s:={ s with toks:=s.toks+1 }) hu kb ?_)
   first
    |exact wpAny_pure (.inr (.inr ⟨rfl,rfl,rfl⟩))
    |exact wpAny_bind (wpAny_pure (wpAny_pure (.inr (.inr ⟨rfl,rfl,rfl⟩))))
  ·cases e
 ·rintro bb s' (⟨e,_,_⟩|⟨e,_,_⟩|⟨_,rfl,rfl⟩)
  ·cases e
  ·cases e
  show wpAny _ _ (retInt (Builtin.Tuple.tupleHashOf [hashInt k.1,tupleKeyHash (numKind prog w) k.2])) _ _ _
  refine wpAny_ret_mkInt ?_
  unfold pairHash reduceHash at h
  generalize Builtin.Tuple.tupleHashOf [hashInt k.1,tupleKeyHash (numKind prog w) k.2]=hv at h ⊢
  show wpAny _ _ (if (decide (-(2:Int) ^ 63<=hv)&&decide (hv<2 ^ 63))=true then _ else _) Q E _
  have et:s.toks+1+(k.2.length+1)+1=s.toks+(k.2.length+3):=by omega
  by_cases hr:(decide (-(2:Int) ^ 63<=hv)&&decide (hv<2 ^ 63))=true
  ·rw[if_pos hr] at h ⊢
   exact wpAny_pure (by simpa only[et] using h)
  ·rw[if_neg hr] at h ⊢
   exact wpAny_bind (wpAny_rule (wpAny_pure (by simpa only[et] using h)))
theorem PairKey.inj {h:Heap}{a:Addr}{x y:Int×List Int}(hx:PairKey prog w h x a)(hy:PairKey prog w h y a):x=y:=by
 obtain⟨o,v,b,n,g,c,d,kv,kb⟩:=hx
 obtain⟨o',v',b',n',g',c',d',kv',kb'⟩:=hy
 rw[g] at g'
 cases g'
 rw[d] at d'
 cases d'
 obtain⟨x1,x2⟩:=x
 obtain⟨y1,y2⟩:=y
 have e1:x1=y1:=(numKind prog w).inj v _ _ kv kv'
 have e2:x2=y2:=kb.inj kb'
 rw[e1,e2]
theorem pair_eq_tree {x y:Int×List Int}{a b:Addr}{P:Fin->Shared->Prop}(hu:A.units<cLine)(hx:PairKey prog w s.heap x a)(hy:PairKey prog w s.heap y b)(h:P (.done (.ret (.bool (decide (x=y))))) s):
  wpAny (model prog w) A (Builtin.«tuple.__eq__» ⟨[.ref a,.ref b],[]⟩) P E s:=by
 have tB:=hy.tup
 obtain⟨oa,v,p,na,ga,_,da,kv,kp⟩:=hx
 obtain⟨ob,v',p',nb,gb,_,db,kv',kp'⟩:=hy
 obtain⟨x1,x2⟩:=x
 obtain⟨y1,y2⟩:=y
 show wpAny _ _ (isInstance (.ref b) (.type "tuple") >>= _) _ _ _
 refine wpAny_bind (wpAny_isInstance tB isSubtype_tuple_tuple ?_)
 simp only[Bool.not_true,Bool.false_eq_true,if_false]
 refine wpAny_bind (wpAny_tupleItemsOf ga da (wpAny_bind (wpAny_tupleItemsOf gb db ?_)))
 refine wpAny_bind ?_
 refine wpAny_forIn_list _ (fun rest r s'=>r.1=none/\s'=s/\((rest=[(v,v'),(Value.ref p,Value.ref p')])\/(rest=[(Value.ref p,Value.ref p')]/\x1=y1)\/(rest=[]/\x1=y1/\x2=y2))) _ ?_ ?_ _ _ ⟨rfl,rfl,.inl rfl⟩
 ·rintro⟨q,q'⟩ rest r s' ⟨hr,rfl,(e|⟨e,e1⟩|⟨e,_⟩)⟩
  ·cases e
   refine wpAny_bind ((numKind prog w).eqBool (a:=x1) (b:=y1) kv kv' ?_)
   by_cases hk:x1=y1
   ·rw[decide_eq_true hk]
    simp only[Bool.not_true,Bool.false_eq_true,if_false]
    exact wpAny_pure ⟨rfl,rfl,.inr (.inl ⟨by first|rfl|trivial,hk⟩)⟩
   ·rw[decide_eq_false hk]
    simp only[Bool.not_false,if_true]
    have hf:decide ((x1,x2)=(y1,y2))=false:=decide_eq_false fun z=>hk (Prod.mk.inj z).1
    rw[hf] at h
    exact wpAny_bind (wpAny_pure (wpAny_pure (wpAny_pure h)))
  ·cases e
   refine wpAny_bind (wpAny_eqBool_tuple (knd:=numKind prog w) (x:=x2) (y:=y2) hu kp kp' ?_)
   by_cases hk:x2=y2
   ·rw[decide_eq_true hk]
    simp only[Bool.not_true,Bool.false_eq_true,if_false]
    exact wpAny_pure ⟨rfl,rfl,.inr (.inr ⟨by first|rfl|trivial,e1,hk⟩)⟩
   ·rw[decide_eq_false hk]
    simp only[Bool.not_false,if_true]
    have hf:decide ((x1,x2)=(y1,y2))=false:=decide_eq_false fun z=>hk (Prod.mk.inj z).2
    rw[hf] at h
    exact wpAny_bind (wpAny_pure (wpAny_pure (wpAny_pure h)))
  ·cases e
 ·rintro⟨r1,r2⟩ s' ⟨hr,rfl,(e|⟨e,_⟩|⟨_,e1,e2⟩)⟩
  ·cases e
  ·cases e
  simp only at hr
  subst hr
  refine wpAny_pure ?_
  show P (.done (.ret (.bool (2==2)))) s'
  have ht:decide ((x1,x2)=(y1,y2))=true:=decide_eq_true (by rw[e1,e2])
  rw[ht] at h
  exact h
theorem pair_eq {x y:Int×List Int}{a b:Addr}{Q:Bool->Shared->Prop}(hu:A.units+1<cLine)(hx:PairKey prog w s.heap x a)(hy:PairKey prog w s.heap y b)(h:Q (decide (x=y)) s):
  wpAny (model prog w) A (PySem.eqBool (.ref a) (.ref b)) Q E s:=by
 unfold PySem.eqBool
 try with_reducible refine wpAny_holding ?_
 show wpAny _ _ (if (Value.ref a==Value.ref b)=true then _ else _) Q E _
 by_cases hab:(Value.ref a==Value.ref b)=true
 ·rw[if_pos hab]
  have e:a=b:=by have:=eq_of_beq hab;injection this
  subst e
  obtain rfl:=hx.inj hy
  exact wpAny_bind (wpAny_rule (wpAny_pure (by simpa using h)))
 ·rw[if_neg hab]
  exact wpAny_bind (wpAny_richCompare_same_room (op:=.Eq) hx.tup hy.tup PySem.F.slot_tuple_eq
   (wpAny_call_entry PySem.F.slot_tuple_eq hx.tup PySem.F.entry_tuple_eq (pair_eq_tree (A:=A.in1) hu hx hy ⟨_,rfl,(fun e=>nomatch e),wpAny_truthy_bool h⟩) (PySem.F.args_tuple_eq_2 _ _)) (by omega))
theorem flat_quiet {n:Nat}{ks:List Int}{a:Addr}{Q:Bool->Shared->Prop}(hk:IsTupleKey (numKind prog w) s.heap ks a)(h:Q true s):wpAny (model prog w) A (eqIsQuiet (n+1) (.ref a)) Q E s:=by
 have tT:=hk.typeIs
 obtain⟨o,items,m,g,_,d,hi⟩:=hk
 unfold eqIsQuiet
 refine wpAny_bind (wpAny_specialOf tT PySem.F.slot_tuple_eq.lookup ?_)
 show wpAny _ _ (isInstance (.ref a) (.type "tuple") >>= _) _ _ _
 refine wpAny_bind (wpAny_isInstance tT isSubtype_tuple_tuple ?_)
 simp only[Bool.not_true,Bool.false_eq_true,if_false]
 refine wpAny_bind (wpAny_seqItems g d (wpAny_bind ?_))
 show wpAny _ _ (forIn items _ _) _ _ _
 rw[<- Array.forIn_toList]
 refine wpAny_forIn_list _ (fun rest r s'=>r.1=none/\s'=s/\∀v∈rest,carriedByValue v=true) _ ?_ ?_ _ _ ⟨rfl,rfl,hi.byValue⟩
 ·rintro v rest r s' ⟨hr,rfl,al⟩
  rw[eqIsQuiet_byValue _ (al v List.mem_cons_self)]
  refine wpAny_bind (wpAny_pure ?_)
  simp only[Bool.not_true,Bool.false_eq_true,if_false]
  exact wpAny_pure ⟨rfl,rfl,fun u hu=>al u (List.mem_cons_of_mem _ hu)⟩
 ·rintro⟨r1,r2⟩ s' ⟨hr,rfl,_⟩
  simp only at hr
  subst hr
  exact wpAny_pure h
theorem pair_quiet {k:Int×List Int}{a:Addr}{Q:Bool->Shared->Prop}(hk:PairKey prog w s.heap k a)(h:Q true s):wpAny (model prog w) A (eqIsQuiet 8 (.ref a)) Q E s:=by
 have tT:=hk.tup
 obtain⟨o,v,b,m,g,_,d,kv,kb⟩:=hk
 have cv:carriedByValue v=true:=(numKind prog w).byValue _ _ kv
 unfold eqIsQuiet
 refine wpAny_bind (wpAny_specialOf tT PySem.F.slot_tuple_eq.lookup ?_)
 show wpAny _ _ (isInstance (.ref a) (.type "tuple") >>= _) _ _ _
 refine wpAny_bind (wpAny_isInstance tT isSubtype_tuple_tuple ?_)
 simp only[Bool.not_true,Bool.false_eq_true,if_false]
 refine wpAny_bind (wpAny_seqItems g d (wpAny_bind ?_))
 show wpAny _ _ (forIn #[v,Value.ref b] _ _) _ _ _
 rw[<- Array.forIn_toList]
 refine wpAny_forIn_list _ (fun rest r s'=>r.1=none/\s'=s/\(rest=[v,.ref b]\/rest=[.ref b]\/rest=[])) _ ?_ ?_ _ _ ⟨rfl,rfl,.inl rfl⟩
 ·rintro x rest r s' ⟨hr,rfl,(e|e|e)⟩
  ·cases e
   rw[eqIsQuiet_byValue _ cv]
   refine wpAny_bind (wpAny_pure ?_)
   simp only[Bool.not_true,Bool.false_eq_true,if_false]
   exact wpAny_pure ⟨rfl,rfl,.inr (.inl (by first|rfl|trivial))⟩
  ·cases e
   refine wpAny_bind (flat_quiet (n:=6) kb ?_)
   simp only[Bool.not_true,Bool.false_eq_true,if_false]
   exact wpAny_pure ⟨rfl,rfl,.inr (.inr (by first|rfl|trivial))⟩
  ·cases e
 ·rintro⟨r1,r2⟩ s' ⟨hr,rfl,_⟩
  simp only at hr
  subst hr
  exact wpAny_pure h
end
def pairKind (prog:Program)(w:World):HeapKind prog w (Int×List Int) where
 is:=PairKey prog w
 hash:=pairHash prog w
 draws:=fun k=>k.2.length+3
 room:=fun A=>A.units+1<cLine
 inj:=fun hx hy=>hx.inj hy
 keeps:=fun {h h' k a d o es ep} x ho hd hs=>by
  obtain⟨o',v,b,n,g,c,dd,kv,kb⟩:=x
  have ne:a≠d:=by
   rintro rfl
   rw[ho] at g
   cases g
   rw[hd] at dd
   cases dd
  exact⟨o',v,b,n,(hs.2 a ne).trans g,c,dd,kv,kb.keeps ho hd hs⟩
 pyHash:=fun hu hk h=>pair_hash hu hk h
 eqBool:=fun hu hx hy h=>pair_eq hu hx hy h
 quiet:=fun hk h=>pair_quiet hk h
section
variable {prog:Program} {w:World} {K:Type} [DecidableEq K] {knd:HeapKind prog w K} {A:Around} {E:Value->Shared->Prop} {s:Shared}
theorem setdef_heap {d a:Addr}{xs:List (K×Addr×Value)}{k:K}{v:Value}{Q:Value->Shared->Prop}(hu:knd.room A)(hkey:knd.is s.heap k a)(hm:s.heap.DictOfH knd d xs)(hsz:xs.length<=sizeLine)
  (h1:∀p,atKey xs k=some p->Q p.2 { s with toks:=s.toks+knd.draws k })
  (h2:atKey xs k=none->∀h',h'.DictOfH knd d (xs++[(k,a,v)])->Heap.SameBut d s.heap h'->Q v { s with heap:=h',toks:=s.toks+knd.draws k }):
  wpAny (model prog w) A (dictSetDefault d (.ref a) v) Q E s:=by
 obtain⟨o,es,ep,ho,hc,hd,he,his,hn⟩:=hm
 unfold dictSetDefault
 try with_reducible refine wpAny_holding ?_
 refine wpAny_bind (knd.pyHash hu hkey (wpAny_bind (wpAny_dictFind_heap (s:={ s with toks:=s.toks+knd.draws k }) hu hkey ho hd he his hn ?_ ?_)))
 ·intro hno
  have en:=atKey_none_of_get hno
  have hnot:k∉xs.map (·.1):=not_mem_keys_of_get hno
  refine wpAny_bind (wpAny_rule (wpAny_bind (wpAny_updateDictKeys (hz:=by have e:=size_of_entries he;omega) (s:={ s with toks:=s.toks+knd.draws k }) ho hd (wpAny_pure (h2 en _ ⟨_,_,ep+1,Heap.get?_update_self _ ho (Obj.isFreed_of_dict (Obj.data_mapDictKeys hd _)),hc.mapDictKeys _,Obj.data_mapDictKeys hd _,?_,?_,?_⟩ (Heap.SameBut.update ..))))))
  ·simp[he,entryOfKey]
  ·intro x hx
   rcases List.mem_append.mp hx with hx|hx
   ·exact knd.keeps (his x hx) ho hd (Heap.SameBut.update ..)
   ·rw[List.mem_singleton] at hx
    subst hx
    exact knd.keeps hkey ho hd (Heap.SameBut.update ..)
  ·rw[List.map_append,List.nodup_append]
   refine⟨hn,by simp,fun x hx y hy=>?_⟩
   have:y=k:=by simpa using hy
   subst this
   exact fun e=>hnot (e▸hx)
 ·intro j p hj
  refine wpAny_bind (wpAny_dictEntries (s:={ s with toks:=s.toks+knd.draws k }) ho hd ?_)
  rw[entry_at he j,hj]
  exact wpAny_bind (wpAny_rule (wpAny_pure (h1 p (atKey_of_get hn hj))))
theorem meets_setdefH (d a:Addr)(hd:(d==sysModules)=false)(v:Value):
  MeetsIn prog w (Builtin.«dict.setdefault» ⟨[.ref d,.ref a,v],[]⟩) (fun A R s=>knd.room A.in1/\∃k xs,knd.is s.heap k a/\s.heap.DictOfH knd d xs/\xs.length<=sizeLine∧
   (∀p,atKey xs k=some p->R (.ok (.ret p.2)) { s with toks:=s.toks+knd.draws k })∧
   (atKey xs k=none->∀h',h'.DictOfH knd d (xs++[(k,a,v)])->Heap.SameBut d s.heap h'->R (.ok (.ret v)) { s with heap:=h',toks:=s.toks+knd.draws k })):=
 .of_wp fun A R s ⟨hu,k,xs,hk,hm,hz,h1,h2⟩=>by
  unfold Builtin.«dict.setdefault»
  refine wpAny_bind ?_
  unfold Builtin.Dict.keyAndDefault
  refine wpAny_bind (wpAny_notOrdered_dict hm.typeIs (wpAny_pure ?_))
  show wpAny _ _ (if (d==sysModules)=true then _ else(dictSetDefault d (.ref a) v >>= _)) _ _ _
  rw[if_neg (by rw[hd];exact Bool.false_ne_true)]
  exact wpAny_bind (setdef_heap hu hk hm hz (fun p hp=>wpAny_pure ⟨p.2,rfl,h1 p hp⟩) fun hn h' hm' hs'=>wpAny_pure ⟨v,rfl,h2 hn h' hm' hs'⟩)
end
end L2
namespace L2
open PySem PySem.Spec PyProof.Rows
abbrev KP:=Int×List Int
def PKy (H:Hp)(k:KP)(b:Addr):Prop:=∃v c vs,H b=some (.tup [v,.ref c])/\nV v=some k.1/\H c=some (.tup vs)/\Nums vs k.2
abbrev PRel:KP×Addr×V->KP×Addr×Value->Prop:=fun p q=>p.1=q.1/\p.2.1=q.2.1/\RelV p.2.2 q.2.2
def PD (P:Program)(w:World)(a:Addr)(xs:List (KP×Addr×V)):HO:=.ext fun h=>xs.length<=sizeLine/\(a==sysModules)=false/\∃us,Paired PRel xs us∧
 ∃o es ep,h.get? a=some o/\o.ExactDict/\o.data=.dict es ep/\es.toList=us.map (entryOfKey (pairKind P w))/\(us.map (·.1)).Nodup
def PKs (H:Hp)(xs:List (KP×Addr×V)):Prop:=∀x∈xs,PKy H x.1 x.2.1
theorem PKy.same {H H':Hp}{k:KP}{b:Addr}(h:PKy H k b)(s:∀c ys,H c=some (.tup ys)->H' c=some (.tup ys)):PKy H' k b:=by
 obtain⟨v,c,vs,h1,h2,h3,h4⟩:=h
 exact⟨v,c,vs,s _ _ h1,h2,s _ _ h3,h4⟩
theorem pk_is {P:Program}{w:World}{H:Hp}{h:Heap}{k:KP}{b:Addr}(ok:HOk P w H h)(e:PKy H k b):PairKey P w h k b:=by
 obtain⟨v,c,vs,h1,h2,h3,h4⟩:=e
 obtain⟨_,its,r,o,g1,g2,n,g3⟩:=(show ObjOk P w H h b (.tup [v,.ref c]) from ok b _ h1)
 obtain⟨_,jts,r',o',f1,f2,m,f3⟩:=(show ObjOk P w H h c (.tup vs) from ok c _ h3)
 cases r with
 |@cons _ u _ us ru t=>
  cases t with
  |@cons _ u2 _ us2 ru2 t2=>
   cases t2
   cases ru2
   exact⟨o,u,c,n,g1,g2,g3,nV_is (P:=P) (w:=w) h2 ru,o',jts.toArray,m,f1,f2,f3,by simpa using nums_are h4 r'⟩
def atP (xs:List (KP×Addr×V))(k:KP):Option V:=(xs.find? fun x=>decide (x.1=k)).map (·.2.2)
theorem prel_at {xs:List (KP×Addr×V)}{us:List (KP×Addr×Value)}(r:Paired PRel xs us)(k:KP):RelO (atP xs k) ((atKey us k).map (·.2)):=by
 induction r with
 |nil=>exact True.intro
 |@cons p q ps qs h t ih=>
  obtain⟨h1,h2,h3⟩:=h
  by_cases e:p.1=k
  ·have e':q.1=k:=h1.symm.trans e
   have b:atKey (q::qs) k=some q.2:=by simp[atKey,List.find?_cons,e']
   have c:atP (p::ps) k=some p.2.2:=by simp[atP,List.find?_cons,e]
   rw[b,c];exact h3
  ·have e':¬q.1=k:=fun z=>e (h1.trans z)
   have b:atKey (q::qs) k=atKey qs k:=by simp[atKey,List.find?_cons,e']
   have c:atP (p::ps) k=atP ps k:=by simp[atP,List.find?_cons,e]
   rw[b,c];exact ih
section
variable {X:Cx} {pins:List (Addr×Obj)} {σ:St} {H:Hp} {s:Shared} {a:Addr} {xs:List (KP×Addr×V)}
theorem pd_of (I:Inv X pins σ H s)(e:H a=some (PD X.prog X.w a xs))(hk:PKs H xs):xs.length<=sizeLine/\(a==sysModules)=false/\∃us,Paired PRel xs us/\s.heap.DictOfH (pairKind X.prog X.w) a us:=by
 obtain⟨z,hd,us,r,o,es,ep,g1,g2,g3,g4,g5⟩:=(show ObjOk X.prog X.w H s.heap a (PD X.prog X.w a xs) from I.hok _ _ e).1
 refine⟨z,hd,us,r,o,es,ep,g1,g2,g3,g4,?_,g5⟩
 clear g4 g5 z e
 induction r with
 |nil=>intro x hx;cases hx
 |@cons p q ps qs h t ih=>
  intro x hx
  rcases List.mem_cons.mp hx with rfl|hx
  ·have:=pk_is I.hok (hk p List.mem_cons_self)
   rw[h.1,h.2.1] at this
   exact this
  ·exact ih (fun y hy=>hk y (List.mem_cons_of_mem _ hy)) x hx
theorem pd_new {P:Program}{w:World}{H:Hp}{h:Heap}{us:List (KP×Addr×Value)}(z:xs.length<=sizeLine)(hd:(a==sysModules)=false)(r:Paired PRel xs us)(dd:h.DictOfH (pairKind P w) a us):ObjOk P w H h a (PD P w a xs):=by
 obtain⟨o,es,ep,g1,g2,g3,g4,_,g5⟩:=dd
 exact⟨⟨z,hd,us,r,o,es,ep,g1,g2,g3,g4,g5⟩,⟨o,g1⟩,fun h1 h2 ⟨z,hd,us,r,o,es,ep,g1,m⟩ k=>⟨z,hd,us,r,o,es,ep,k o g1,m⟩⟩
def tPNew (P:Program)(w:World):TE:=fun _ H Q=>∀p,H p=none->Q (.ref p) (upd H p (PD P w p []))
theorem pe_pnew {pos:Pos}:PE X (.Dict [] [] pos) (tPNew X.prog X.w):=fun pins s σ H Q I h=>
 wpAny_Dict_empty ⟨.ref s.heap.objs.size,_,I.laid (a:=s.heap.objs.size) (o:=PD X.prog X.w s.heap.objs.size []) (t':=s.toks) (fun _ _ q=>Heap.get?_push_of_some _ q) (Nat.le_refl _)
  (pd_new (Nat.zero_le _) (beq_eq_false_iff_ne.mpr (Ne.symm (Nat.ne_of_lt I.big))) .nil (Heap.DictOfH.new s.heap)),rfl,h _ (I.hok.fresh (Nat.le_refl _))⟩
theorem call_lenP:CallR X (.builtin "len") (fun vs H Q=>∃a xs,vs=[V.ref a]/\H a=some (PD X.prog X.w a xs)/\PKs H xs/\Q (.int xs.length) H):=by
 intro pins s σ H vs us Q I r h
 obtain⟨a,xs,rfl,ha,hk,q⟩:=h
 obtain⟨u,rfl,ru⟩:=vals1 r
 cases ru
 obtain⟨z,hd,us,rel,o,es,ep,g1,g2,g3,g4,_⟩:=pd_of I ha hk
 have hl:es.size=xs.length:=by
  rw[size_of_entries g4,Paired.length rel]
 have tD:s.TypeIs (.ref a) "dict":=⟨o,g1,g2.1⟩
 have szb:(es.size:Int)<2 ^ 63:=by rw[hl];rw[sizeLine_eq] at z;omega
 refine Calls.call_function_entry kind_len plain_len entry_len (args_len1 _) ?_
 unfold Builtin.«len»
 refine wpAny_bind (m:=oneArg "len" _) (wpAny_pure ?_)
 refine wpAny_bind (m:=callSpecial? (.ref a) (Str.ofString "__len__")) (wpAny_callSpecial?_slot (name:=Str.ofString "__len__") tD PySem.F.slot_dict_len (wpAny_call_entry PySem.F.slot_dict_len tD PySem.F.entry_dict_len ?_ (PySem.F.args_dict_len_1 _)))
 show wpAny _ _ (dictSize a >>= _) _ _ s
 unfold dictSize
 refine wpAny_bind (wpAny_bind (wpAny_dictEntries g1 g3 (wpAny_pure ?_)))
 show wpAny _ _ (Builtin.Dict.pendingCount a >>= _) _ _ s
 refine wpAny_bind (wpAny_pendingCount_other hd (wpAny_ret_mkInt ?_))
 refine wpAny_bind (wpAny_holding (wpAny_pure (wpAny_bind (wpAny_letGo ?_))))
 show wpAny _ _ (if ((es.size:Nat):Int)+((0:Nat):Int)<0 then _ else _) _ _ _
 rw[if_neg (by omega)]
 show wpAny _ _ (if ((es.size:Nat):Int)+((0:Nat):Int)≥2 ^ 63 then _ else _) _ _ _
 rw[if_neg (by omega)]
 refine wpAny_bind (wpAny_mkInt (wpAny_pure ⟨_,rfl,.int xs.length,H,(I.tok _).tok _,⟨s.toks+1,?_⟩,q⟩))
 rw[hl]
 simp
def tSetDef (P:Program)(w:World)(td ty tx:TE):TE:=fun σ H Q=>td σ H fun x H1=>∃a xs0,x=.ref a/\H1 a=some (PD P w a xs0)/\PKs H1 xs0/\ty σ H1 fun y H2=>tx σ H2 fun v H3=>∃xs b k,y=.ref b/\H3 a=some (PD P w a xs)/\PKs H3 xs/\PKy H3 k b/\xs.length<sizeLine∧
 (∀u,atP xs k=some u->Q u H3)/\(atP xs k=none->Q v (upd H3 a (PD P w a (xs++[(k,b,v)]))))
theorem pe_setdef {o e f:Expr}{apos cpos:Pos}{td ty tx:TE}(hu:X.A.units+2<cLine)(ho:PE X o td)(he:PE X e ty)(hf:PE X f tx)(m:M2 X o "setdefault" apos e f cpos):PE X (.Call (.Attribute o "setdefault" apos) [e,f] [] cpos) (tSetDef X.prog X.w td ty tx):=by
 intro pins s σ H Q I h
 refine wpAny_Call_method m.base m.few m.line PySem.F.plainAttrs_dict PySem.F.slot_dict_setdefault PySem.F.type_dict_setdefault (thn (ho pins s σ H _ I h) fun u s1 ⟨x,H1,I1,rx,a,xs0,ex,d,dk,q1⟩=>?_)
 subst ex
 obtain rfl:u=Value.ref a:=rx
 obtain⟨_,hd0,us0,_,dd0⟩:=pd_of I1 d dk
 refine⟨dd0.typeIs,fun c ec=>?_,?_⟩
 ·cases ec
  obtain⟨ob,_,_,g1,g2,_⟩:=dd0
  exact⟨ob,g1,g2.2.1⟩
 rw[m.trees]
 refine Calls.callWith_builtin rfl (Calls.evalArgs_plain (Calls.spliced_cons (thn (he pins s1 σ H1 _ I1 q1) fun iv s2 ⟨y,H2,I2,ry,q2⟩=>Calls.spliced_cons (thn (hf pins s2 σ H2 _ I2 q2) fun fv s3 ⟨v,H3,I3,rz,xs,b,k,ey,e3,hk,kb,hlt,q3,q4⟩=>Calls.spliced_nil ?_))))
 subst ey
 obtain rfl:iv=Value.ref b:=ry
 obtain⟨z,hd,us,rel,dd⟩:=pd_of I3 e3 hk
 refine call_meetsIn PySem.F.slot_dict_setdefault dd.typeIs PySem.F.entry_dict_setdefault (PySem.F.args_dict_setdefault_3 _ _ _) (meets_setdefH (knd:=pairKind X.prog X.w) a b hd fv) ⟨(by show X.A.units+1+1<cLine;omega),k,us,pk_is I3.hok kb,dd,by rw[<- Paired.length rel];exact z,fun p hp=>?_,fun hn h' dd' hs=>?_⟩
 ·have r:=prel_at rel k
  rw[hp] at r
  cases ea:atP xs k with
  |none=>rw[ea] at r;exact r.elim
  |some u=>rw[ea] at r;exact⟨u,H3,I3.tok _,r,q3 u ea⟩
 ·have r:=prel_at rel k
  rw[hn] at r
  cases ea:atP xs k with
  |some u=>rw[ea] at r;exact r.elim
  |none=>
   have he:∃q,h'.get? a=some q:=let ⟨q,_,_,hq,_⟩:=dd';⟨q,hq⟩
   exact⟨v,_,d_write I3 (by rw[e3];exact True.intro) hs he (pd_new (by rw[List.length_append];exact hlt) hd (Paired.snoc rel ⟨rfl,rfl,rz⟩) dd'),rz,q4 ea⟩
end
end L2
namespace L2
open PySem PySem.Spec PyProof.Rows
abbrev KTu:=List Int
def TKy (H:Hp)(k:KTu)(b:Addr):Prop:=∃vs,H b=some (.tup vs)/\Nums vs k
abbrev TRel:KTu×Addr×V->KTu×Addr×Value->Prop:=fun p q=>p.1=q.1/\p.2.1=q.2.1/\RelV p.2.2 q.2.2
def TOk (P:Program)(w:World)(xs:List (KTu×Addr×V))(o:Obj):Prop:=xs.length<=sizeLine/\o.ExactDict/\∃us es ep,Paired TRel xs us/\o.data=.dict es ep/\es.toList=us.map (entryOfKey (tupleKind (numKind P w)))/\(us.map (·.1)).Nodup
def TD (P:Program)(w:World)(a:Addr)(xs:List (KTu×Addr×V))(o:Obj):HO:=.ext fun h=>h.get? a=some o/\(a==sysModules)=false/\TOk P w xs o
def TKs (H:Hp)(xs:List (KTu×Addr×V)):Prop:=∀x∈xs,TKy H x.1 x.2.1
theorem tk_is {P:Program}{w:World}{H:Hp}{h:Heap}{k:KTu}{b:Addr}(ok:HOk P w H h)(e:TKy H k b):IsTupleKey (numKind P w) h k b:=by
 obtain⟨vs,h3,h4⟩:=e
 obtain⟨_,jts,r',o',f1,f2,m,f3⟩:=(show ObjOk P w H h b (.tup vs) from ok b _ h3)
 exact⟨o',jts.toArray,m,f1,f2,f3,by simpa using nums_are h4 r'⟩
section
variable {X:Cx} {pins:List (Addr×Obj)} {σ:St} {H:Hp} {s:Shared} {a:Addr} {xs:List (KTu×Addr×V)} {o:Obj}
theorem td_at (I:Inv X pins σ H s)(e:H a=some (TD X.prog X.w a xs o)):s.heap.get? a=some o/\(a==sysModules)=false/\TOk X.prog X.w xs o:=
 (show ObjOk X.prog X.w H s.heap a (TD X.prog X.w a xs o) from I.hok _ _ e).1
theorem td_of (I:Inv X pins σ H s)(e:H a=some (TD X.prog X.w a xs o))(hk:TKs H xs):xs.length<=sizeLine/\(a==sysModules)=false/\∃us,Paired TRel xs us/\s.heap.DictOfH (tupleKind (numKind X.prog X.w)) a us:=by
 obtain⟨g1,hd,z,g2,us,es,ep,r,g3,g4,g5⟩:=td_at I e
 refine⟨z,hd,us,r,o,es,ep,g1,g2,g3,g4,?_,g5⟩
 clear g4 g5 z e
 induction r with
 |nil=>intro x hx;cases hx
 |@cons p q ps qs h t ih=>
  intro x hx
  rcases List.mem_cons.mp hx with rfl|hx
  ·have:=tk_is I.hok (hk p List.mem_cons_self)
   rw[h.1,h.2.1] at this
   exact this
  ·exact ih (fun y hy=>hk y (List.mem_cons_of_mem _ hy)) x hx
theorem td_new {P:Program}{w:World}{h:Heap}{us:List (KTu×Addr×Value)}(z:xs.length<=sizeLine)(hd:(a==sysModules)=false)(r:Paired TRel xs us)(dd:h.DictOfH (tupleKind (numKind P w)) a us):∃o,∀H,ObjOk P w H h a (TD P w a xs o):=by
 obtain⟨o,es,ep,g1,g2,g3,g4,_,g5⟩:=dd
 exact⟨o,fun H=>⟨⟨g1,hd,z,g2,us,es,ep,r,g3,g4,g5⟩,⟨o,g1⟩,fun h1 h2 ⟨e,m⟩ k=>⟨k o e,m⟩⟩⟩
def tTNew (P:Program)(w:World):TE:=fun _ H Q=>∀p o,H p=none->Q (.ref p) (upd H p (TD P w p [] o))
theorem pe_tnew {pos:Pos}:PE X (.Dict [] [] pos) (tTNew X.prog X.w):=fun pins s σ H Q I h=>by
 obtain⟨o,ho⟩:=td_new (P:=X.prog) (w:=X.w) (xs:=[]) (Nat.zero_le _) (beq_eq_false_iff_ne.mpr (Ne.symm (Nat.ne_of_lt I.big))) .nil (Heap.DictOfH.new s.heap)
 exact wpAny_Dict_empty ⟨.ref s.heap.objs.size,_,I.laid (a:=s.heap.objs.size) (o:=TD X.prog X.w s.heap.objs.size [] o) (t':=s.toks) (fun _ _ q=>Heap.get?_push_of_some _ q) (Nat.le_refl _) (ho _),rfl,h _ _ (I.hok.fresh (Nat.le_refl _))⟩
end
section
variable {prog:Program} {w:World} {A:Around} {E:Value->Shared->Prop} {s:Shared}
theorem next_keys_item {it d:Addr}{i ep:Nat}{od:Obj}{es:Array DictEntry}{e:DictEntry}{Q:Option Value->Shared->Prop}(hit:s.heap.IsKeyIter it d i es.size ep)
  (hod:s.heap.get? d=some od) (hdd:od.data=.dict es ep) (hx:es[i]?=some e)
  (hQ:∀h',h'.IsKeyIter it d (i+1) es.size ep->Heap.SameBut it s.heap h'->Q (some e.key) { s with heap:=h' }):
  wpAny (model prog w) A (pyNext (.ref it)) Q E s:=by
 obtain⟨o,ho,hc,hd⟩:=id hit
 unfold pyNext
 refine wpAny_bind (wpAny_attempt (wpAny_callSpecial?_slot (name:=Str.ofString "__next__") hit.typeIs F.slot_dict_keyiterator_next
  (wpAny_call_entry F.slot_dict_keyiterator_next hit.typeIs F.entry_dict_keyiterator_next ?_ (F.args_dict_keyiterator_next_1 _))))
 refine wpAny_bind (wpAny_pure ?_)
 refine wpAny_bind ?_
 refine wpAny_bind ?_
 first|refine wpAny_bind (wpAny_typeNameOfWhole_keyiter hit.typeIs (wpAny_pure ?_))|refine wpAny_bind (wpAny_typeNameOf_keyiter hit.typeIs (wpAny_pure ?_))
 refine wpAny_bind (wpAny_fieldsOf ho hd ?_)
 have hown:Builtin.Dict_items.ownsTuple "dict_keyiterator"=false:=by decide
 simp only[hown,Bool.false_eq_true,if_false]
 show wpAny _ _ (if (Value.ref d==Value.none)=true then _ else _) _ _ s
 rw[if_neg (show ¬((Value.ref d==Value.none)=true) from Bool.false_ne_true)]
 refine wpAny_bind (wpAny_pure ?_)
 refine wpAny_bind (wpAny_dictEntries hod hdd ?_)
 rw[if_neg (by simp)]
 refine wpAny_bind (wpAny_pure ?_)
 refine wpAny_bind (wpAny_dictEpoch hod hdd ?_)
 rw[if_neg (by simp)]
 refine wpAny_pure ?_
 simp only[show ¬((i:Int)<0) from by omega,if_false,Int.toNat_natCast,hx]
 refine wpAny_bind ?_
 first|refine wpAny_bind (wpAny_typeNameOfWhole_keyiter hit.typeIs (wpAny_pure ?_))|refine wpAny_bind (wpAny_typeNameOf_keyiter hit.typeIs (wpAny_pure ?_))
 refine wpAny_bind (wpAny_isOneOf_keyiter hit.typeIs ?_)
 show wpAny _ _ (setField (.ref it) 1 (rawInt ((i:Int)+1)) >>= _) _ _ s
 refine wpAny_bind (wpAny_setField ho hd (by simp) ?_)
 have hit':(s.heap.update it (Obj.mapFields (·.setIfInBounds 1 (rawInt ((i:Int)+1))))).IsKeyIter it d (i+1) es.size ep:=
  ⟨_,Heap.get?_update_self _ ho (Obj.isFreed_of_fields (Obj.data_mapFields hd _)),(Obj.cls_mapFields ..).trans hc,by rw[Obj.data_mapFields hd];simp[rawInt]⟩
 refine wpAny_bind (wpAny_holding ?_)
 refine wpAny_bind (wpAny_isOneOf_keyiter (s:={ s with heap:=s.heap.update it (Obj.mapFields (·.setIfInBounds 1 (rawInt ((i:Int)+1)))) }) hit'.typeIs ?_)
 show wpAny _ _ (pure e.key) _ _ _
 exact wpAny_pure (wpAny_pure ⟨_,rfl,wpAny_pure (hQ _ hit' (Heap.SameBut.update ..))⟩)
theorem next_keys_end {it d:Addr}{i ep:Nat}{od:Obj}{es:Array DictEntry}{Q:Option Value->Shared->Prop}(hh:A.handled=none)(hit:s.heap.IsKeyIter it d i es.size ep)
  (hod:s.heap.get? d=some od) (hdd:od.data=.dict es ep) (hge:es.size<=i)
  (hQ:∀h',Heap.ExtBut it s.heap h'->Q none { s with heap:=h' }):wpAny (model prog w) A (pyNext (.ref it)) Q E s:=by
 obtain⟨o,ho,hc,hd⟩:=id hit
 unfold pyNext
 refine wpAny_bind (wpAny_attempt (wpAny_callSpecial?_slot (name:=Str.ofString "__next__") hit.typeIs F.slot_dict_keyiterator_next
  (wpAny_call_entry F.slot_dict_keyiterator_next hit.typeIs F.entry_dict_keyiterator_next ?_ (F.args_dict_keyiterator_next_1 _))))
 refine wpAny_bind (wpAny_pure ?_)
 refine wpAny_bind ?_
 refine wpAny_bind ?_
 first|refine wpAny_bind (wpAny_typeNameOfWhole_keyiter hit.typeIs (wpAny_pure ?_))|refine wpAny_bind (wpAny_typeNameOf_keyiter hit.typeIs (wpAny_pure ?_))
 refine wpAny_bind (wpAny_fieldsOf ho hd ?_)
 have hown:Builtin.Dict_items.ownsTuple "dict_keyiterator"=false:=by decide
 simp only[hown,Bool.false_eq_true,if_false]
 show wpAny _ _ (if (Value.ref d==Value.none)=true then _ else _) _ _ s
 rw[if_neg (show ¬((Value.ref d==Value.none)=true) from Bool.false_ne_true)]
 refine wpAny_bind (wpAny_pure ?_)
 refine wpAny_bind (wpAny_dictEntries hod hdd ?_)
 rw[if_neg (by simp)]
 refine wpAny_bind (wpAny_pure ?_)
 refine wpAny_bind (wpAny_dictEpoch hod hdd ?_)
 rw[if_neg (by simp)]
 refine wpAny_pure ?_
 simp only[show ¬((i:Int)<0) from by omega,if_false,Int.toNat_natCast,Array.getElem?_eq_none hge]
 refine wpAny_bind ?_
 first|refine wpAny_bind (wpAny_typeNameOfWhole_keyiter hit.typeIs (wpAny_pure ?_))|refine wpAny_bind (wpAny_typeNameOf_keyiter hit.typeIs (wpAny_pure ?_))
 show wpAny _ _ (setField (.ref it) 0 .none >>= _) _ _ s
 refine wpAny_bind (wpAny_setField ho hd (by simp) ?_)
 show wpAny _ _ (newExc (.type "StopIteration") [] >>= _) _ _ _
 refine wpAny_bind ?_
 simp only[newExc,newTuple]
 refine wpAny_bind (wpAny_newObj_type ?_ (by size_fits))
 refine wpAny_bind (m:=firstArgMember _ _) (wpAny_of_eq (a:=Value.none) (by first|rfl|(simp only[firstArgMember];rfl)) ?_)
 refine wpAny_newObj_type ?_ (by size_fits)
 simp only[raiseNew]
 refine wpAny_bind (wpAny_handled ?_)
 rw[show A.in1.handled=none from hh]
 refine wpAny_bind (wpAny_pure (wpAny_throw ?_))
 refine wpAny_bind (wpAny_isInstance (T:="StopIteration") (b:=true) ⟨_,Heap.get?_push_size _ rfl,rfl⟩ isSubtype_stop ?_)
 exact wpAny_pure (hQ _ (((Heap.SameBut.update ..).extBut.push _).push _))
theorem meets_keysT (d:Addr)(hd:(d==sysModules)=false):
  MeetsIn prog w (Builtin.«dict.keys» ⟨[.ref d],[]⟩) (fun _ R s=>s.TypeIs (.ref d) "dict"∧
   R (.ok (.ret (.ref s.heap.objs.size))) { s with heap:=s.heap.push { cls:=.type "dict_keys",data:=.fields #[.ref d] } }):=
 .of_wp fun A R s ⟨hm,h⟩=>by
  refine wpAny_bind ?_
  unfold Builtin.Dict.noArgs
  refine wpAny_bind (wpAny_notOrdered_dict hm ?_)
  show wpAny _ _ (pure d) _ _ s
  refine wpAny_pure ?_
  show wpAny _ _ (Builtin.Dict.showsAll d >>= _) _ _ s
  unfold Builtin.Dict.showsAll
  rw[if_neg (by rw[hd];exact Bool.false_ne_true)]
  refine wpAny_bind (wpAny_pure ?_)
  exact wpAny_bind (wpAny_newObj_type (wpAny_pure ⟨_,rfl,h⟩))
theorem iter_keysT {v d:Addr}{o:Obj}{es:Array DictEntry}{ep:Nat}{Q:Value->Shared->Prop}(hv:W.KdlKeysView s.heap v d)(ho:s.heap.get? d=some o)(hdat:o.data=.dict es ep)
  (hQ:Q (.ref s.heap.objs.size) { s with heap:=s.heap.push { cls:=.type "dict_keyiterator",data:=.fields #[.ref d,.int 0 0,.int es.size 0,.int ep 0] } }):
  wpAny (model prog w) A (pyIter (.ref v)) Q E s:=by
 obtain⟨ov,hov,hcv,hdv⟩:=id hv
 refine wpAny_pyIter_slot hv.typeIs W.kdl_slot_keys_iter (wpAny_call_entry W.kdl_slot_keys_iter hv.typeIs W.kdl_entry_keys_iter ?_ (W.kdl_args_keys_iter _))
 unfold Builtin.«dict_keys.__iter__»
 refine wpAny_bind (wpAny_pure ?_)
 refine wpAny_bind ?_
 unfold Builtin.Dict_items.dictOf
 refine wpAny_bind (wpAny_field hov hdv (x:=.ref d) rfl (wpAny_pure ?_))
 refine wpAny_bind ?_
 unfold Builtin.Dict_items.newIterator
 refine wpAny_bind (wpAny_dictEntries ho hdat ?_)
 refine wpAny_bind (wpAny_dictEpoch ho hdat ?_)
 have hown:Builtin.Dict_items.ownsTuple "dict_keyiterator"=false:=by decide
 simp only[hown,Bool.false_eq_true,if_false]
 refine wpAny_newObj_type (wpAny_pure ⟨_,rfl,"dict_keyiterator",_,⟨_,Heap.get?_push_size _ rfl,rfl⟩,PySem.F.slot_dict_keyiterator_next.lookup,?_⟩)
 simpa [rawInt] using hQ
end
def Itk (P:Program)(w:World)(a:Addr)(xs:List (KTu×Addr×V))(o:Obj):It:=
 ⟨fun i H=>H a=some (TD P w a xs o)/\i<xs.length,fun i H x H'=>H'=H/\∃p,xs[i]?=some p/\x=.ref p.2.1,fun i H=>H a=some (TD P w a xs o)/\xs.length<=i⟩
theorem trel_get {xs:List (KTu×Addr×V)}{us:List (KTu×Addr×Value)}(r:Paired TRel xs us):∀{i:Nat} {p:KTu×Addr×V},xs[i]?=some p->∃q,us[i]?=some q/\TRel p q:=by
 induction r with
 |nil=>intro i p h;simp at h
 |@cons x y xs ys h t ih=>
  intro i p e
  cases i with
  |zero=>cases e;exact⟨y,rfl,h⟩
  |succ j=>exact ih e
theorem turn_keys {P:Program}{w:World}{K:W.Frag}{tg:Expr}(a it:Addr)(xs:List (KTu×Addr×V))(o:Obj){es:Array DictEntry}{ep:Nat}(hdat:o.data=.dict es ep):Turn P w K tg (Itk P w a xs o) [it] it (fun i h=>h.IsKeyIter it a i es.size ep) where
 mem:=by simp
 obj:=fun i h st b hb=>by
  have e:b=it:=by simpa using hb
  subst e
  obtain⟨o,e,c,d⟩:=st
  exact⟨o,e,fun v z=>by rw[d] at z;cases z⟩
 keep:=fun i h h' st k=>let ⟨o,ho,r⟩:=st;⟨o,k it (by simp) o ho,r⟩
 item:=by
  intro X hP hw hK hc i pins s σ H E I hf st hg
  subst hP hw hK
  obtain⟨hq,hx⟩:=hg
  obtain⟨g1,_,z,g2,us,es',ep',r,g3,g4,g5⟩:=td_at I hq
  rw[hdat] at g3
  cases g3
  obtain⟨f0,f1,f2,f3,f4,f5⟩:=hf it (by simp)
  obtain⟨q,hq1,hq2⟩:=trel_get r (i:=i) (p:=xs[i]) (by simp[hx])
  have he:es[i]?=some (entryOfKey (tupleKind (numKind X.prog X.w)) q):=by rw[entry_at g4 i,hq1];rfl
  refine next_keys_item st g1 hdat he fun h' st' sb=>?_
  have I1:Inv X pins σ H { s with heap:=h' }:=I.turned (t':=s.toks) (fun b o hb e=>(sb.2 b hb).trans e) f0 f1 f3 f4 f5
  obtain⟨o',e,c,d⟩:=id st'
  refine⟨_,rfl,go_of (s:={ s with heap:=h' }) e c d (by decide) ⟨.ref xs[i].2.1,H,I1,?_,⟨rfl,xs[i],by simp[hx],rfl⟩,st',fun b hb=>(hf b hb).1⟩⟩
  show Value.ref q.2.1=Value.ref xs[i].2.1
  rw[hq2.2.1]
 done:=by
  intro X hP hw hK hc i pins s σ H E I hf st hg
  subst hP hw hK
  obtain⟨hq,hx⟩:=hg
  obtain⟨g1,_,z,g2,us,es',ep',r,g3,g4,g5⟩:=td_at I hq
  rw[hdat] at g3
  cases g3
  obtain⟨f0,f1,f2,f3,f4,f5⟩:=hf it (by simp)
  have hl:es.size=xs.length:=by rw[size_of_entries g4,Paired.length r]
  exact next_keys_end (I.ok.hd hc) st g1 hdat (by omega) fun h' eb=>⟨rfl,I.turned (t':=s.toks) (fun b o hb e=>eb b o hb e) f0 f1 f3 f4 f5⟩
 self:=fun _ _ _ _ _ st h=>wpAny_pyIter_keyiter st h
def iKeys (P:Program)(w:World)(td:TE):TI:=fun σ H R=>td σ H fun x H1=>∃a xs o,x=.ref a/\H1 a=some (TD P w a xs o)/\R (Itk P w a xs o) H1
theorem pi_keys {X:Cx}{tg o:Expr}{td:TE}{apos cpos:Pos}(ho:PE X o td)(hbase:attributeBase o "keys" X.env (eval o X.env)=eval o X.env:=by rfl)(hline:(apos.endLine==cpos.line)=true:=by rfl):
  PI X tg (.Call (.Attribute o "keys" apos) [] [] cpos) (iKeys X.prog X.w td):=by
 intro pins s σ H R I h
 refine wpAny_Call_method0_late hbase hline (thn (ho pins s σ H _ I h) fun v s1 ⟨x,H1,I1,r1,a,xs,ob,ex,e,q⟩=>?_)
 subst ex
 obtain rfl:v=Value.ref a:=r1
 obtain⟨g1,hd,z,g2,us,es,ep,r,g3,g4,g5⟩:=td_at I1 e
 have tD:s1.TypeIs (.ref a) "dict":=⟨ob,g1,g2.1⟩
 refine⟨"dict","dict.keys",PySem.F.plainAttrs_dict,PySem.F.slot_dict_keys,PySem.F.type_dict_keys,tD,fun c ec=>?_,Calls.callWith_builtin rfl (PySem.evalArgs_none ?_)⟩
 ·cases ec
  exact⟨ob,g1,g2.2.1⟩
 refine call_meetsIn PySem.F.slot_dict_keys tD PySem.F.entry_dict_keys (PySem.F.args_dict_keys_1 _) (meets_keysT a hd) ⟨tD,?_⟩
 refine iter_keysT (s:={ s1 with heap:=s1.heap.push { cls:=.type "dict_keys",data:=.fields #[.ref a] } }) ⟨_,Heap.get?_push_size _ rfl,rfl,rfl⟩ (Heap.get?_push_of_some _ g1) g3 ?_
 have I2:Inv X pins σ H1 { s1 with heap:=s1.heap.push { cls:=.type "dict_keys",data:=.fields #[.ref a] } }:=I1.kept (t':=s1.toks) fun b o e=>Heap.get?_push_of_some _ e
 generalize ({ s1 with heap:=s1.heap.push { cls:=.type "dict_keys",data:=.fields #[.ref a] } }:Shared)=s2 at I2
 refine⟨s2.heap.objs.size,[s2.heap.objs.size],_,_,H1,rfl,I2.kept (t':=s2.toks) fun b o e=>Heap.get?_push_of_some _ e,turn_keys a _ xs ob g3,⟨_,Heap.get?_push_size _ rfl,rfl,rfl⟩,fun b hb=>?_,q⟩
 have e:b=s2.heap.objs.size:=by simpa using hb
 subst e
 exact I2.fpOk (Nat.le_refl _) (I2.hok.fresh (Nat.le_refl _))
theorem lc_keys {P:Program}{w:World}{a:Addr}{xs:List (KTu×Addr×V)}{o:Obj}{caps:St}{tt:TT}{te:TE}{D:Addr}{Q:Hp->Prop}{H1:Hp}(Pv:Nat->List V->Hp->Prop)(hz:xs.length<=sizeLine)(h0:Pv 0 [] (upd H1 D (.lst [])))(hl:∀i ys H,Pv i ys H->ys.length<=i)(hq:∀i ys H,Pv i ys H->H a=some (TD P w a xs o))
  (hs:∀i ys H (p:KTu×Addr×V) (N:VK) (M:Hp->Prop),xs[i]?=some p->Pv i ys H->(∀y H4,H4 D=some (.lst ys)->Pv (i+1) (ys++[y]) (upd H4 D (.lst (ys++[y])))->N y H4)->(∀H3,Pv (i+1) ys H3->M H3)→
   tt (some (.ref p.2.1)::caps) H fun ok H3=>if ok=true then te (some (.ref p.2.1)::caps) H3 N else M H3)
  (hd:∀ys H,Pv xs.length ys H->Q H):∃W:Nat->Nat->St->Hp->Prop,(∃m,W 0 m (none::caps) (upd H1 D (.lst [])))/\LcW (Itk P w a xs o) (gName 0) tt te D Q W:=by
 refine⟨fun i m σ H=>m=xs.length-i/\i<=xs.length/\(∃v,σ=v::caps)/\∃ys,Pv i ys H,⟨xs.length,by simp,Nat.zero_le _,⟨none,rfl⟩,[],h0⟩,?_⟩
 rintro i m σ H ⟨rfl,hi,⟨v,rfl⟩,ys,p⟩
 have hy:=hl i ys H p
 by_cases hlt:i<xs.length
 ·refine .inr ⟨⟨hq i ys H p,hlt⟩,fun x H1 y=>?_⟩
  obtain⟨e,p',hp',y⟩:=y
  subst e y
  exact hs i ys _ p' _ _ hp' p (fun y H4 a c=>⟨ys,a,by omega,xs.length-(i+1),by omega,rfl,hlt,⟨_,rfl⟩,_,c⟩) (fun H3 c=>⟨xs.length-(i+1),by omega,rfl,hlt,⟨_,rfl⟩,ys,c⟩)
 ·have e:i=xs.length:=by omega
  subst e
  exact .inl ⟨⟨hq _ ys H p,Nat.le_refl _⟩,hd ys H p⟩
end L2
namespace L2
open PySem PySem.Spec PyProof.Rows
def TupsAt (H:Hp)(ts:List Addr)(ns:List (List Int)):Prop:=ts.length=ns.length/\∀(i:Nat) (n:List Int),ns[i]?=some n->∃t,ts[i]?=some t/\H t=some (.tup (n.map V.int))
theorem TupsAt.tsame {H H':Hp}{ts:List Addr}{ns:List (List Int)}(h:TupsAt H ts ns)(s:TSame H H'):TupsAt H' ts ns:=⟨h.1,fun i n e=>by
 obtain⟨t,h1,h2⟩:=h.2 i n e
 exact⟨t,h1,s _ _ h2⟩⟩
theorem dints_at {K:W.Frag}{H:Hp}:∀ns:List Int,DsAt K H (ns.map V.int) (ns.map PyData.int)
 | []=>.nil
 |n::ns=>.cons (.int n) (dints_at ns)
theorem dints_lay:∀ns:List Int,PyData.canLayAll0 (ns.map PyData.int)=true
 | []=>rfl
 |n::ns=>by
  rw[List.map_cons,PyData.canLayAll0,dints_lay ns]
  rfl
theorem dints_depth:∀ns:List Int,PyData.depthAll (ns.map PyData.int)=0
 | []=>rfl
 |n::ns=>by
  rw[List.map_cons,PyData.depthAll,dints_depth ns]
  rfl
theorem eqvs_ints:∀a c:List Int,PyData.eqvAll (a.map PyData.int) (c.map PyData.int)=decide (a=c)
 | [],[]=>by simp[PyData.eqvAll]
 | [],_::_=>by simp[PyData.eqvAll]
 |_::_,[]=>by simp[PyData.eqvAll]
 |x::a,y::c=>by
  rw[List.map_cons,List.map_cons,PyData.eqvAll,eqvs_ints a c]
  show((x==y)&&_)=_
  by_cases e:x=y
  ·subst e
   simp
  ·simp[e]
section
variable {X:Cx}
def tTNotIn (P:Program)(w:World)(ty td:TE):TE:=fun σ H Q=>ty σ H fun y H1=>td σ H1 fun x H2=>∃a xs o b k,x=.ref a/\H2 a=some (TD P w a xs o)/\TKs H2 xs/\y=.ref b/\TKy H2 k b/\Q (.bl (!(xs.any fun x=>decide (x.1=k)))) H2
theorem trel_some {xs:List (KTu×Addr×V)}{us:List (KTu×Addr×Value)}(r:Paired TRel xs us)(k:KTu):(atKey us k).isSome=xs.any fun x=>decide (x.1=k):=by
 induction r with
 |nil=>rfl
 |@cons p q ps qs h' t ih=>
  rw[List.any_cons,<- ih,h'.1]
  by_cases e:q.1=k
  ·simp[atKey,List.find?_cons,e]
  ·simp[atKey,List.find?_cons,e]
theorem pc_tnotin {i o:Expr}{ty td:TE}(hu:X.A.units+1<cLine)(hi:PE X i ty)(ho:PE X o td):PC X .NotIn i o (tTNotIn X.prog X.w ty td):=by
 intro pins s σ H Q I h
 refine thn (hi pins s σ H _ I h) fun iv s1 ⟨y,H1,I1,ry,q1⟩=>thn (ho pins s1 σ H1 _ I1 q1) fun u s2 hq9=>?_
 obtain⟨x,H2,I2,rx,a,xs,ob,b,k,ex,g,hk,ey,kb,q2⟩:=hq9
 subst ex ey
 obtain rfl:u=Value.ref a:=rx
 obtain rfl:iv=Value.ref b:=ry
 obtain⟨z,hd,us,rel,dd⟩:=td_of I2 g hk
 refine wpAny_notIn_heap (by show X.A.units+1<cLine;exact hu) (tk_is I2.hok kb) hd dd ?_
 rw[trel_some rel k]
 exact⟨.bl _,H2,I2.tok _,rfl,q2⟩
end
end L2
namespace L2
open PySem PySem.Spec PyProof.Rows SO
section
variable {X:Cx}
def PrA (H:Hp)(z:Addr×KP):Prop:=∃b,H z.1=some (.tup [.int z.2.1,.ref b])/\H b=some (.tup (z.2.2.map V.int))
theorem PrA.tsame {H H':Hp}{z:Addr×KP}(h:PrA H z)(s:TSame H H'):PrA H' z:=by
 obtain⟨b,h1,h2⟩:=h
 exact⟨b,s _ _ h1,s _ _ h2⟩
theorem pra_is {pins:List (Addr×Obj)}{σ:St}{H:Hp}{s:Shared}(I:Inv X pins σ H s){z:Addr×KP}(h:PrA H z):PrK s.heap z.2 (.ref z.1):=by
 obtain⟨b,h1,h2⟩:=h
 obtain⟨its,r,p1,_⟩:=I.tuple (SqT.of h1)
 obtain⟨jts,r2,p2,_⟩:=I.tuple (SqT.of h2)
 obtain⟨u,v,rfl,ru,rv⟩:=vals2 r
 obtain⟨t,rfl⟩:=ru
 cases rv
 exact⟨z.1,b,t,jts.toArray,rfl,p1,p2,by simpa using intsAre_of r2⟩
theorem pras_are {pins:List (Addr×Obj)}{σ:St}{H:Hp}{s:Shared}(I:Inv X pins σ H s):∀{zs:List (Addr×KP)},(∀z∈zs,PrA H z)->PrKs s.heap (zs.map (·.2)) (zs.map fun z=>Value.ref z.1)
 | [],_=>.nil
 |z::zs,h=>.cons (pra_is I (h z List.mem_cons_self)) (pras_are I fun y hy=>h y (List.mem_cons_of_mem _ hy))
theorem vals_refs:∀{zs:List (Addr×KP)} {us:List Value},Vals (zs.map fun z=>V.ref z.1) us->us=zs.map fun z=>Value.ref z.1
 | [],_,.nil=>rfl
 |z::zs,_,.cons h r=>by
  cases h
  rw[vals_refs r]
  rfl
theorem vals_of_refs:∀(zs:List (Addr×KP)),Vals (zs.map fun z=>V.ref z.1) (zs.map fun z=>Value.ref z.1)
 | []=>.nil
 |z::zs=>.cons rfl (vals_of_refs zs)
def adr:Value->Addr
 |.ref a=>a
 |_=>0
theorem pras_zip {pins:List (Addr×Obj)}{σ:St}{H:Hp}{s:Shared}(I:Inv X pins σ H s):∀{zs:List (Addr×KP)},(∀z∈zs,PrA H z)->((zs.map fun z=>Value.ref z.1).zip (zs.map fun z=>Value.ref z.1)).map (fun x=>(adr x.2,kyP s.heap x))=zs
 | [],_=>rfl
 |z::zs,h=>by
  rw[List.map_cons,List.zip_cons_cons,List.map_cons,pras_zip I fun y hy=>h y (List.mem_cons_of_mem _ hy)]
  have:=kyP_is (x:=(Value.ref z.1,Value.ref z.1)) (pra_is I (h z List.mem_cons_self))
  rw[this]
  rfl
end
end L2
namespace SO
open PySem PyProof PyProof.Rows HT
section
variable {prog:Program} {w:World} {A:Around} {E:Value->Shared->Prop} {s:Shared}
theorem rest_keyed {P:PySem.Fin->Shared->Prop}{a kS:Addr}{e1:Nat}{f:Value}{vs:List Value}(hz:vs.length<=1000)(J:Nat->List Value->Shared->Prop)(j0:J 0 [] s)
  (step:∀i v ks s',vs[i]?=some v->ks.length=i->J i ks s'->wpAny (model prog w) A (call f [v]) (fun u s''=>(∃c,s''.heap.get? kS=some (seqObj "list" ks.toArray c))/\J (i+1) (ks++[u]) { s'' with heap:=s''.heap.update kS (Obj.mapSeq (·.push u)) }) (fun _ _=>False) s')
  (jk:∀i ks s',J i ks s'->∃c,s'.heap.get? kS=some (seqObj "list" ks.toArray c))
  (fin:∀ks s',ks.length=vs.length->J vs.length ks s'->wpAny (model prog w) A (ksk_end a false vs.toArray e1 (.ref kS) ks.toArray) P E s'):
  wpAny (model prog w) A (ksk_rest a f false vs.toArray e1 (.ref kS)) P E s:=by
 unfold ksk_rest
 refine wpAny_bind (wpAny_rule ?_)
 first
  |rw[List.forIn_toArray]
  | (rw[<- Array.forIn_toList];simp only[List.toList_toArray])
  |rw[<- Array.forIn_toList]
 refine wpAny_bind (ksk_fold (fun i s'=>∃ks,ks.length=i/\J i ks s') vs 0 s ⟨[],rfl,j0⟩ ?step ?done)
 case step=>
  rintro j x s' hx ⟨ks,hl,hJ⟩
  rw[Nat.zero_add] at hl hJ ⊢
  have hj:j<vs.length:=(List.getElem?_eq_some_iff.mp hx).1
  refine wpAny_bind (wpAny_attempt (wpAny_mono (step j x ks s' hx hl hJ) (fun u s'' he=>?_) fun _ _ hF=>hF.elim))
  obtain⟨⟨c,hc⟩,hJ'⟩:=he
  try dsimp only
  refine wpAny_bind (listUpdate_at hc rfl ?_ (by rw[List.size_toArray,sizeLine_eq];omega) (Nat.le_trans (Nat.le_of_eq (Array.size_push ..)) (by rw[List.size_toArray,sizeLine_eq];omega)))
  exact wpAny_pure ⟨rfl,ks++[u],by rw[List.length_append,hl];rfl,hJ'⟩
 case done=>
  rintro s' ⟨ks,hl,hJ⟩
  rw[Nat.zero_add] at hl hJ
  obtain⟨c,hc⟩:=jk _ _ _ hJ
  refine wpAny_bind (listItems_at hc rfl ?_)
  exact fin ks s' hl hJ
theorem zip_mem {ks vs:List Value}{x:Keyed}(h:x∈(ks.toArray.zip vs.toArray).toList):x.1∈ks/\x.2∈vs:=by
 have:(ks.toArray.zip vs.toArray).toList=ks.zip vs:=by simp
 rw[this] at h
 exact⟨(List.of_mem_zip h).1,(List.of_mem_zip h).2⟩
end
end SO
namespace L2
open PySem PySem.Spec PyProof.Rows SO
section
variable {X:Cx}
structure Nw (X:Cx)(pins:List (Addr×Obj))(it:Addr):Prop where
 loc:it≠X.env.locals
 fs:it∉X.fs
 new:X.s₀.heap.objs.size<=it
 cel:∀x c,X.env.cells.lookup x=some c->c≠it
 pin:∀p∈X.pn++pins,p.1≠it
theorem nw_of {pins:List (Addr×Obj)}{σ:St}{H:Hp}{s:Shared}(I:Inv X pins σ H s){it:Addr}(h:s.heap.objs.size<=it):Nw X pins it where
 loc:=Nat.ne_of_gt (Nat.lt_of_lt_of_le I.lt h)
 fs:=I.nofs h
 new:=Nat.le_trans I.sz h
 cel:=fun x c e=>by
  obtain⟨v,o,ho,_⟩:=I.cell x c e
  exact Nat.ne_of_lt (Nat.lt_of_lt_of_le (Heap.lt_size ho) h)
 pin:=fun p hp=>Nat.ne_of_lt (Nat.lt_of_lt_of_le (Heap.lt_size (I.pin p hp).1) h)
theorem Inv.pin2 {pins:List (Addr×Obj)}{σ:St}{H:Hp}{s:Shared}{a b:Addr}{oa ob:Obj}(I:Inv X pins σ H s)(na:Nw X pins a)(nb:Nw X pins b)(ea:s.heap.get? a=some oa)(eb:s.heap.get? b=some ob)(ha:H a=none)(hb:H b=none)(ca:∀v,oa.data≠.cell v)(cb:∀v,ob.data≠.cell v):Inv X ((a,oa)::(b,ob)::pins) σ H s:=
 I.pins_of fun p hp=>by
  rcases List.mem_cons.mp hp with rfl|hp
  ·exact⟨ea,ha,na.loc,na.fs,ca⟩
  ·rcases List.mem_cons.mp hp with rfl|hp
   ·exact⟨eb,hb,nb.loc,nb.fs,cb⟩
   ·exact I.pin p (List.mem_append_right _ hp)
theorem Inv.unpin2 {pins:List (Addr×Obj)}{σ:St}{H:Hp}{s:Shared}{x y:Addr×Obj}(I:Inv X (x::y::pins) σ H s):Inv X pins σ H s:=
 I.pins_of fun p hp=>I.pin p (List.mem_append_right _ (List.mem_cons_of_mem _ (List.mem_cons_of_mem _ hp)))
structure KJ (X:Cx)(pins:List (Addr×Obj))(σ:St)(H:Hp)(kS a:Addr)(e1:Nat)(zs:List (Addr×KP))(i:Nat)(ks:List Value)(s:Shared):Prop where
 ex:∃(H':Hp) (c:Nat) (qs:List (Addr×KP)),Inv X pins σ H' s/\Same H H'/\H' kS=none/\H' a=none/\s.heap.get? kS=some (seqObj "list" ks.toArray c)/\s.heap.get? a=some (seqObj "list" #[] e1)/\ks=qs.map (fun q:Addr×KP=>Value.ref q.1)/\(∀q∈qs,PrA H' q)/\qs.map (·.2)=(zs.take i).map (·.2)
theorem key_step {pins:List (Addr×Obj)}{σ:St}{H:Hp}{kS a:Addr}{e1 i k:Nat}{zs:List (Addr×KP)}{ks:List Value}{s:Shared}{f:Addr}{fd:FuncData}{ps:List Str}{sp:Sp}{z:Addr×KP}
  (F:FnOk X.prog X.w X.K X.mg X.base CX0 k f fd ps sp) (hr:Room k X.A.in1.in1) (hb:Binds X.K fd ps []) (nk:Nw X pins kS) (na:Nw X pins a) (hka:kS≠a) (hz:zs[i]?=some z)
  (hsp:∀H1,Same H H1->∀(Q:VK) (E:XK),(∀q H2,Same H1 H2->PrA H2 (q,z.2)->Q (.ref q) H2)->sp [.ref z.1] H1 Q E) (J:KJ X pins σ H kS a e1 zs i ks s):
  wpAny (model X.prog X.w) X.A.in1.in1 (call (.ref f) [.ref z.1]) (fun u s''=>(∃c,s''.heap.get? kS=some (seqObj "list" ks.toArray c))/\KJ X pins σ H kS a e1 zs (i+1) (ks++[u]) { s'' with heap:=s''.heap.update kS (Obj.mapSeq (·.push u)) }) (fun _ _=>False) s:=by
 obtain⟨H1,c,qs,I,hS,hk0,ha0,hk,ha,hks,hq,hqz⟩:=J.ex
 have I2:=I.pin2 nk na hk ha hk0 ha0 (fun v=>nofun) (fun v=>nofun)
 have hpost:sp [.ref z.1] H1 (fun v H2=>∃q,v=.ref q/\Same H1 H2/\PrA H2 (q,z.2)) (fun _ _ _=>False):=hsp H1 hS _ _ fun q H2 s2 p2=>⟨q,rfl,s2,p2⟩
 have hl:([Value.ref z.1]++([]:List Value)).length=ps.length:=F.len _ _ _ _ hpost
 have hbt:=hb s [.ref z.1] I2.kIn hl
 rw[List.append_nil] at hbt
 refine wpAny_call (codeAny_mono (F.run X.A.in1.in1 X.stack s H1 ⟨[.ref z.1],[]⟩ [.ref z.1] [.ref z.1] _ _ hr I2.env0.in1.in1 hbt (.cons rfl .nil) hpost) fun r s' hc=>?_)
 cases r with
 |error e=>exact hc
 |ok fl=>
  cases fl with
  |next=>exact False.elim hc
  |brk=>exact False.elim hc
  |cont=>exact False.elim hc
  |ret u=>
   obtain⟨v,H2,I3,rv,q,rfl,s2,p2⟩:=I2.after hc
   obtain rfl:u=.ref q:=rv
   have pk:=I3.pin (kS,_) (List.mem_append_right _ List.mem_cons_self)
   have pa:=I3.pin (a,_) (List.mem_append_right _ (List.mem_cons_of_mem _ List.mem_cons_self))
   refine⟨⟨c,pk.1⟩,?_⟩
   have sb:=Heap.SameBut.update s'.heap kS (Obj.mapSeq (·.push (.ref q)))
   obtain⟨c2,hc2⟩:∃c2,(s'.heap.update kS (Obj.mapSeq (·.push (.ref q)))).get? kS=some (seqObj "list" (ks.toArray.push (.ref q)) c2):=⟨_,get?_update_seq pk.1 (·.push (.ref q))⟩
   have I4:Inv X pins σ H2 { s' with heap:=s'.heap.update kS (Obj.mapSeq (·.push (.ref q))),toks:=s'.toks }:=I3.unpin2.turned (fun b o hb e=>(sb.2 b hb).trans e) pk.2.1 nk.loc (.inr nk.new) nk.cel nk.pin
   refine⟨⟨H2,c2,qs++[(q,z.2)],I4,hS.trans s2,pk.2.1,pa.2.1,?_,?_,?_,?_,?_⟩⟩
   ·show(s'.heap.update kS _).get? kS=_
    rw[hc2]
    congr 2
    simp
   ·exact(sb.2 a (fun e=>hka e.symm)).trans pa.1
   ·rw[hks,List.map_append]
    rfl
   ·intro y hy
    rcases List.mem_append.mp hy with hy|hy
    ·exact(hq y hy).tsame fun c ys e=>s2 c _ e
    ·rw[List.mem_singleton.mp hy]
     exact p2
   ·rw[List.map_append,hqz,List.take_add_one,hz,List.map_append]
    rfl
end
end L2
namespace L2
open PySem PySem.Spec PyProof.Rows SO
section
variable {X:Cx}
theorem zip_pairs {h:Heap}:∀{qs zs:List (Addr×KP)},(∀q∈qs,PrK h q.2 (.ref q.1))->qs.map (·.2)=zs.map (·.2)->(((qs.map fun q=>Value.ref q.1).zip (zs.map fun z=>Value.ref z.1)).map fun x=>(adr x.2,kyP h x))=zs
 | [],[],_,_=>rfl
 | [],_::_,_,e=>by cases e
 |_::_,[],_,e=>by cases e
 |q::qs,z::zs,hp,e=>by
  rw[List.map_cons,List.map_cons] at e
  injection e with e1 e2
  rw[List.map_cons,List.map_cons,List.zip_cons_cons,List.map_cons,zip_pairs (fun y hy=>hp y (List.mem_cons_of_mem _ hy)) e2]
  have:=kyP_is (x:=(Value.ref q.1,Value.ref z.1)) (hp q List.mem_cons_self)
  rw[this,e1]
  rfl
theorem Inv.adopt {pins:List (Addr×Obj)}{σ:St}{H:Hp}{s:Shared}{a:Addr}{o:HO}(I:Inv X pins σ H s)(nw:Nw X pins a)(hn:H a=none)(new:ObjOk X.prog X.w (upd H a o) s.heap a o):Inv X pins σ (upd H a o) s where
 ok:=I.ok
 os:=I.os
 bare:=I.bare
 base:=⟨I.base.keep,I.base.slot,fun b u q n hx=>by rw[upd_ne (Nat.ne_of_lt (Nat.lt_of_lt_of_le (Heap.lt_size q) nw.new))];exact I.base.free b u q n hx,I.base.there,
  fun b xs q=>by have e:=I.base.tups b xs q;rw[upd_ne (ne_of_none e hn)];exact e,fun b u v q=>by have e:=I.base.frzs b u v q;rw[upd_ne (ne_of_none e hn)];exact e,
  fun b ps q=>by obtain⟨m,e⟩:=I.base.tbls b ps q;exact⟨m,by rw[upd_ne (ne_of_none e hn)];exact e⟩⟩
 loc:=I.loc
 cell:=I.cell
 free:=by rw[upd_ne (fun e=>nw.loc e.symm)];exact I.free
 freeC:=fun x c e=>by rw[upd_ne (nw.cel x c e)];exact I.freeC x c e
 pin:=fun p hp=>by
  obtain⟨p1,p2,p3⟩:=I.pin p hp
  exact⟨p1,by rw[upd_ne (nw.pin p hp)];exact p2,p3⟩
 hok:=fun b u e=>by
  by_cases hb:b=a
  ·subst hb;rw[upd_same] at e;cases e;exact new
  ·rw[upd_ne hb] at e
   exact(I.hok b u e).stay (fun c v _ q=>q) (fun c q=>by rw[upd_ne (ne_of_none q hn)];exact q) fun c xs q=>by rw[upd_ne (ne_of_none q hn)];exact q
 len:=I.len
end
end L2
namespace L2
open PySem PySem.Spec PyProof.Rows SO
section
variable {X:Cx} {k:Nat} {f:Addr} {fd:FuncData} {ps:List Str} {sp:Sp} {p pos kpos:Pos} {e ke:Expr} {t:TA} {tk:TE}
def oneV (R:V->Hp->Prop):List V->Hp->Prop
 | [w],H=>R w H
 |_,_=>False
end
end L2
namespace SO
open PySem PyProof PyProof.Rows
section
variable {M:Model} {A:Around} {E:Value->Shared->Prop} {s:Shared} {O:KeyOrd} {ky:Keyed->O.α} {κ:SortKind} {a₀:Array Keyed}
theorem wpS_sortFew {st:SortSt}{Q:Unit->SortSt->Prop}(hC:Cmp M A s O ky κ a₀)(hB:SB κ a₀ st)(hp:pendingOf st=#[])(h2:2<=a₀.size)(h64:a₀.size<64)(h:∀st',SB κ a₀ st'->Up ky (arrOf st') 0 a₀.size->Q () st'):wpS M A E s sortRuns' Q st:=by
 have hmr:minRun' a₀.size a₀.size 0=a₀.size:=by
  obtain⟨n,hn⟩:∃n,a₀.size=n+1:=⟨a₀.size-1,by omega⟩
  rw[hn,minRun'_succ,if_pos (by omega)]
 rw[sortRuns'_eq]
 refine wpS_bind (wpS_get ?_)
 dsimp only
 simp only[hB.size]
 refine wpS_bind (wpS_mono (wpS_forRange
  (I:=fun x c st'=>∃lo,c=(none,lo)/\SB κ a₀ st'/\((lo=0/\x=0/\pendingOf st'=#[])\/(lo=a₀.size/\(pendingOf st').size=1/\Up ky (arrOf st') 0 a₀.size)))
  (Q:=fun c st'=>c=(none,a₀.size)/\SB κ a₀ st'/\(pendingOf st').size=1/\Up ky (arrOf st') 0 a₀.size) ?step ?fin ⟨0,rfl,hB,.inl ⟨rfl,rfl,hp⟩⟩) ?post)
 case fin=>
  rintro c st' ⟨lo,rfl,hS,⟨_,hx,_⟩|⟨rfl,h1,hu⟩⟩
  ·omega
  ·exact⟨rfl,hS,h1,hu⟩
 case step=>
  rintro x c st' _ hx ⟨lo,rfl,hS,hh⟩
  dsimp only
  by_cases hge:lo≥a₀.size
  ·rw[if_pos hge]
   rcases hh with⟨rfl,_,_⟩|⟨rfl,h1,hu⟩
   ·omega
   ·exact wpS_pure ⟨rfl,hS,h1,hu⟩
  rw[if_neg hge]
  rcases hh with⟨rfl,_,hpe⟩|⟨rfl,_,_⟩
  case inr=>omega
  refine wpS_bind (wpS_count (ky:=ky) hC (nrem:=a₀.size-0) (by omega) (by omega) hS fun m st2 hK hm1 hm2 hu=>?_)
  dsimp only
  have tail:∀n st3,SB κ a₀ st3->pendingOf st3=#[]->n=a₀.size->Up ky (arrOf st3) 0 n→
    ∃lo,((none,0+n):Option Unit×Nat)=(none,lo)/\SB κ a₀ (setPending st3 ((pendingOf st3).push (0,n,0)))/\((lo=0/\x+1=0/\pendingOf (setPending st3 ((pendingOf st3).push (0,n,0)))=#[])\/(lo=a₀.size/\(pendingOf (setPending st3 ((pendingOf st3).push (0,n,0)))).size=1/\Up ky (arrOf (setPending st3 ((pendingOf st3).push (0,n,0)))) 0 a₀.size)):=by
   intro n st3 b1 b2 b3 b4
   subst b3
   refine⟨_,rfl,⟨b1.perm,b1.kind,b1.failed⟩,.inr ⟨Nat.zero_add _,?_,b4⟩⟩
   show((pendingOf st3).push (0,a₀.size,0)).size=1
   rw[b2];rfl
  by_cases hlt:m<minRun' a₀.size a₀.size 0
  ·rw[if_pos hlt]
   refine wpS_bind (wpS_lift (wpAny_rule ⟨rfl,?_⟩))
   refine wpS_bind (wpS_bin hC (by omega) (by omega) hK.sb hu fun st3 hK3 hu3=>?_)
   rw[if_neg (by simp)]
   have hpe3:pendingOf st3=#[]:=by rw[hK3.pend,hK.pend,hpe]
   refine wpS_bind (wpS_get ?_)
   simp only[hpe3]
   refine wpS_bind (wpS_modify (wpS_pure ?_))
   have:=tail _ st3 hK3.sb hpe3 (by rw[hmr];omega) hu3
   simpa only[hpe3] using this
  ·rw[if_neg hlt]
   have hpe3:pendingOf st2=#[]:=by rw[hK.pend,hpe]
   refine wpS_bind (wpS_get ?_)
   simp only[hpe3]
   refine wpS_bind (wpS_modify (wpS_pure ?_))
   have:=tail m st2 hK.sb hpe3 (by rw[hmr] at hlt;omega) hu
   simpa only[hpe3] using this
 case post=>
  rintro c st' ⟨rfl,hS,h1,hu⟩
  dsimp only
  refine wpS_bind (wpS_mono (wpS_forRange (I:=fun x c st'=>c=(none,())/\SB κ a₀ st'/\(pendingOf st').size=1/\Up ky (arrOf st') 0 a₀.size) (Q:=fun c st'=>c=(none,())/\SB κ a₀ st'/\Up ky (arrOf st') 0 a₀.size) ?s2 ?f2 ⟨rfl,hS,h1,hu⟩) ?p2)
  case f2=>
   rintro c st' ⟨hc,b1,_,b3⟩
   exact⟨hc,b1,b3⟩
  case s2=>
   rintro x c st' _ hx ⟨rfl,b1,b2,b3⟩
   refine wpS_bind (wpS_get ?_)
   rw[if_pos (by omega)]
   exact wpS_pure ⟨rfl,b1,b3⟩
  case p2=>
   rintro c st' ⟨rfl,b1,b3⟩
   exact wpS_pure (h st' b1 b3)
end
end SO
namespace SO
open PySem PyProof PyProof.Rows HT
section
variable {prog:Program} {w:World} {A:Around} {E:Value->Shared->Prop} {s:Shared}
theorem list_sort_prs6 {a:Addr}{vs:List Value}{ks:List KP}{n:Nat}{P:PySem.Fin->Shared->Prop}(hu:A.units+2<cLine)(ho:s.heap.get? a=some (seqObj "list" vs.toArray n))
  (hx:PrKs s.heap ks vs) (hz:vs.length<=63)
  (h:∀st':SortSt,(arrOf st').Perm (pairsOf vs)->Up (O:=prOrd) (kyP s.heap) (arrOf st') 0 (pairsOf vs).size->P (.done (.ret .none)) { s with heap:=sortedHeap s.heap a vs ((arrOf st').map (·.2)) }):
  wpAny (model prog w) A (Builtin.«list.sort» ⟨[.ref a],[]⟩) P E s:=by
 rw[list_sort_plain]
 have ha:a<s.heap.objs.size:=Heap.lt_size ho
 have hsz:vs.toArray.size=vs.length:=by simp
 refine wpAny_bind (listItems_at ho rfl ?_)
 refine wpAny_bind (listUpdate_at ho rfl ?_ (by rw[hsz,sizeLine_eq];omega) (Nat.zero_le _))
 obtain⟨e1,ho1⟩:∃e1,(s.heap.update a (Obj.mapSeq fun _=>#[])).get? a=some (seqObj "list" #[] e1):=⟨_,get?_update_seq ho (fun _=>#[])⟩
 refine wpAny_bind (seqEpoch_at ho1 rfl ?_)
 refine wpAny_bind (wpAny_newTuple ?_ (by show vs.length<=_;rw[sizeLine_eq];omega))
 refine wpAny_bind (wpAny_newList ?_ (Nat.zero_le _))
 refine wpAny_holding ?_
 have ho6:(((s.heap.update a (Obj.mapSeq fun _=>#[])).push (seqObj "tuple" vs.toArray 0)).push (seqObj "list" #[] 0)).get? a=some (seqObj "list" #[] e1):=by
  rw[Heap.get?_push_ne _ _ _ (by rw[size_push',Heap.size_update];exact Nat.ne_of_lt (Nat.lt_succ_of_lt ha)),Heap.get?_push_ne _ _ _ (by rw[Heap.size_update];exact Nat.ne_of_lt ha)]
  exact ho1
 have keep:∀b o,s.heap.get? b=some o->o.cls=.type "tuple"->(((s.heap.update a (Obj.mapSeq fun _=>#[])).push (seqObj "tuple" vs.toArray 0)).push (seqObj "list" #[] 0)).get? b=some o:=by
  intro b o hb hc
  have hba:b≠a:=by
   intro e
   subst e
   rw[ho] at hb
   cases hb
   have hc':Value.type "list"=Value.type "tuple":=hc
   injection hc' with e
   exact absurd e (by decide)
  have hlt:b<s.heap.objs.size:=Heap.lt_size hb
  rw[Heap.get?_push_ne _ _ _ (by rw[size_push',Heap.size_update];exact Nat.ne_of_lt (Nat.lt_succ_of_lt hlt)),Heap.get?_push_ne _ _ _ (by rw[Heap.size_update];exact Nat.ne_of_lt hlt),Heap.get?_update_ne _ _ _ _ hba]
  exact hb
 show wpAny (model prog w) A _ P E { s with heap:=((s.heap.update a (Obj.mapSeq fun _=>#[])).push (seqObj "tuple" vs.toArray 0)).push (seqObj "list" #[] 0) }
 dsimp only
 by_cases h2:vs.toArray.size<2
 ·rw[if_pos h2,if_pos h2]
  refine wpAny_bind (wpAny_pure ?_)
  rw[StateT.run_pure]
  refine wpAny_bind (wpAny_pure ?_)
  dsimp only
  refine wpAny_bind (seqEpoch_at ho6 rfl ?_)
  refine wpAny_bind (listUpdate_at ho6 rfl ?_ (Nat.zero_le _) (by rw[Array.size_map];show(pairsOf vs).size<=_;rw[pairsOf_size,sizeLine_eq];omega))
  simp only[bne_self_eq_false,Bool.false_eq_true,if_false]
  refine wpAny_pure (h (SortSt.mk' general' (vs.toArray.zip vs.toArray) #[] 7 none) (Array.Perm.refl _) ?_)
  intro i j hij hj
  have:i=j:=by rw[pairsOf_size] at hj;omega
  subst this;exact KeyOrd.kle_refl _
 ·rw[if_neg h2,if_neg h2]
  have hx':=hx.kept keep
  refine wpAny_bind (prs_kind (s:={ s with heap:=((s.heap.update a (Obj.mapSeq fun _=>#[])).push (seqObj "tuple" vs.toArray 0)).push (seqObj "list" #[] 0) }) hx' (by omega) ?_)
  refine wpAny_bind (wpAny_mono (wpS_sortFew (O:=prOrd) (ky:=kyP s.heap) (κ:=tuples' true) (a₀:=pairsOf vs) (st:=SortSt.mk' (tuples' true) (vs.toArray.zip vs.toArray) #[] 7 none)
   (Q:=fun _ st'=>(arrOf st').Perm (pairsOf vs)/\failedOf st'=none/\Up (O:=prOrd) (kyP s.heap) (arrOf st') 0 (pairsOf vs).size)
   ?cmp ⟨Array.Perm.refl _,rfl,rfl⟩ rfl (by rw[pairsOf_size];omega) (by rw[pairsOf_size];omega) fun st' a1 a2=>⟨a1.perm,a1.failed,a2⟩) ?_ fun _ _ e=>e)
  case cmp=>
   intro x hxm y hym Q' E' hq
   obtain⟨k,k1,k2⟩:=hx.mem _ (pairs_mem hxm).1
   obtain⟨k',k1',k2'⟩:=hx.mem _ (pairs_mem hym).1
   rw[kyP_is k2,kyP_is k2'] at hq
   exact cmp_pr (s:={ s with heap:=((s.heap.update a (Obj.mapSeq fun _=>#[])).push (seqObj "tuple" vs.toArray 0)).push (seqObj "list" #[] 0) }) hu (k2.kept keep) (k2'.kept keep) hq
  rintro⟨⟨⟩,st'⟩ s' ⟨rfl,hp,hf,hs⟩
  dsimp only
  refine wpAny_bind (seqEpoch_at ho6 rfl ?_)
  refine wpAny_bind (listUpdate_at ho6 rfl ?_ (Nat.zero_le _) (by refine Nat.le_trans (Nat.le_of_eq ((Array.size_map ..).trans (hp.size_eq.trans (pairsOf_size _)))) ?_;rw[sizeLine_eq];omega))
  rw[hf]
  simp only[bne_self_eq_false,Bool.false_eq_true,if_false]
  exact wpAny_pure (h st' hp hs)
theorem sorted_prs6 {l:Addr}{vs:List Value}{ks:List KP}{Q:Value->Shared->Prop}(hu:A.units+4<cLine)(hl:s.heap.IsList l vs.toArray)(hx:PrKs s.heap ks vs)(hz:vs.length<=63)
  (h:∀st':SortSt,(arrOf st').Perm (pairsOf vs)->Up (O:=prOrd) (kyP s.heap) (arrOf st') 0 (pairsOf vs).size->Q (.ref (s.heap.objs.size+1)) { s with heap:=sortedAll s.heap vs ((arrOf st').map (·.2)) }):
  wpAny (model prog w) A (call (.builtin "sorted") [.ref l]) Q E s:=by
 refine Calls.call_function_entry kind_sorted plain_sorted entry_sorted (args_sorted1 _) ?_
 unfold Builtin.«sorted»
 refine wpAny_bind (m:=checkCount "sorted" 1 1 _) (wpAny_pure ?_)
 refine wpAny_bind (collect_list hl ?_ (by rw[sizeLine_eq];omega))
 refine wpAny_bind (wpAny_newList ?_ (by rw[sizeLine_eq];omega))
 have hsz:((s.heap.push (seqObj "list" #[] 0)).update s.heap.objs.size (Obj.mapSeq (·++vs.toArray))).objs.size=s.heap.objs.size+1:=by
  rw[Heap.size_update,size_push']
 have hoL:(((s.heap.push (seqObj "list" #[] 0)).update s.heap.objs.size (Obj.mapSeq (·++vs.toArray))).push (seqObj "list" vs.toArray 0)).get? (s.heap.objs.size+1)=some (seqObj "list" vs.toArray 0):=by
  rw[<- hsz];exact Heap.get?_push_size _ rfl
 have keep:∀b o,s.heap.get? b=some o->(((s.heap.push (seqObj "list" #[] 0)).update s.heap.objs.size (Obj.mapSeq (·++vs.toArray))).push (seqObj "list" vs.toArray 0)).get? b=some o:=fun b o q=>by
  have hlt:b<s.heap.objs.size:=Heap.lt_size q
  rw[Heap.get?_push_ne _ _ _ (by rw[hsz];exact Nat.ne_of_lt (Nat.lt_succ_of_lt hlt)),Heap.get?_update_ne _ _ _ _ (Nat.ne_of_lt hlt),Heap.get?_push_ne _ _ _ (Nat.ne_of_lt hlt)]
  exact q
 show wpAny _ _ _ _ _ { s with heap:=((s.heap.push (seqObj "list" #[] 0)).update s.heap.objs.size (Obj.mapSeq (·++vs.toArray))).push (seqObj "list" vs.toArray 0) }
 rw[hsz]
 have hx':=hx.kept fun b o e _=>keep b o e
 have eqk:∀x∈(pairsOf vs).toList,kyP s.heap x=kyP (((s.heap.push (seqObj "list" #[] 0)).update s.heap.objs.size (Obj.mapSeq (·++vs.toArray))).push (seqObj "list" vs.toArray 0)) x:=fun x hxm=>by
  obtain⟨k,k1,k2⟩:=hx.mem _ (pairs_mem hxm).1
  rw[kyP_is k2,kyP_is (k2.kept fun b o e _=>keep b o e)]
 refine wpAny_bind (wpAny_holding (wpAny_call_entry slot_list_sort ⟨_,hoL,rfl⟩ entry_list_sort (list_sort_prs6 (s:={ s with heap:=((s.heap.push (seqObj "list" #[] 0)).update s.heap.objs.size (Obj.mapSeq (·++vs.toArray))).push (seqObj "list" vs.toArray 0) }) ?_ hoL hx' hz fun st' a1 a2=>⟨_,rfl,?_⟩) (args_list_sort _)))
 ·show A.units+1+1+2<_
  omega
 refine wpAny_pure ⟨_,rfl,h st' a1 ?_⟩
 intro i j hij hj
 have hs:=a1.size_eq
 obtain⟨x,ex,hxm⟩:=at_lt (a:=arrOf st') (i:=0+i) (by omega)
 obtain⟨y,ey,hym⟩:=at_lt (a:=arrOf st') (i:=0+j) (by omega)
 have px:=(Array.perm_iff_toList_perm.mp a1).mem_iff.mp hxm
 have py:=(Array.perm_iff_toList_perm.mp a1).mem_iff.mp hym
 have:=a2 i j hij hj
 have q1:=kk_some (O:=prOrd) (ky:=kyP s.heap) ex
 have q2:=kk_some (O:=prOrd) (ky:=kyP s.heap) ey
 have q3:=kk_some (O:=prOrd) (ky:=kyP (((s.heap.push (seqObj "list" #[] 0)).update s.heap.objs.size (Obj.mapSeq (·++vs.toArray))).push (seqObj "list" vs.toArray 0))) ex
 have q4:=kk_some (O:=prOrd) (ky:=kyP (((s.heap.push (seqObj "list" #[] 0)).update s.heap.objs.size (Obj.mapSeq (·++vs.toArray))).push (seqObj "list" vs.toArray 0))) ey
 rw[<- eqk x px,<- q1] at q3
 rw[<- eqk y py,<- q2] at q4
 rw[<- q3,<- q4]
 exact this
end
end SO
namespace L2
open PySem PySem.Spec PyProof.Rows SO
section
variable {X:Cx}
theorem call_sortedP6 (hu:X.A.units+4<cLine):CallR X (.builtin "sorted") (fun xs H Q=>∃p zs,xs=[.ref p]/\SqL X.K H p (zs.map fun z:Addr×KP=>V.ref z.1)/\(∀z∈zs,PrA H z)/\zs.length<=63/\∀(l:Addr) (zs':List (Addr×KP)),H l=none->zs'.Perm zs->zs'.Pairwise (fun x y=>prLt y.2 x.2=false)->Q (.ref l) (upd H l (.lst (zs'.map fun z=>V.ref z.1)))):=by
 intro pins s σ H xs us Q I r h
 obtain⟨p,zs,rfl,hq,hp,hz,q⟩:=h
 obtain⟨u,rfl,rx⟩:=vals1 r
 cases rx
 obtain⟨its,r',pl,hz'⟩:=I.list hq
 obtain rfl:=vals_refs r'
 refine sorted_prs6 hu pl.isList (pras_are I hp) (by simpa using hz) fun st' a1 a2=>?_
 have hpr:((arrOf st').toList.map (fun x=>(adr x.2,kyP s.heap x))).Perm zs:=by
  have:=(Array.perm_iff_toList_perm.mp a1).map (fun x=>(adr x.2,kyP s.heap x))
  rw[show(pairsOf (zs.map fun z=>Value.ref z.1)).toList=(zs.map fun z=>Value.ref z.1).zip (zs.map fun z=>Value.ref z.1) by simp[pairsOf],pras_zip I hp] at this
  exact this
 have hout:((arrOf st').map (·.2)).toList=((arrOf st').toList.map (fun x=>(adr x.2,kyP s.heap x))).map fun z=>Value.ref z.1:=by
  rw[Array.toList_map,List.map_map]
  refine List.map_congr_left fun x hx=>?_
  have hm:=pairs_mem ((Array.perm_iff_toList_perm.mp a1).mem_iff.mp hx)
  obtain⟨z,hz1,hz2⟩:=List.mem_map.mp hm.1
  show x.2=Value.ref (adr x.2)
  rw[hm.2,<- hz2]
  rfl
 generalize hzs:(arrOf st').toList.map (fun x=>(adr x.2,kyP s.heap x))=zs' at hpr hout
 have hsrt:zs'.Pairwise (fun x y=>prLt y.2 x.2=false):=by
  rw[<- hzs,List.pairwise_map]
  have hsz:(arrOf st').size=(pairsOf (zs.map fun z=>Value.ref z.1)).size:=a1.size_eq
  rw[<- hsz] at a2
  have hh:SL (O:=prOrd) (kyP s.heap) (arrOf st').toList:=up_SL a2
  exact hh
 obtain⟨c,he⟩:=sortedAll_at s.heap (zs.map fun z=>Value.ref z.1) ((arrOf st').map (·.2))
 have hl':=hpr.length_eq
 have hout':(arrOf st').map (·.2)=(zs'.map fun z=>Value.ref z.1).toArray:=by rw[<- hout,Array.toArray_toList]
 rw[hout'] at he ⊢
 have hob:ObjOk X.prog X.w (upd H (s.heap.objs.size+1) (.lst (zs'.map fun z=>V.ref z.1))) (sortedAll s.heap (zs.map fun z=>Value.ref z.1) (zs'.map fun z=>Value.ref z.1).toArray) (s.heap.objs.size+1) (.lst (zs'.map fun z=>V.ref z.1)):=
  ⟨by rw[List.length_map,hl'];exact Nat.le_of_lt (small1000 (Nat.le_trans hz (by decide))),zs'.map fun z=>Value.ref z.1,c,vals_of_refs zs',he⟩
 exact⟨.ref (s.heap.objs.size+1),_,I.laid (t':=s.toks) (fun _ _=>sortedAll_old) (Nat.le_succ _) hob,rfl,q _ zs' (I.hok.fresh (Nat.le_succ _)) hpr hsrt⟩
end
end L2
namespace SO
open PySem PyProof PyProof.Rows HT
section
variable {prog:Program} {w:World} {A:Around} {E:Value->Shared->Prop} {s:Shared}
theorem end_keyed6 {P:PySem.Fin->Shared->Prop}{a kS:Addr}{e1 c:Nat}{vs ks:List Value}{kps:List KP}(hu:A.units+2<cLine)(hz:vs.length<=63)(hl:ks.length=vs.length)(hka:kS≠a)
  (hk:s.heap.get? kS=some (seqObj "list" ks.toArray c)) (ho:s.heap.get? a=some (seqObj "list" #[] e1)) (hx:PrKs s.heap kps ks)
  (h:∀st':SortSt,(arrOf st').Perm (ks.toArray.zip vs.toArray)->Up (O:=prOrd) (kyP s.heap) (arrOf st') 0 (ks.toArray.zip vs.toArray).size→
   P (.done (.ret .none)) { s with heap:=(s.heap.update kS (Obj.mapSeq fun _=>#[])).update a (Obj.mapSeq fun _=>(arrOf st').map (·.2)) }):
  wpAny (model prog w) A (ksk_end a false vs.toArray e1 (.ref kS) ks.toArray) P E s:=by
 have hsz:(ks.toArray.zip vs.toArray).size=vs.length:=by simp[hl]
 have tail:∀st':SortSt,(arrOf st').Perm (ks.toArray.zip vs.toArray)->failedOf st'=none->Up (O:=prOrd) (kyP s.heap) (arrOf st') 0 (ks.toArray.zip vs.toArray).size->wpAny (model prog w) A (ksk_tail a false e1 (.ref kS) st') P E s:=by
  intro st' a1 a2 a3
  unfold ksk_tail
  refine wpAny_bind (listUpdate_at hk rfl ?_ (by rw[List.size_toArray,sizeLine_eq];omega) (Nat.zero_le _))
  refine wpAny_bind (wpAny_letGo ?_)
  have ho':(s.heap.update kS (Obj.mapSeq fun _=>#[])).get? a=some (seqObj "list" #[] e1):=by
   rw[Heap.get?_update_ne _ _ _ _ (fun e=>hka e.symm)];exact ho
  refine wpAny_bind (seqEpoch_at ho' rfl ?_)
  simp only[Bool.false_eq_true,if_false]
  refine wpAny_bind (listUpdate_at ho' rfl ?_ (Nat.zero_le _) (by rw[Array.size_map,a1.size_eq,hsz,sizeLine_eq];omega))
  rw[a2]
  simp only[bne_self_eq_false,Bool.false_eq_true,if_false]
  exact wpAny_pure (h st' a1 a3)
 unfold ksk_end
 dsimp only
 simp only[Bool.false_eq_true,if_false]
 by_cases h2:vs.toArray.size<2
 ·rw[if_pos h2,if_pos h2]
  refine wpAny_bind (wpAny_pure ?_)
  rw[StateT.run_pure]
  refine wpAny_bind (wpAny_pure ?_)
  refine tail _ (Array.Perm.refl _) rfl ?_
  intro i j hij hj
  rw[List.size_toArray] at h2
  have:i=j:=by omega
  subst this;exact KeyOrd.kle_refl _
 ·rw[if_neg h2,if_neg h2]
  rw[List.size_toArray] at h2
  refine wpAny_bind (prs_kind hx (by omega) ?_)
  refine wpAny_bind (wpAny_mono (wpS_sortFew (O:=prOrd) (ky:=kyP s.heap) (κ:=tuples' true) (a₀:=ks.toArray.zip vs.toArray) (st:=SortSt.mk' (tuples' true) (ks.toArray.zip vs.toArray) #[] 7 none)
   (Q:=fun _ st'=>(arrOf st').Perm (ks.toArray.zip vs.toArray)/\failedOf st'=none/\Up (O:=prOrd) (kyP s.heap) (arrOf st') 0 (ks.toArray.zip vs.toArray).size)
   ?cmp ⟨Array.Perm.refl _,rfl,rfl⟩ rfl (by omega) (by omega) fun st' a1 a2=>⟨a1.perm,a1.failed,a2⟩) ?_ fun _ _ e=>e)
  case cmp=>
   refine cmp_prs hu fun x hxm=>?_
   obtain⟨k,k1,k2⟩:=hx.mem _ (zip_mem hxm).1
   exact⟨k,k2⟩
  rintro⟨⟨⟩,st'⟩ s' ⟨rfl,hp,hf,hs⟩
  exact tail st' hp hf hs
end
end SO
namespace L2
open PySem PySem.Spec PyProof.Rows SO
section
variable {X:Cx}
theorem sortedK_run6 {pins:List (Addr×Obj)}{σ:St}{H:Hp}{s:Shared}{k:Nat}{p f:Addr}{fd:FuncData}{ps:List Str}{sp:Sp}{zs:List (Addr×KP)}{Q:VK}
  (I:Inv X pins σ H s) (F:FnOk X.prog X.w X.K X.mg X.base CX0 k f fd ps sp) (hr:Room k X.A.in1.in1) (hu:X.A.units+4<cLine) (hb:Binds X.K fd ps []) (hq:SqL X.K H p (zs.map fun z=>V.ref z.1)) (hz:zs.length<=63)
  (hsp:∀z∈zs,∀H1,Same H H1->∀(Q:VK) (E:XK),(∀q H2,Same H1 H2->PrA H2 (q,z.2)->Q (.ref q) H2)->sp [.ref z.1] H1 Q E)
  (q:∀(l:Addr) (zs':List (Addr×KP)) (H':Hp),Same H H'->H' l=none->zs'.Perm zs->zs'.Pairwise (fun x y=>prLt y.2 x.2=false)->Q (.ref l) (upd H' l (.lst (zs'.map fun z=>V.ref z.1)))):
  wpAny (model X.prog X.w) X.A (call (.builtin "sorted") [.ref p] [(Str.ofString "key",.ref f)]) (EP X pins σ Q) X.xe s:=by
 obtain⟨its,r',pl,hz'⟩:=I.list hq
 obtain rfl:=vals_refs r'
 generalize hvs:(zs.map fun z=>Value.ref z.1)=vs at pl
 have hlen:vs.length=zs.length:=by rw[<- hvs,List.length_map]
 refine PyProof.Rows.call_function_entry_kw kind_sorted plain_sorted entry_sorted (PyProof.Rows.ksk_s1 _ _) ?_
 unfold Builtin.«sorted»
 refine wpAny_bind (m:=checkCount "sorted" 1 1 _) (wpAny_pure ?_)
 refine wpAny_bind (collect_list pl.isList ?_ (by rw[sizeLine_eq];omega))
 refine wpAny_bind (wpAny_newList ?_ (by rw[sizeLine_eq];omega))
 have hsz:((s.heap.push (seqObj "list" #[] 0)).update s.heap.objs.size (Obj.mapSeq (·++vs.toArray))).objs.size=s.heap.objs.size+1:=by
  rw[Heap.size_update,size_push']
 have hoL:(((s.heap.push (seqObj "list" #[] 0)).update s.heap.objs.size (Obj.mapSeq (·++vs.toArray))).push (seqObj "list" vs.toArray 0)).get? (s.heap.objs.size+1)=some (seqObj "list" vs.toArray 0):=by
  rw[<- hsz];exact Heap.get?_push_size _ rfl
 have keep:∀b o,s.heap.get? b=some o->(((s.heap.push (seqObj "list" #[] 0)).update s.heap.objs.size (Obj.mapSeq (·++vs.toArray))).push (seqObj "list" vs.toArray 0)).get? b=some o:=fun b o q=>by
  have hlt:b<s.heap.objs.size:=Heap.lt_size q
  rw[Heap.get?_push_ne _ _ _ (by rw[hsz];exact Nat.ne_of_lt (Nat.lt_succ_of_lt hlt)),Heap.get?_update_ne _ _ _ _ (Nat.ne_of_lt hlt),Heap.get?_push_ne _ _ _ (Nat.ne_of_lt hlt)]
  exact q
 show wpAny _ _ _ _ _ { s with heap:=((s.heap.push (seqObj "list" #[] 0)).update s.heap.objs.size (Obj.mapSeq (·++vs.toArray))).push (seqObj "list" vs.toArray 0) }
 rw[hsz]
 have hpsz:(((s.heap.push (seqObj "list" #[] 0)).update s.heap.objs.size (Obj.mapSeq (·++vs.toArray))).push (seqObj "list" vs.toArray 0)).objs.size=s.heap.objs.size+2:=by
  rw[size_push',hsz]
 generalize hhp:((s.heap.push (seqObj "list" #[] 0)).update s.heap.objs.size (Obj.mapSeq (·++vs.toArray))).push (seqObj "list" vs.toArray 0)=hp at hoL keep hpsz
 refine wpAny_bind (wpAny_holding (wpAny_call_entry_kw slot_list_sort ⟨_,hoL,rfl⟩ entry_list_sort ?body (PyProof.Rows.ksk_l1 _ _)))
 case body=>
  show wpAny (model X.prog X.w) X.A.in1.in1 (Builtin.«list.sort» ⟨[.ref (s.heap.objs.size+1)],[(Str.ofString "key",.ref f)]⟩) _ _ _
  rw[ksk_t1]
  unfold ksk_tree
  generalize ha:s.heap.objs.size+1=a at hoL
  have hage:s.heap.objs.size<=a:=by omega
  refine wpAny_bind (listItems_at hoL rfl ?_)
  refine wpAny_bind (listUpdate_at hoL rfl ?_ (by rw[List.size_toArray,sizeLine_eq];omega) (Nat.zero_le _))
  obtain⟨e1,ho1⟩:∃e1,(hp.update a (Obj.mapSeq fun _=>(#[]:Array Value))).get? a=some (seqObj "list" #[] e1):=⟨_,get?_update_seq hoL fun _=>#[]⟩
  refine wpAny_bind (seqEpoch_at ho1 rfl ?_)
  refine wpAny_bind (wpAny_newTuple ?_ (by show vs.length<=_;rw[sizeLine_eq];omega))
  refine wpAny_bind (wpAny_newList ?_ (Nat.zero_le _))
  refine wpAny_holding ?_
  have hksz:((hp.update a (Obj.mapSeq fun _=>(#[]:Array Value))).push (seqObj "tuple" vs.toArray 0)).objs.size=s.heap.objs.size+3:=by
   rw[size_push',Heap.size_update,hpsz]
  have hal:a<hp.objs.size:=Heap.lt_size hoL
  have hk4:(((hp.update a (Obj.mapSeq fun _=>(#[]:Array Value))).push (seqObj "tuple" vs.toArray 0)).push (seqObj "list" #[] 0)).get? ((hp.update a (Obj.mapSeq fun _=>(#[]:Array Value))).push (seqObj "tuple" vs.toArray 0)).objs.size=some (seqObj "list" #[] 0):=Heap.get?_push_size _ rfl
  have ha4:(((hp.update a (Obj.mapSeq fun _=>(#[]:Array Value))).push (seqObj "tuple" vs.toArray 0)).push (seqObj "list" #[] 0)).get? a=some (seqObj "list" #[] e1):=Heap.get?_push_of_some _ (Heap.get?_push_of_some _ ho1)
  have keep4:∀b o,s.heap.get? b=some o->(((hp.update a (Obj.mapSeq fun _=>(#[]:Array Value))).push (seqObj "tuple" vs.toArray 0)).push (seqObj "list" #[] 0)).get? b=some o:=fun b o e=>by
   have hlt:b<s.heap.objs.size:=Heap.lt_size e
   refine Heap.get?_push_of_some _ (Heap.get?_push_of_some _ ?_)
   rw[Heap.get?_update_ne _ _ _ _ (Nat.ne_of_lt (Nat.lt_of_lt_of_le hlt hage))]
   exact keep b o e
  show wpAny (model X.prog X.w) X.A.in1.in1 (ksk_rest a (.ref f) false vs.toArray e1 (.ref ((hp.update a (Obj.mapSeq fun _=>(#[]:Array Value))).push (seqObj "tuple" vs.toArray 0)).objs.size)) _ _ { s with heap:=((hp.update a (Obj.mapSeq fun _=>(#[]:Array Value))).push (seqObj "tuple" vs.toArray 0)).push (seqObj "list" #[] 0) }
  generalize hkS:((hp.update a (Obj.mapSeq fun _=>(#[]:Array Value))).push (seqObj "tuple" vs.toArray 0)).objs.size=kS at hksz hk4
  generalize hh4:((hp.update a (Obj.mapSeq fun _=>(#[]:Array Value))).push (seqObj "tuple" vs.toArray 0)).push (seqObj "list" #[] 0)=h4 at hk4 ha4 keep4
  have hkge:s.heap.objs.size<=kS:=by omega
  have hka:kS≠a:=by omega
  have nk:=nw_of I hkge
  have na:=nw_of I hage
  have I4:Inv X pins σ H { s with heap:=h4,toks:=s.toks }:=I.kept keep4
  have J0:KJ X pins σ H kS a e1 zs 0 [] { s with heap:=h4 }:=⟨⟨H,0,[],I4,Same.refl H,I.hok.fresh hkge,I.hok.fresh hage,hk4,ha4,rfl,fun q hq=>by(cases hq),rfl⟩⟩
  refine rest_keyed (by omega) (KJ X pins σ H kS a e1 zs) J0 (fun i v ks s' hv hl hJ=>?_) (fun i ks s' hJ=>?_) (fun ks s' hl hJ=>?_)
  ·rw[<- hvs,List.getElem?_map] at hv
   obtain⟨z,hz1,rfl⟩:=Option.map_eq_some_iff.mp hv
   exact key_step F hr hb nk na hka hz1 (hsp z (List.mem_of_getElem? hz1)) hJ
  ·obtain⟨H1,c,qs,I1,_,_,_,hk,_⟩:=hJ.ex
   exact⟨c,hk⟩
  ·obtain⟨H1,c,qs,I1,hS,hk0,ha0,hk,haa,hks,hpq,hqz⟩:=hJ.ex
   rw[hlen,List.take_length] at hqz
   have hPr:∀q∈qs,PrK s'.heap q.2 (.ref q.1):=fun q hq=>pra_is I1 (hpq q hq)
   subst hks
   have hPs:PrKs s'.heap (qs.map (·.2)) (qs.map fun q=>Value.ref q.1):=pras_are I1 hpq
   refine end_keyed6 (by show X.A.units+1+1+2<_;omega) (by omega) hl hka hk haa hPs fun st' a1 a2=>⟨_,rfl,?_⟩
   have hzl:((qs.map fun q=>Value.ref q.1).toArray.zip vs.toArray).toList=(qs.map fun q=>Value.ref q.1).zip (zs.map fun z=>Value.ref z.1):=by rw[<- hvs];simp
   have hpr:((arrOf st').toList.map (fun x=>(adr x.2,kyP s'.heap x))).Perm zs:=by
    have:=(Array.perm_iff_toList_perm.mp a1).map (fun x=>(adr x.2,kyP s'.heap x))
    rw[hzl,zip_pairs hPr hqz] at this
    exact this
   have hout:((arrOf st').map (·.2)).toList=((arrOf st').toList.map (fun x=>(adr x.2,kyP s'.heap x))).map fun z=>Value.ref z.1:=by
    rw[Array.toList_map,List.map_map]
    refine List.map_congr_left fun x hx=>?_
    have hm:=(zip_mem ((Array.perm_iff_toList_perm.mp a1).mem_iff.mp hx)).2
    rw[<- hvs] at hm
    obtain⟨z,hz1,hz2⟩:=List.mem_map.mp hm
    show x.2=Value.ref (adr x.2)
    rw[<- hz2]
    rfl
   have hsrt:((arrOf st').toList.map (fun x=>(adr x.2,kyP s'.heap x))).Pairwise (fun x y=>prLt y.2 x.2=false):=by
    rw[List.pairwise_map]
    rw[<- a1.size_eq] at a2
    have hh:SL (O:=prOrd) (kyP s'.heap) (arrOf st').toList:=up_SL a2
    exact hh
   generalize hzs:(arrOf st').toList.map (fun x=>(adr x.2,kyP s'.heap x))=zs' at hpr hout hsrt
   have hout':(arrOf st').map (·.2)=(zs'.map fun z=>Value.ref z.1).toArray:=by rw[<- hout,Array.toArray_toList]
   rw[hout']
   have sb1:=Heap.SameBut.update s'.heap kS (Obj.mapSeq fun _=>(#[]:Array Value))
   have I5:Inv X pins σ H1 { s' with heap:=s'.heap.update kS (Obj.mapSeq fun _=>#[]),toks:=s'.toks }:=I1.turned (fun b o hb e=>(sb1.2 b hb).trans e) hk0 nk.loc (.inr nk.new) nk.cel nk.pin
   have hl':=hpr.length_eq
   have ho':(s'.heap.update kS (Obj.mapSeq fun _=>(#[]:Array Value))).get? a=some (seqObj "list" #[] e1):=by
    rw[Heap.get?_update_ne _ _ _ _ (fun e=>hka e.symm)];exact haa
   have sb2:=Heap.SameBut.update (s'.heap.update kS (Obj.mapSeq fun _=>(#[]:Array Value))) a (Obj.mapSeq fun _=>(zs'.map fun z=>Value.ref z.1).toArray)
   obtain⟨c2,hc2⟩:∃c2,((s'.heap.update kS (Obj.mapSeq fun _=>(#[]:Array Value))).update a (Obj.mapSeq fun _=>(zs'.map fun z=>Value.ref z.1).toArray)).get? a=some (seqObj "list" (zs'.map fun z=>Value.ref z.1).toArray c2):=⟨_,get?_update_seq ho' fun _=>(zs'.map fun z=>Value.ref z.1).toArray⟩
   have I6:Inv X pins σ H1 { s' with heap:=(s'.heap.update kS (Obj.mapSeq fun _=>#[])).update a (Obj.mapSeq fun _=>(zs'.map fun z=>Value.ref z.1).toArray),toks:=s'.toks }:=I5.turned (fun b o hb e=>(sb2.2 b hb).trans e) ha0 na.loc (.inr na.new) na.cel na.pin
   have new:ObjOk X.prog X.w (upd H1 a (.lst (zs'.map fun z=>V.ref z.1))) ((s'.heap.update kS (Obj.mapSeq fun _=>(#[]:Array Value))).update a (Obj.mapSeq fun _=>(zs'.map fun z=>Value.ref z.1).toArray)) a (.lst (zs'.map fun z=>V.ref z.1)):=
    ⟨by rw[List.length_map,hl'];exact Nat.le_of_lt (small1000 (Nat.le_trans hz (by decide))),zs'.map fun z=>Value.ref z.1,c2,vals_of_refs zs',hc2⟩
   have I7:=I6.adopt na ha0 new
   exact wpAny_pure ⟨_,rfl,.ref a,_,I7,(by first|rfl|(rw[<- ha];rfl)),q a zs' H1 hS ha0 hpr hsrt⟩
end
end L2
namespace L2
open PySem PySem.Spec PyProof.Rows SO
section
variable {X:Cx} {k:Nat} {f:Addr} {fd:FuncData} {ps:List Str} {sp:Sp} {p pos kpos:Pos} {e ke:Expr} {t:TA} {tk:TE}
def tSrtK6 (K:W.Frag)(f:Addr)(sp:Sp)(t:TA)(tk:TE):TE:=fun σ H Q=>t σ H fun vs H1=>tk σ H1 fun w H2=>∃(p:Addr) (zs:List (Addr×KP)),vs=[.ref p]/\w=.ref f/\SqL K H2 p (zs.map fun z=>V.ref z.1)/\zs.length<=63∧
 (∀z∈zs,∀H3,Same H2 H3->∀(Q:VK) (E:XK),(∀q H4,Same H3 H4->PrA H4 (q,z.2)->Q (.ref q) H4)->sp [.ref z.1] H3 Q E)∧
 ∀(l:Addr) (zs':List (Addr×KP)) (H':Hp),Same H2 H'->H' l=none->zs'.Perm zs->zs'.Pairwise (fun x y=>prLt y.2 x.2=false)->Q (.ref l) (upd H' l (.lst (zs'.map fun z=>V.ref z.1)))
theorem pe_sortedK6 (F:FnOk X.prog X.w X.K X.mg X.base CX0 k f fd ps sp)(hr:Room k X.A.in1.in1)(hu:X.A.units+4<cLine)(hb:Binds X.K fd ps [])(hg:Gl X "sorted")(hm:X.mg "sorted"=none)(hv:bootBuiltins "sorted"=some (.builtin "sorted"))
  (ha:PA X [e] t) (hk:PE X ke tk) (he:backTo pos (starEach [e] X.env)=(false,eval e X.env)::backTo pos (starEach [] X.env):=by rfl) (hplain:(backTo pos (starEach [e] X.env)).any (·.1)=false:=by rfl)
  (hall:(backToKw pos (keywordEach [⟨some "key",ke,kpos⟩] X.env)).all (·.1.isSome)=true:=by rfl) (hkw:(backToKw pos (keywordEach [⟨some "key",ke,kpos⟩] X.env)).any (·.1.isNone)=false:=by rfl)
  (hks:(backToKw pos (keywordEach [⟨some "key",ke,kpos⟩] X.env)).filterMap (·.1)=[Str.ofString "key"]:=by rfl):PE X (.Call (.Name "sorted" p) [e] [⟨some "key",ke,kpos⟩] pos) (tSrtK6 X.K f sp t tk):=by
 intro pins s σ H Q I h
 refine wpAny_Call_Name_kw (ld_blt I hg hm hv ?_ (by decide) (by decide))
 refine callWith_kw (thn (ha pos pins s σ H _ I h) fun us s1 ⟨vs,H1,I1,r1,q1⟩=>?_) he hplain hall hkw
 have q1':tCons tk tNil σ H1 (oneV _):=q1
 refine thn (pk_cons (kpos:=kpos) (nm:=some "key") hk pk_nil pos pins s1 σ H1 _ I1 q1') fun ws s2 hq9=>?_
 obtain⟨xs,H2,I2,rz,q2⟩:=hq9
 rw[hks]
 obtain⟨w,rfl⟩:∃w,xs=[w]:=by
  match xs,q2 with
  | [w],_=>exact⟨w,rfl⟩
 obtain⟨u,rfl,ru⟩:=vals1 rz
 obtain⟨p',zs,rfl,rfl,hq,hz,hsp,q⟩:=q2
 obtain⟨u',rfl,rx⟩:=vals1 r1
 obtain rfl:u'=.ref p':=rx
 obtain rfl:u=.ref f:=ru
 have fin:=sortedK_run6 (Q:=Q) I2 F hr hu hb hq hz hsp q
 rw[show[Str.ofString "key"].zip [Value.ref f]=[(Str.ofString "key",Value.ref f)] by rw[List.zip_cons_cons,List.zip_nil_left]]
 exact fin
end
end L2
namespace SO
open PySem PyProof PyProof.Rows HT PySem.W
section
variable {prog:Program} {w:World} {A:Around} {E:Value->Shared->Prop} {s:Shared}
theorem walks_ent (hh:A.handled=none)(I d:Addr)(hne:d≠I){od:Obj}{es:Array DictEntry}{ep:Nat}(hdat:od.data=.dict es ep):
  Walks prog w A I [I,d] [I] es.size (fun i v=>∃e,es[i]?=some e/\v=e.key) (fun i h=>h.IsKeyIter I d i es.size ep/\h.get? d=some od) where
 sub:=fun b hb=>by simp at hb;simp[hb]
 frame:=fun _ _ _ st hk=>⟨st.1.at fun o e=>hk I (by simp) o e,hk d (by simp) _ st.2⟩
 item:=fun i s Q E hi st hQ=>by
  obtain⟨e,hx⟩:∃p,es[i]?=some p:=⟨es[i],by simp[hi]⟩
  refine L2.next_keys_item st.1 st.2 hdat hx fun h' hit' hs'=>?_
  exact hQ e.key h' s.toks ⟨e,hx,rfl⟩ ⟨hit',hs'.extBut d od hne st.2⟩ fun b o hb e=>hs'.extBut b o (fun h=>hb (by simp[h])) e
 done:=fun s Q E st hQ=>L2.next_keys_end hh st.1 st.2 hdat (Nat.le_refl _) fun h' he'=>hQ h' s.toks fun b o hb e=>he' b o (fun h=>hb (by simp[h])) e
 self:=fun _ _ _ _ st hQ=>wpAny_pyIter_keyiter st.1 hQ
theorem iter_dictE {d:Addr}{o:Obj}{es:Array DictEntry}{ep:Nat}{Q:Value->Shared->Prop}(hd:(d==sysModules)=false)(ho:s.heap.get? d=some o)(hx:o.ExactDict)(hdat:o.data=.dict es ep)
  (hQ:Q (.ref s.heap.objs.size) { s with heap:=s.heap.push { cls:=.type "dict_keyiterator",data:=.fields #[.ref d,.int 0 0,.int es.size 0,.int ep 0] } }):
  wpAny (model prog w) A (pyIter (.ref d)) Q E s:=by
 have hT:s.TypeIs (.ref d) "dict":=⟨o,ho,hx.1⟩
 refine wpAny_pyIter_slot hT F.slot_dict_iter (wpAny_call_entry F.slot_dict_iter hT F.entry_dict_iter ?_ (F.args_dict_iter_1 _))
 unfold Builtin.«dict.__iter__»
 refine wpAny_bind ?_
 unfold Builtin.Dict.dictSlotNone
 refine wpAny_bind (wpAny_notOrdered_dict hT ?_)
 show wpAny _ _ (pure (Value.ref d)) _ _ s
 refine wpAny_pure ?_
 show wpAny _ _ (Builtin.Dict.showsAll d >>= _) _ _ s
 unfold Builtin.Dict.showsAll
 rw[if_neg (by rw[hd];exact Bool.false_ne_true)]
 refine wpAny_bind (wpAny_pure ?_)
 refine wpAny_bind (wpAny_dictEntries ho hdat ?_)
 refine wpAny_bind (wpAny_dictEpoch ho hdat ?_)
 refine wpAny_bind (wpAny_newObj_type (wpAny_pure ⟨_,rfl,"dict_keyiterator",_,⟨_,Heap.get?_push_size _ rfl,rfl⟩,F.slot_dict_keyiterator_next.lookup,?_⟩))
 simpa [rawInt] using hQ
theorem src_dictE {d:Addr}{od:Obj}{es:Array DictEntry}{ep:Nat}(lo:(d==sysModules)=false)(hx:od.ExactDict)(hdat:od.data=.dict es ep):
  KdlSrc prog w "dict" d d es.size (fun i v=>∃e,es[i]?=some e/\v=e.key) (fun h=>h.get? d=some od) where
 type:=fun _ hm=>⟨od,hm,hx.1⟩
 there:=fun _ hm=>⟨Heap.lt_size hm,Heap.lt_size hm⟩
 keep:=fun _ _ hm hk=>hk d (.inl rfl) _ hm
 notList:=by decide
 notTuple:=by decide
 hint:=fun _ _ _ _ hm hq=>kdl_hint_dict ⟨od,hm,hx.1⟩ hq
 iter:=fun _ _ hh hm=>⟨_,_,(fun _ _ hq=>iter_dictE lo hm hx hdat hq),walks_ent hh _ d (Nat.ne_of_lt (Heap.lt_size hm)) hdat,⟨⟨_,Heap.get?_push_size _ rfl,rfl,rfl⟩,Heap.get?_push_of_some _ hm⟩⟩
end
end SO
namespace L2
open PySem PySem.Spec PyProof.Rows SO
section
variable {X:Cx}
theorem ent_refs {P:Program}{w:World}{xs:List (KTu×Addr×V)}{us:List (KTu×Addr×Value)}{es:Array DictEntry}(r:Paired TRel xs us)(e:es.toList=us.map (entryOfKey (tupleKind (numKind P w)))):es.size=xs.length/\∀(i:Nat) (v:Value),(∃d:DictEntry,es[i]?=some d/\v=d.key)->∃p,xs[i]?=some p/\v=Value.ref p.2.1:=by
 have hl:us.length=xs.length:=r.length.symm
 refine⟨by rw[<- Array.length_toList,e,List.length_map,hl],fun i v ⟨d,hd,hv⟩=>?_⟩
 rw[<- Array.getElem?_toList,e,List.getElem?_map] at hd
 obtain⟨q,hq,rfl⟩:=Option.map_eq_some_iff.mp hd
 have hi:i<xs.length:=by rw[<- hl];exact(List.getElem?_eq_some_iff.mp hq).1
 obtain⟨q',h1,h2⟩:=trel_get r (List.getElem?_eq_getElem hi)
 rw[hq] at h1
 cases h1
 refine⟨_,List.getElem?_eq_getElem hi,?_⟩
 rw[hv,h2.2.1]
 rfl
theorem items_refs {xs:List (KTu×Addr×V)}{acc:Array Value}{Pv:Nat->Value->Prop}{n:Nat}(hn:n=xs.length)(h:ItemsOf Pv acc n)(hp:∀i v,Pv i v->∃p,xs[i]?=some p/\v=.ref p.2.1):acc.toList=xs.map fun x=>Value.ref x.2.1:=by
 apply List.ext_getElem?
 intro i
 rw[List.getElem?_map,Array.getElem?_toList]
 by_cases hi:i<acc.size
 ·obtain⟨p,h1,h2⟩:=hp i _ (h.2 i _ (getElem?_pos acc i hi))
  rw[getElem?_pos acc i hi,h1,h2]
  rfl
 ·rw[getElem?_neg acc i hi,List.getElem?_eq_none (by rw[<- hn,<- h.1];omega)]
  rfl
theorem vals_adrs {α:Type}(g:α->Addr):∀(xs:List α),Vals (xs.map fun x=>V.ref (g x)) (xs.map fun x=>Value.ref (g x))
 | []=>.nil
 |_::xs=>.cons rfl (vals_adrs g xs)
theorem call_listTD (hc:X.calm=true):CallR X (.type "list") (fun vs H Q=>∃a xs o,vs=[V.ref a]/\H a=some (TD X.prog X.w a xs o)/\∀l,H l=none->Q (.ref l) (upd H l (.lst (xs.map fun x=>V.ref x.2.1)))):=by
 intro pins s σ H vs us Q I r h
 obtain⟨a,xs,o,rfl,ha,q⟩:=h
 obtain⟨u,rfl,rx⟩:=vals1 r
 obtain rfl:u=.ref a:=rx
 obtain⟨ho,hd,hz,hx,ks,es,ep,hr,hdat,he,hnd⟩:=td_at I ha
 obtain⟨hsz,hrf⟩:=ent_refs hr he
 refine W.kdl_call (src_dictE hd hx hdat) (I.ok.hd hc) ho (by rw[hsz];exact hz) fun h' tk acc c hk hD hacc=>?_
 have hl:=items_refs hsz hacc hrf
 have hD':h'.get? s.heap.objs.size=some (seqObj "list" (xs.map fun x=>Value.ref x.2.1).toArray c):=by rw[<- hl,Array.toArray_toList];exact hD
 have hob:ObjOk X.prog X.w (upd H s.heap.objs.size (.lst (xs.map fun x=>V.ref x.2.1))) h' s.heap.objs.size (.lst (xs.map fun x=>V.ref x.2.1)):=
  ⟨by rw[List.length_map];exact hz,xs.map fun x=>Value.ref x.2.1,c,vals_adrs (fun x:KTu×Addr×V=>x.2.1) xs,hD'⟩
 exact⟨.ref s.heap.objs.size,_,I.laid (t':=tk) hk (Nat.le_refl _) hob,rfl,q _ (I.hok.fresh (Nat.le_refl _))⟩
end
end L2
namespace L2
open PySem PySem.Spec PyProof.Rows
section
variable {X:Cx}
def putV {κ:Type}[DecidableEq κ](k:κ)(v:V)(x:κ×Addr×V):κ×Addr×V:=if x.1=k then(x.1,x.2.1,v) else x
def putH {κ:Type}[DecidableEq κ](xs:List (κ×Addr×V))(k:κ)(b:Addr)(v:V):List (κ×Addr×V):=if (xs.any fun x=>decide (x.1=k))=true then xs.map (putV k v) else xs++[(k,b,v)]
abbrev KRel {κ:Type}:κ×Addr×V->κ×Addr×Value->Prop:=fun p q=>p.1=q.1/\p.2.1=q.2.1/\RelV p.2.2 q.2.2
theorem krel_some {κ:Type}[DecidableEq κ]{xs:List (κ×Addr×V)}{us:List (κ×Addr×Value)}(r:Paired KRel xs us)(k:κ):(atKey us k).isSome=xs.any fun x=>decide (x.1=k):=by
 induction r with
 |nil=>rfl
 |@cons p q ps qs h t ih=>
  rw[List.any_cons,<- ih]
  unfold atKey
  rw[List.find?_cons,<- h.1]
  by_cases e:p.1=k<;>simp[e]
theorem krel_put {κ:Type}[DecidableEq κ]{xs:List (κ×Addr×V)}{us:List (κ×Addr×Value)}(r:Paired KRel xs us)(k:κ)(b:Addr){v:V}{u:Value}(rv:RelV v u):Paired KRel (putH xs k b v) (storedH us k b u):=by
 unfold putH storedH
 rw[krel_some r k]
 split
 ·rename_i hh
  clear hh
  induction r with
  |nil=>exact .nil
  |@cons p q ps qs h t ih=>
   rw[List.map_cons,List.map_cons]
   refine .cons ?_ ih
   unfold putV putAt
   rw[<- h.1]
   by_cases e:p.1=k
   ·rw[if_pos e,if_pos e]
    exact⟨rfl,h.2.1,rv⟩
   ·rw[if_neg e,if_neg e]
    exact h
 ·exact Paired.snoc r ⟨rfl,rfl,rv⟩
theorem putH_length {κ:Type}[DecidableEq κ](xs:List (κ×Addr×V))(k:κ)(b:Addr)(v:V):(putH xs k b v).length<=xs.length+1:=by
 unfold putH
 split
 ·rw[List.length_map];omega
 ·rw[List.length_append];exact Nat.le_refl _
def sTPutA (P:Program)(w:World)(td ty tv:TE):TS:=fun D σ H=>tv σ H fun v H1=>td σ H1 fun x H2=>ty σ H2 fun y H3=>∃a xs o b k,x=.ref a/\H3 a=some (TD P w a xs o)/\TKs H3 xs/\y=.ref b/\TKy H3 k b/\xs.length<sizeLine∧
 ∀o',D.nx σ (upd H3 a (TD P w a (putH xs k b v) o'))
theorem ps_tputA {o i value:Expr}{pos pos':Pos}{td ty tv:TE}(hu:X.A.units+1<cLine)(ho:PE X o td)(hi:PE X i ty)(hv:PE X value tv)(hs:swapsWith value (some (.Subscript o i pos')) pos.line X.env=pure false):
  PS X (.Assign [.Subscript o i pos'] value pos) (sTPutA X.prog X.w td ty tv):=by
 intro pins s σ H D I h
 refine wpAny_Assign_Subscript (thn (hv pins s σ H _ I h) fun r s1 ⟨v,H1,I1,rv,q1⟩=>thn (ho pins s1 σ H1 _ I1 q1) fun u s2 ⟨x,H2,I2,rx,q2⟩=>thn (hi pins s2 σ H2 _ I2 q2) fun iv s3 ⟨y,H3,I3,ry,a,xs,ob,b,k,ex,e,hk,ey,kb,l,q3⟩=>?_) hs
 subst ex ey
 obtain rfl:u=Value.ref a:=rx
 obtain rfl:iv=Value.ref b:=ry
 obtain⟨z,hd,us,rel,dd⟩:=td_of I3 e hk
 refine wpAny_setItem_heap (hsz:=by rw[<- Paired.length rel];exact z) (by show X.A.units+1<cLine;exact hu) (tk_is I3.hok kb) dd fun h' dd' hs'=>?_
 obtain⟨o',ho'⟩:=td_new (P:=X.prog) (w:=X.w) (xs:=putH xs k b v) (Nat.le_trans (putH_length _ _ _ _) l) hd (krel_put rel k b rv) dd'
 have he:∃q,h'.get? a=some q:=let ⟨q,_,_,hq,_⟩:=dd';⟨q,hq⟩
 exact⟨σ,_,d_write I3 (by rw[e];exact True.intro) hs' he (ho' _),q3 o'⟩
def tDispTD (P:Program)(w:World)(ty tv:TE):TE:=fun σ H Q=>∀p o,H p=none->tPairs [(ty,tv)] σ (upd H p (TD P w p [] o)) fun ps H2=>H2 p=some (TD P w p [] o)/\∃b v k,ps=[(.ref b,v)]/\TKy H2 k b/\∀o',Q (.ref p) (upd H2 p (TD P w p [(k,b,v)] o'))
theorem pe_dispTD {ke ve:Expr}{pos:Pos}{ty tv:TE}(hu:X.A.units<cLine)(h:PE X ke ty)(hv:PE X ve tv):PE X (.Dict [some ke] [ve] pos) (tDispTD X.prog X.w ty tv):=by
 intro pins s σ H Q I q
 have hn:=I.hok.fresh (Nat.le_refl s.heap.objs.size)
 obtain⟨o,ho⟩:=td_new (P:=X.prog) (w:=X.w) (xs:=[]) (Nat.zero_le _) (beq_eq_false_iff_ne.mpr (Ne.symm (Nat.ne_of_lt I.big))) .nil (Heap.DictOfH.new s.heap)
 have I1:=I.laid (a:=s.heap.objs.size) (o:=TD X.prog X.w s.heap.objs.size [] o) (h':=s.heap.push { cls:=.type "dict",data:=.dict #[] }) (t':=s.toks) (fun _ _ q=>Heap.get?_push_of_some _ q) (Nat.le_refl _) (ho _)
 refine wpAny_Dict_any rfl rfl (by simp) (by simp) (thn ((pps_cons h hv pps_nil) pins _ σ _ _ I1 (q _ o hn)) fun ws s2 ⟨ps,H2,I2,rel,e,b,v,k,ep,eb,q2⟩=>?_)
 subst ep
 cases rel with
 |@cons p1 w1 ps1 ws1 h1 t=>
  cases t
  obtain⟨u,r⟩:=w1
  obtain rfl:u=Value.ref b:=h1.1
  obtain⟨z,hd,us,r0,dd⟩:=td_of I2 e (fun x hx=>by cases hx)
  cases r0
  unfold storeAll
  rw[List.forIn_cons]
  refine wpAny_bind (wpAny_bind (wpAny_dictSet_heap (hsz:=Nat.zero_le _) (knd:=tupleKind (numKind X.prog X.w)) hu (tk_is I2.hok eb) dd fun h' dd' hs=>wpAny_pure ?_))
  simp only[List.forIn_nil]
  obtain⟨o',ho'⟩:=td_new (P:=X.prog) (w:=X.w) (xs:=[(k,b,v)]) (by show 1<=sizeLine;decide) hd (.cons ⟨rfl,rfl,h1.2⟩ .nil) dd'
  have he:∃q,h'.get? s.heap.objs.size=some q:=let ⟨q,_,_,hq,_⟩:=dd';⟨q,hq⟩
  exact wpAny_pure ⟨.ref s.heap.objs.size,_,d_write I2 (by rw[e];exact True.intro) hs he (ho' _),rfl,q2 o'⟩
end
end L2
namespace L2
open PySem PySem.Spec PyProof.Rows
theorem lc_list2 {K:W.Frag}{a:Addr}{xs:List V}{caps:St}{tt:TT}{te:TE}{D:Addr}{Q:Hp->Prop}{H1:Hp}(Pv:Nat->List V->Hp->Prop)(hz:xs.length<=sizeLine)(h0:Pv 0 [] (upd H1 D (.lst [])))(hl:∀i ys H,Pv i ys H->ys.length<=i)(hq:∀i ys H,Pv i ys H->SqL K H a xs)
  (hs:∀i ys H (x:V),xs[i]?=some x->Pv i ys H->∃p v w,x=.ref p/\SqT K H p [v,w]/\∀(N:VK) (M:Hp->Prop),(∀y H4,H4 D=some (.lst ys)->Pv (i+1) (ys++[y]) (upd H4 D (.lst (ys++[y])))->N y H4)->(∀H3,Pv (i+1) ys H3->M H3)→
   tt (some v::some w::caps) H fun ok H3=>if ok=true then te (some v::some w::caps) H3 N else M H3)
  (hd:∀ys H,Pv xs.length ys H->Q H):∃W:Nat->Nat->St->Hp->Prop,(∃m,W 0 m (none::none::caps) (upd H1 D (.lst [])))/\LcW (Itl K a) (gTup K 2 (gCons (gName 0) (gCons (gName 1) gNil))) tt te D Q W:=by
 refine⟨fun i m σ H=>m=xs.length-i/\i<=xs.length/\(∃v w,σ=v::w::caps)/\∃ys,Pv i ys H,⟨xs.length,by simp,Nat.zero_le _,⟨none,none,rfl⟩,[],h0⟩,?_⟩
 rintro i m σ H ⟨rfl,hi,⟨v,w,rfl⟩,ys,p⟩
 have hy:=hl i ys H p
 by_cases hlt:i<xs.length
 ·refine .inr ⟨⟨xs,xs[i],hq i ys H p,by simp[hlt]⟩,fun x H1 y=>?_⟩
  obtain⟨e,y⟩:=y
  subst e
  have hx:=y xs (hq i ys _ p)
  obtain⟨p',v',w',e1,e2,e3⟩:=hs i ys _ x hx p
  exact⟨p',[v',w'],e1,e2,rfl,v',[w'],rfl,w',[],rfl,rfl,e3 _ _ (fun y H4 a c=>⟨ys,a,by omega,xs.length-(i+1),by omega,rfl,hlt,⟨_,_,rfl⟩,_,c⟩) (fun H3 c=>⟨xs.length-(i+1),by omega,rfl,hlt,⟨_,_,rfl⟩,ys,c⟩)⟩
 ·have e:i=xs.length:=by omega
  subst e
  exact .inl ⟨⟨xs,hq _ ys H p,Nat.le_refl _⟩,hd ys H p⟩
section
variable {X:Cx} {P:Program} {w:World}
theorem cut_take (xs:List V)(k:Nat):cutV xs none (some (k:Int))=xs.take k:=by
 unfold cutV
 rw[HT.sIx_nat,HT.sIx_none,List.drop_zero,Nat.sub_zero,<- List.take_take,List.take_length]
theorem cut_drop (xs:List V)(k:Nat):cutV xs (some (k:Int)) none=xs.drop k:=by
 unfold cutV
 rw[HT.sIx_nat,HT.sIx_none]
 by_cases h:k<=xs.length
 ·rw[Nat.min_eq_left h,List.take_of_length_le (by rw[List.length_drop];omega)]
 ·rw[Nat.min_eq_right (by omega),List.drop_eq_nil_of_le (Nat.le_refl _),List.drop_eq_nil_of_le (by omega),List.take_nil]
def SBut (p:Addr)(H H':Hp):Prop:=∀b o,b≠p->H b=some o->H' b=some o
theorem SBut.refl {p:Addr}{H:Hp}:SBut p H H:=fun _ _ _ e=>e
theorem SBut.same {p:Addr}{H H1 H2:Hp}(s:SBut p H H1)(t:Same H1 H2):SBut p H H2:=fun b o n e=>t _ _ (s b o n e)
theorem SBut.upd {p:Addr}{H H1:Hp}{o:HO}(s:SBut p H H1):SBut p H (upd H1 p o):=fun b q n e=>by rw[upd_ne n];exact s b q n e
theorem SBut.get {p a:Addr}{H H':Hp}{o o':HO}(s:SBut p H H')(hp:H p=some o')(h:H a=some o)(n:o≠o'):H' a=some o:=s a o (fun e=>by subst e;rw[hp] at h;exact n (Option.some.inj h).symm) h
end
end L2
namespace SO
open PySem PyProof PyProof.Rows HT
section
open PySem.SeqAt
open PySem.AutoSeq1 (wpAny_loadPart')
open PySem.MeetsSeq PySem.MeetsSeq2 PySem.MeetsSeq3
theorem tuple_lt_pair (l b c c':Addr)(n n2:Nat)(dd dd2:Option Addr)(sl sl2:Array (Option Value))(k k':KP)(t t':Tok):
  Meets (Builtin.«tuple.__lt__» ⟨[.ref l,.ref b],[]⟩)
   (fun A R s=>s.heap.get? l=some { cls:=.type "tuple",dict:=dd,data:=.seq #[.int k.1 t,.ref c] n,slots:=sl }/\s.heap.get? b=some { cls:=.type "tuple",dict:=dd2,data:=.seq #[.int k'.1 t',.ref c'] n2,slots:=sl2 }∧
    EqAt A.in1 s (.ref c) (.ref c') (decide (k.2=k'.2))/\(∀(prog:Program) (w:World) (E:Value->Shared->Prop) (Q:Value->Shared->Prop),Q (.bool (lexLt k.2 k'.2)) s->wpAny (model prog w) A.in1 (richCompare .Lt (.ref c) (.ref c')) Q E s)∧
    R (.ok (.ret (.bool (prLt k k')))) s):=by
 intro prog w A R s h
 obtain⟨hp,g,d,tk,os⟩:=s;obtain⟨hl,hb,he,hri,h⟩:=h
 have f2:=AutoSeq1.sub_tuple_tuple
 wp_walk using wpAny_loadPart' hl,wpAny_loadPart' hb,wpAny_forIn_list _ (fun rest b s'=>b.1=none/\s'=⟨hp,g,d,tk,os⟩∧
  ((rest=[(Value.int k.1 t,Value.int k'.1 t'),(Value.ref c,Value.ref c')]/\R (.ok (.ret (.bool (prLt k k')))) ⟨hp,g,d,tk,os⟩)\/(rest=[(Value.ref c,Value.ref c')]/\R (.ok (.ret (.bool (lexLt k.2 k'.2)))) ⟨hp,g,d,tk,os⟩)\/(rest=[]/\R (.ok (.ret (.bool false))) ⟨hp,g,d,tk,os⟩))) _
 case turn=>
  rintro⟨y,x⟩ rest b s' ⟨hb',rfl,hz⟩
  rcases hz with⟨hz,hR⟩|⟨hz,hR⟩|⟨hz,hR⟩
  ·injection hz with hyx hrest
   injection hyx with hy hx
   subst hy hx hrest
   have hl':prLt k k'=if k.1=k'.1 then lexLt k.2 k'.2 else decide (k.1<k'.1):=lexLt_cons _ _ _ _
   rw[hl'] at hR
   obtain⟨e,he',hiff⟩:=eqAt_int A.in1 ⟨hp,g,d,tk,os⟩ k.1 t k'.1 t'
   refine wpAny_bind (he' prog w _ _ ?_)
   cases e with
   |true=>
    rw[if_pos (hiff.mp rfl)] at hR
    wp_walk
    exact⟨rfl,rfl,.inr (.inl ⟨rfl,hR⟩)⟩
   |false=>
    rw[if_neg (fun q=>absurd (hiff.mpr q) Bool.false_ne_true)] at hR
    have hri':=rcLt_int A.in1 ⟨hp,g,d,tk,os⟩ k.1 t k'.1 t' prog w
    wp_walk using hri'
    first|exact hR|exact⟨_,rfl,by simpa using hR⟩
  ·injection hz with hyx hrest
   injection hyx with hy hx
   subst hy hx hrest
   refine wpAny_bind (he prog w _ _ ?_)
   by_cases e:k.2=k'.2
   ·rw[decide_eq_true e]
    rw[e,lex_irr] at hR
    wp_walk
    exact⟨rfl,rfl,.inr (.inr ⟨rfl,hR⟩)⟩
   ·rw[decide_eq_false e]
    have hri':=hri prog w
    wp_walk using hri'
    first|exact hR|exact⟨_,rfl,by simpa using hR⟩
  ·cases hz
 case fin=>
  rintro⟨b1,b2⟩ s' ⟨hb',rfl,hz⟩
  simp only at hb'
  subst hb'
  have hR:R (.ok (.ret (.bool false))) ⟨hp,g,d,tk,os⟩:=by
   rcases hz with⟨hz,_⟩|⟨hz,_⟩|⟨_,hR⟩
   ·cases hz
   ·cases hz
   ·exact hR
  wp_walk
  first|simpa [Builtin.Tuple.tupleCompareSizes] using hR|exact⟨_,rfl,by simpa [Builtin.Tuple.tupleCompareSizes] using hR⟩
 case h=>
  exact⟨rfl,rfl,.inl ⟨rfl,h⟩⟩
end
section
variable {prog:Program} {w:World} {A:Around} {E:Value->Shared->Prop} {s:Shared}
theorem ints_reads {h:Heap}:∀{vs:List Value} {ns:List Int},IntsAre vs ns->∃as,ReadsAll h vs (ns.map PyData.int) as
 |_,_,.nil=>⟨_,.nil⟩
 |_,_,.cons i t r=>by
  obtain⟨as,ra⟩:=ints_reads r
  exact⟨_,.cons (.int i t) ra⟩
theorem eqAt_tups {a b:Addr}{its jts:Array Value}{p c:List Int}(h1:IsTup s.heap a its)(h2:IsTup s.heap b jts)(i1:IntsAre its.toList p)(i2:IntsAre jts.toList c)(hu:A.units+4<cLine):SeqAt.EqAt A s (.ref a) (.ref b) (decide (p=c)):=by
 obtain⟨o,g1,g2,n,g3⟩:=h1
 obtain⟨o',f1,f2,m,f3⟩:=h2
 obtain⟨as,ra⟩:=ints_reads (h:=s.heap) i1
 obtain⟨bs,rb⟩:=ints_reads (h:=s.heap) i2
 have he:=SeqAt.eqAt_reads _ _ A s _ _ _ _ (Reads.tuple g1 g2 g3 ra) (Reads.tuple f1 f2 f3 rb) (L2.dints_lay p) (L2.dints_lay c) (by
  rw[PyData.depth,PyData.depth,L2.dints_depth,L2.dints_depth]
  have:min (0+1) (0+1)=1:=rfl
  omega)
 have ee:PyData.eqv (.tuple (p.map PyData.int)) (.tuple (c.map PyData.int))=decide (p=c):=by
  show PyData.eqvAll _ _=_
  exact L2.eqvs_ints p c
 rw[ee] at he
 exact he
theorem lt_prs {k k':KP}{x y:Value}{Q:Value->Shared->Prop}(hu:A.units+8<cLine)(hx:PrK s.heap k x)(hy:PrK s.heap k' y)(h:Q (.bool (prLt k k')) s):wpAny (model prog w) A (richCompare .Lt x y) Q E s:=by
 obtain⟨a,b,t,its,rfl,h1,h2,h3⟩:=hx
 obtain⟨a',b',t',its',rfl,h1',h2',h3'⟩:=hy
 obtain⟨⟨cls,dd,data,sl⟩,ho,hc,n,hd⟩:=id h1
 obtain⟨⟨cls2,dd2,data2,sl2⟩,ho2,hc2,n2,hd2⟩:=id h1'
 simp only at hc hd hc2 hd2
 subst hc hd hc2 hd2
 refine richCompare_meets_room (op:=.Lt) ⟨_,ho,rfl⟩ ⟨_,ho2,rfl⟩ PySem.F.slot_tuple_lt PySem.F.entry_tuple_lt (PySem.F.args_tuple_lt_2 _ _) (tuple_lt_pair a a' b b' n n2 dd dd2 sl sl2 k k' t t')
  ⟨ho,ho2,?_,fun prog' w' E' Q' hq=>?_,show Value.bool (prLt k k')≠Value.notImplemented/\Q (.bool (prLt k k')) s from⟨(fun x=>nomatch x),h⟩⟩ (by omega)
 ·exact eqAt_tups h2 h2' h3 h3' (by show A.units+1+4<_;omega)
 ·exact(HT.lt_tupInts h2 h2' h3 h3' (by show A.units+1<_;omega) hq:wpAny (model prog' w') A.in1 (compareOp .Lt (.ref b) (.ref b')) Q' E' s)
end
end SO
namespace L2
open PySem PySem.Spec PyProof.Rows SO
structure MKey (X:Cx)(O:KeyOrd)(KA:Hp->O.α->V->Prop):Prop where
 same:∀{H H':Hp} {k:O.α} {v:V},Same H H'->KA H k v->KA H' k v
 cmp:∀{pins:List (Addr×Obj)} {σ:St} {H:Hp} {s:Shared},Inv X pins σ H s->∀{k k':O.α} {v v':V} {u u':Value},KA H k v->KA H k' v'->RelV v u->RelV v' u'->∀(Q E:Value->Shared->Prop),Q (.bool (O.blt k k')) s->wpAny (model X.prog X.w) X.A.in1 (richCompare .Lt u u') Q E s
def Bst (O:KeyOrd)(zs:List (Addr×O.α))(j:Nat)(z:Addr×O.α):Prop:=∃i,i<j/\zs[i]?=some z/\∀j' y,j'<j->zs[j']?=some y->O.blt y.2 z.2=false/\(j'<i->O.blt z.2 y.2=true)
theorem bst_one {O:KeyOrd}{zs:List (Addr×O.α)}{z:Addr×O.α}(h:zs[0]?=some z):Bst O zs 1 z:=⟨0,by omega,h,fun j' y hj e=>by
 have:j'=0:=by omega
 subst this
 rw[h] at e
 cases e
 exact⟨O.irrefl _,fun q=>by omega⟩⟩
theorem bst_new {O:KeyOrd}{zs:List (Addr×O.α)}{z y:Addr×O.α}{j:Nat}(b:Bst O zs j z)(h:zs[j]?=some y)(lt:O.blt y.2 z.2=true):Bst O zs (j+1) y:=by
 obtain⟨i,hi,ei,hb⟩:=b
 refine⟨j,by omega,h,fun j' x hj e=>?_⟩
 by_cases q:j'=j
 ·subst q
  rw[h] at e
  cases e
  exact⟨O.irrefl _,fun q=>by omega⟩
 ·obtain⟨b1,b2⟩:=hb j' x (by omega) e
  constructor
  ·cases c:O.blt x.2 y.2 with
   |false=>rfl
   |true=>rw[O.trans _ _ _ c lt] at b1;cases b1
  ·intro _
   rcases O.negTrans _ x.2 _ lt with c|c
   ·exact c
   ·rw[b1] at c;cases c
theorem bst_old {O:KeyOrd}{zs:List (Addr×O.α)}{z y:Addr×O.α}{j:Nat}(b:Bst O zs j z)(h:zs[j]?=some y)(lt:O.blt y.2 z.2=false):Bst O zs (j+1) z:=by
 obtain⟨i,hi,ei,hb⟩:=b
 refine⟨i,by omega,ei,fun j' x hj e=>?_⟩
 by_cases q:j'=j
 ·subst q
  rw[h] at e
  cases e
  exact⟨lt,fun q=>by omega⟩
 ·exact hb j' x (by omega) e
section
variable {X:Cx} {O:KeyOrd} {KA:Hp->O.α->V->Prop} {pins:List (Addr×Obj)} {σ:St} {H:Hp} {S I l f:Addr} {k:Nat} {fd:FuncData} {ps:List Str} {sp:Sp} {zs:List (Addr×O.α)}
theorem mk_call {H1:Hp}{s:Shared}{oS oI:Obj}{z:Addr×O.α}(F:FnOk X.prog X.w X.K X.mg X.base CX0 k f fd ps sp)(hr:Room k X.A.in1)(hb:Binds X.K fd ps [])(nS:Nw X pins S)(nI:Nw X pins I)
  (I1:Inv X pins σ H1 s) (hS0:H1 S=none) (hI0:H1 I=none) (hS:s.heap.get? S=some oS) (hI:s.heap.get? I=some oI) (cS:∀v,oS.data≠.cell v) (cI:∀v,oI.data≠.cell v)
  (hsp:∀(Q:VK) (E:XK),(∀v H2,Same H1 H2->KA H2 z.2 v->Q v H2)->sp [.ref z.1] H1 Q E):
  wpAny (model X.prog X.w) X.A.in1 (call (.ref f) [.ref z.1]) (fun u s''=>∃H2 kv,Inv X pins σ H2 s''/\Same H1 H2/\H2 S=none/\H2 I=none/\s''.heap.get? S=some oS/\s''.heap.get? I=some oI/\KA H2 z.2 kv/\RelV kv u) (fun _ _=>False) s:=by
 have I2:=I1.pin2 nS nI hS hI hS0 hI0 cS cI
 have hpost:sp [.ref z.1] H1 (fun v H2=>Same H1 H2/\KA H2 z.2 v) (fun _ _ _=>False):=hsp _ _ fun v H2 s2 p2=>⟨s2,p2⟩
 have hl:([Value.ref z.1]++([]:List Value)).length=ps.length:=F.len _ _ _ _ hpost
 have hbt:=hb s [.ref z.1] I2.kIn hl
 rw[List.append_nil] at hbt
 refine wpAny_call (codeAny_mono (F.run X.A.in1 X.stack s H1 ⟨[.ref z.1],[]⟩ [.ref z.1] [.ref z.1] _ _ hr I2.env0.in1 hbt (.cons rfl .nil) hpost) fun r s' hc=>?_)
 cases r with
 |error e=>exact hc
 |ok fl=>
  cases fl with
  |next=>exact False.elim hc
  |brk=>exact False.elim hc
  |cont=>exact False.elim hc
  |ret u=>
   obtain⟨v,H2,I3,rv,s2,p2⟩:=I2.after hc
   have pS:=I3.pin (S,_) (List.mem_append_right _ List.mem_cons_self)
   have pI:=I3.pin (I,_) (List.mem_append_right _ (List.mem_cons_of_mem _ List.mem_cons_self))
   exact⟨H2,v,I3.unpin2,s2,pS.2.1,pI.2.1,pS.1,pI.1,p2,rv⟩
variable (M:MKey X O KA) (F:FnOk X.prog X.w X.K X.mg X.base CX0 k f fd ps sp) (hr:Room k X.A.in1) (hb:Binds X.K fd ps []) (hh:X.A.handled=none) (nS:Nw X pins S) (nI:Nw X pins I) (hSI:S≠I) (hlI:l≠I)
 (hl:∀H' s',Same H H'->Inv X pins σ H' s'->s'.heap.IsList l (zs.map fun z=>Value.ref z.1).toArray)
 (hsp:∀z∈zs,∀H1,Same H H1->∀(Q:VK) (E:XK),(∀v H2,Same H1 H2->KA H2 z.2 v->Q v H2)->sp [.ref z.1] H1 Q E)
include M F hr hb hh nS nI hSI hlI hl hsp
theorem min_loop {kw:List (Str×Value)}{R:Result->Shared->Prop}
  (hR:∀z H' s',Bst O zs zs.length z->Same H H'->Inv X pins σ H' s'->R (.ok (.ret (.ref z.1))) s'):
  ∀(r j:Nat) (s:Shared) (H1:Hp) (z:Addr×O.α) (kb:V) (ub:Value) (c:Nat) (oI:Obj),zs.length-j=r->j<=zs.length->Inv X pins σ H1 s->Same H H1->H1 S=none->H1 I=none→
   s.heap.get? S=some (seqObj "list" #[.ref z.1,ub] c)->s.heap.get? I=some oI->oI.cls=.type "list_iterator"->s.heap.IsListIter I l j->KA H1 z.2 kb->RelV kb ub->Bst O zs j z→
   codeAny (model X.prog X.w) X.A (.builtin "min.loop" ⟨[.ref I,.ref f,.ref S],kw⟩) R s:=by
 have hname:(toString "min"++toString ".loop":String)="min.loop":=by decide
 have W:=Walks.list (prog:=X.prog) (w:=X.w) (A:=X.A.in1) hh I l hlI (zs.map fun z=>Value.ref z.1).toArray
 have hsz:(zs.map fun z=>Value.ref z.1).toArray.size=zs.length:=by simp
 intro r
 induction r with
 |zero=>
  intro j s H1 z kb ub c oI hr' hj I1 s1 hS0 hI0 hS hI hoc hit hk rk hB
  have hin:j=zs.length:=by omega
  refine codeAny_builtin PySem.F.entry_min_loop ?_
  rw[Around.under_plainId PySem.F.plain_min_loop _]
  show wpAny _ X.A.in1 (seqItems? (.ref S) >>= _) _ _ _
  refine wpAny_bind (wpAny_seqItems hS rfl ?_)
  show wpAny _ X.A.in1 (tryCatch (pyNext (.ref I)) _ >>= _) _ _ _
  refine wpAny_bind (wpAny_tryCatch (W.done _ _ _ ⟨by rw[hsz,<- hin];exact hit,hl H1 s s1 I1⟩ fun h' tk' hk'=>?_))
  have I2:Inv X pins σ H1 { s with heap:=h',toks:=tk' }:=I1.turned (fun b o hb e=>hk' b o (by simpa using hb) e) hI0 nI.loc (.inr nI.new) nI.cel nI.pin
  have hS':=hk' S _ (by simpa using hSI) hS
  have sb:=Heap.SameBut.update h' S (Obj.mapSeq fun _=>(#[]:Array Value))
  show wpAny _ X.A.in1 (updateSeq S (fun _=>#[]) >>= _) _ _ _
  refine wpAny_bind ?_
  refine wpAny_updateSeq hS' rfl (wpAny_bind (wpAny_letGo (wpAny_pure ?_)))
  have I3:=I2.turned (t':=tk') (h':=h'.update S (Obj.mapSeq fun _=>(#[]:Array Value))) (fun b o hb e=>(sb.2 b hb).trans e) hS0 nS.loc (.inr nS.new) nS.cel nS.pin
  exact hR z H1 _ (by rw[<- hin];exact hB) s1 I3
 |succ r ih=>
  intro j s H1 z kb ub c oI hr' hj I1 s1 hS0 hI0 hS hI hoc hit hk rk hB
  have hlt:j<zs.length:=by omega
  refine codeAny_builtin PySem.F.entry_min_loop ?_
  rw[Around.under_plainId PySem.F.plain_min_loop _]
  show wpAny _ X.A.in1 (seqItems? (.ref S) >>= _) _ _ _
  refine wpAny_bind (wpAny_seqItems hS rfl ?_)
  show wpAny _ X.A.in1 (tryCatch (pyNext (.ref I)) _ >>= _) _ _ _
  refine wpAny_bind (wpAny_tryCatch (W.item j _ _ _ (by rw[hsz];exact hlt) ⟨hit,hl H1 s s1 I1⟩ fun v h' tk' hP hst' hk'=>?_))
  have I2:Inv X pins σ H1 { s with heap:=h',toks:=tk' }:=I1.turned (fun b o hb e=>hk' b o (by simpa using hb) e) hI0 nI.loc (.inr nI.new) nI.cel nI.pin
  have hS':=hk' S _ (by simpa using hSI) hS
  obtain⟨oI',hoI',hoc',hod'⟩:=id hst'.1
  have hv:(zs.map fun z=>Value.ref z.1)[j]?=some v:=by simpa using hP
  rw[List.getElem?_map] at hv
  obtain⟨y,ey,rfl⟩:=Option.map_eq_some_iff.mp hv
  show wpAny _ X.A.in1 (tryCatch (holding [.ref y.1] (call (.ref f) [.ref y.1])) _ >>= _) _ _ _
  refine wpAny_bind (wpAny_tryCatch (wpAny_holding (wpAny_mono (mk_call F hr hb nS nI I2 hS0 hI0 hS' hoI' (fun v=>nofun) (fun v=>by rw[hod'];nofun) (hsp y (List.mem_of_getElem? ey) H1 s1)) (fun u s'' he=>?_) fun _ _ hF=>hF.elim)))
  obtain⟨H2,kv,I3,s2,hS2,hI2,gS2,gI2,hky,rky⟩:=he
  have hkb2:=M.same s2 hk
  have hit2:s''.heap.IsListIter I l (j+1):=⟨oI',gI2,hoc',hod'⟩
  show wpAny _ X.A.in1 (tryCatch (holding [.ref y.1,u] (richCompare .Lt u ub >>= _)) _ >>= _) _ _ _
  refine wpAny_bind (wpAny_tryCatch (wpAny_holding (wpAny_bind (M.cmp I3 hky hkb2 rky rk _ _ ?_))))
  refine wpAny_bind (wpAny_holding (wpAny_truthy_bool ?_))
  refine wpAny_bind (wpAny_letGo (wpAny_pure ?_))
  cases hb':O.blt y.2 z.2 with
  |true=>
   have sb:=Heap.SameBut.update s''.heap S (Obj.mapSeq fun _=>#[.ref y.1,u])
   obtain⟨c2,hc2⟩:∃c2,(s''.heap.update S (Obj.mapSeq fun _=>#[.ref y.1,u])).get? S=some (seqObj "list" #[.ref y.1,u] c2):=⟨_,get?_update_seq gS2 fun _=>#[.ref y.1,u]⟩
   simp only[if_true]
   refine wpAny_bind ?_
   refine wpAny_updateSeq gS2 rfl (wpAny_bind (wpAny_letGo ?_))
   rw[hname]
   have I4:=I3.turned (t':=s''.toks) (h':=s''.heap.update S (Obj.mapSeq fun _=>#[.ref y.1,u])) (fun b o hb e=>(sb.2 b hb).trans e) hS2 nS.loc (.inr nS.new) nS.cel nS.pin
   exact wpAny_pure ⟨plainId_quiet PySem.F.plain_min_loop _,ih (j+1) _ H2 y kv u c2 oI' (by omega) hlt I4 (s1.trans s2) hS2 hI2 hc2 ((sb.2 I hSI.symm).trans gI2) hoc' ⟨oI',(sb.2 I hSI.symm).trans gI2,hoc',hod'⟩ hky rky (bst_new hB ey hb')⟩
  |false=>
   simp only[Bool.false_eq_true,if_false]
   refine wpAny_bind (wpAny_letGo ?_)
   rw[hname]
   exact wpAny_pure ⟨plainId_quiet PySem.F.plain_min_loop _,ih (j+1) _ H2 z kb ub c oI' (by omega) hlt I3 (s1.trans s2) hS2 hI2 gS2 gI2 hoc' hit2 hkb2 rk (bst_old hB ey hb')⟩
end
end L2
namespace L2
open PySem PySem.Spec PyProof.Rows SO
section
variable {X:Cx} {O:KeyOrd} {KA:Hp->O.α->V->Prop} {pins:List (Addr×Obj)} {σ:St} {H:Hp} {S I l f:Addr} {k:Nat} {fd:FuncData} {ps:List Str} {sp:Sp} {zs:List (Addr×O.α)}
variable (M:MKey X O KA) (F:FnOk X.prog X.w X.K X.mg X.base CX0 k f fd ps sp) (hr:Room k X.A.in1) (hb:Binds X.K fd ps []) (hh:X.A.handled=none) (nS:Nw X pins S) (nI:Nw X pins I) (hSI:S≠I) (hlI:l≠I)
 (hl:∀H' s',Same H H'->Inv X pins σ H' s'->s'.heap.IsList l (zs.map fun z=>Value.ref z.1).toArray)
 (hsp:∀z∈zs,∀H1,Same H H1->∀(Q:VK) (E:XK),(∀v H2,Same H1 H2->KA H2 z.2 v->Q v H2)->sp [.ref z.1] H1 Q E)
include M F hr hb hh nS nI hSI hlI hl hsp
theorem min_first {kw:List (Str×Value)}{R:Result->Shared->Prop}{s:Shared}{oI:Obj}{z:Addr×O.α}(ez:zs[0]?=some z)
  (hR:∀z H' s',Bst O zs zs.length z->Same H H'->Inv X pins σ H' s'->R (.ok (.ret (.ref z.1))) s')
  (I1:Inv X pins σ H s) (hS0:H S=none) (hI0:H I=none) (hS:s.heap.get? S=some (seqObj "list" #[] 0)) (hI:s.heap.get? I=some oI) (hit:s.heap.IsListIter I l 0):
  codeAny (model X.prog X.w) X.A (.builtin "min.loop" ⟨[.ref I,.ref f,.ref S],kw⟩) R s:=by
 have hname:(toString "min"++toString ".loop":String)="min.loop":=by decide
 have W:=Walks.list (prog:=X.prog) (w:=X.w) (A:=X.A.in1) hh I l hlI (zs.map fun z=>Value.ref z.1).toArray
 have hsz:(zs.map fun z=>Value.ref z.1).toArray.size=zs.length:=by simp
 have hlt:0<zs.length:=(List.getElem?_eq_some_iff.mp ez).1
 refine codeAny_builtin PySem.F.entry_min_loop ?_
 rw[Around.under_plainId PySem.F.plain_min_loop _]
 show wpAny _ X.A.in1 (seqItems? (.ref S) >>= _) _ _ _
 refine wpAny_bind (wpAny_seqItems hS rfl ?_)
 show wpAny _ X.A.in1 (tryCatch (pyNext (.ref I)) _ >>= _) _ _ _
 refine wpAny_bind (wpAny_tryCatch (W.item 0 _ _ _ (by rw[hsz];exact hlt) ⟨hit,hl H s (Same.refl H) I1⟩ fun v h' tk' hP hst' hk'=>?_))
 have I2:Inv X pins σ H { s with heap:=h',toks:=tk' }:=I1.turned (fun b o hb e=>hk' b o (by simpa using hb) e) hI0 nI.loc (.inr nI.new) nI.cel nI.pin
 have hS':=hk' S _ (by simpa using hSI) hS
 obtain⟨oI',hoI',hoc',hod'⟩:=id hst'.1
 have hv:(zs.map fun z=>Value.ref z.1)[0]?=some v:=by simpa using hP
 rw[List.getElem?_map,ez] at hv
 cases hv
 show wpAny _ X.A.in1 (tryCatch (holding [.ref z.1] (call (.ref f) [.ref z.1])) _ >>= _) _ _ _
 refine wpAny_bind (wpAny_tryCatch (wpAny_holding (wpAny_mono (mk_call F hr hb nS nI I2 hS0 hI0 hS' hoI' (fun v=>nofun) (fun v=>by rw[hod'];nofun) (hsp z (List.mem_of_getElem? ez) H (Same.refl H))) (fun u s'' he=>?_) fun _ _ hF=>hF.elim)))
 obtain⟨H2,kv,I3,s2,hS2,hI2,gS2,gI2,hky,rky⟩:=he
 have sb:=Heap.SameBut.update s''.heap S (Obj.mapSeq fun _=>#[.ref z.1,u])
 obtain⟨c2,hc2⟩:∃c2,(s''.heap.update S (Obj.mapSeq fun _=>#[.ref z.1,u])).get? S=some (seqObj "list" #[.ref z.1,u] c2):=⟨_,get?_update_seq gS2 fun _=>#[.ref z.1,u]⟩
 show wpAny _ X.A.in1 (updateSeq S (fun _=>#[.ref z.1,u]) >>= _) _ _ _
 refine wpAny_bind ?_
 refine wpAny_updateSeq gS2 rfl ?_
 rw[hname]
 have I4:=I3.turned (t':=s''.toks) (h':=s''.heap.update S (Obj.mapSeq fun _=>#[.ref z.1,u])) (fun b o hb e=>(sb.2 b hb).trans e) hS2 nS.loc (.inr nS.new) nS.cel nS.pin
 exact wpAny_pure ⟨plainId_quiet PySem.F.plain_min_loop _,min_loop M F hr hb hh nS nI hSI hlI hl hsp hR _ 1 _ H2 z kv u c2 oI' rfl hlt I4 s2 hS2 hI2 hc2 ((sb.2 I hSI.symm).trans gI2) hoc' ⟨oI',(sb.2 I hSI.symm).trans gI2,hoc',hod'⟩ hky rky (bst_one ez)⟩
omit M F hr hb hsp in
theorem min_none {x:Str}{R:Result->Shared->Prop}{s:Shared}{oI:Obj}(ez:zs=[])
  (hR:∀s',Inv X pins σ H s'->R (.ok (.ret .none)) s')
  (I1:Inv X pins σ H s) (hI0:H I=none) (hS:s.heap.get? S=some (seqObj "list" #[] 0)) (hI:s.heap.get? I=some oI) (hit:s.heap.IsListIter I l 0):
  codeAny (model X.prog X.w) X.A (.builtin "min.loop" ⟨[.ref I,.ref f,.ref S],[(x,.none)]⟩) R s:=by
 have W:=Walks.list (prog:=X.prog) (w:=X.w) (A:=X.A.in1) hh I l hlI (zs.map fun z=>Value.ref z.1).toArray
 have hsz:(zs.map fun z=>Value.ref z.1).toArray.size=0:=by rw[ez];rfl
 refine codeAny_builtin PySem.F.entry_min_loop ?_
 rw[Around.under_plainId PySem.F.plain_min_loop _]
 show wpAny _ X.A.in1 (seqItems? (.ref S) >>= _) _ _ _
 refine wpAny_bind (wpAny_seqItems hS rfl ?_)
 show wpAny _ X.A.in1 (tryCatch (pyNext (.ref I)) _ >>= _) _ _ _
 refine wpAny_bind (wpAny_tryCatch (W.done _ _ _ ⟨by rw[hsz];exact hit,hl H s (Same.refl H) I1⟩ fun h' tk' hk'=>?_))
 have I2:Inv X pins σ H { s with heap:=h',toks:=tk' }:=I1.turned (fun b o hb e=>hk' b o (by simpa using hb) e) hI0 nI.loc (.inr nI.new) nI.cel nI.pin
 refine wpAny_bind (wpAny_rule ?_)
 exact wpAny_pure (hR _ I2)
end
theorem min_args2 (a v d:Value):argsOk "min" ⟨[a],[(Str.ofString "key",v),(Str.ofString "default",d)]⟩:=by unfold argsOk;kernel_rfl
section
variable {X:Cx} {O:KeyOrd} {KA:Hp->O.α->V->Prop} {pins:List (Addr×Obj)} {σ:St} {H:Hp} {f:Addr} {k:Nat} {fd:FuncData} {ps:List Str} {sp:Sp} {zs:List (Addr×O.α)} {p:Addr} {s:Shared} {Q:VK}
theorem min_run {kws kwl:List (Str×Value)}(M:MKey X O KA)(F:FnOk X.prog X.w X.K X.mg X.base CX0 k f fd ps sp)(hr:Room k X.A.in1)(hb:Binds X.K fd ps [])(hh:X.A.handled=none)
  (ha:argsOk "min" ⟨[.ref p],kws⟩) (hbp:∃d:Option Value,Builtin.Builtins.bindParams "min" ["key","default"] 0 ⟨[],kws⟩=pure [some (.ref f),d]/\kwl=d.toList.map fun d=>(Str.ofString "default",d))
  (hd:zs=[]->kwl=[(Str.ofString "default",.none)])
  (I0:Inv X pins σ H s) (hq:SqL X.K H p (zs.map fun z=>V.ref z.1)) (hz:zs.length<=1000)
  (hsp:∀z∈zs,∀H1,Same H H1->∀(Q:VK) (E:XK),(∀v H2,Same H1 H2->KA H2 z.2 v->Q v H2)->sp [.ref z.1] H1 Q E)
  (q1:zs=[]->Q .non H) (q2:∀z H',Bst O zs zs.length z->Same H H'->Q (.ref z.1) H'):
  wpAny (model X.prog X.w) X.A (call (.builtin "min") [.ref p] kws) (EP X pins σ Q) X.xe s:=by
 have hname:(toString "min"++toString ".loop":String)="min.loop":=by decide
 have vr:∀{us:List Value},Vals (zs.map fun z=>V.ref z.1) us->us=zs.map fun z=>Value.ref z.1:=by
  clear hsp hz hq q1 q2 hd
  induction zs with
  |nil=>intro us r;cases r;rfl
  |cons z zs ih=>
   intro us r
   cases r with
   |cons h r=>
    cases h
    rw[ih r]
    rfl
 have hl:∀H' s',Same H H'->Inv X pins σ H' s'->s'.heap.IsList p (zs.map fun z=>Value.ref z.1).toArray:=fun H' s' s1 I'=>by
  obtain⟨its,r',pl,_⟩:=I'.list (s1.seq hq)
  obtain rfl:=vr r'
  exact pl.isList
 have hls:=hl H s (Same.refl H) I0
 obtain⟨ol,hol,_⟩:=id hls
 have hll:p<s.heap.objs.size:=Heap.lt_size hol
 refine kmk_tree PySem.F.kind_min PySem.F.plain_min PySem.F.entry_min ha ?_
 obtain⟨d,hbp,rfl⟩:=hbp
 show wpAny _ X.A.in1 (Builtin.Builtins.bindParams "min" ["key","default"] 0 ⟨[],kws⟩ >>= _) _ _ s
 refine wpAny_bind (wpAny_of_eq hbp ?_)
 refine wpAny_bind (wpAny_pure ?_)
 refine wpAny_bind (wpAny_pyIter_list hls ?_)
 refine wpAny_bind (wpAny_newList ?_ (Nat.zero_le _))
 rw[hname]
 have hS:(s.heap.push { cls:=.type "list_iterator",data:=.fields #[.ref p,.int 0 0] }).objs.size=s.heap.objs.size+1:=size_push' ..
 have gI:((s.heap.push { cls:=.type "list_iterator",data:=.fields #[.ref p,.int 0 0] }).push (seqObj "list" #[] 0)).get? s.heap.objs.size=some { cls:=.type "list_iterator",data:=.fields #[.ref p,.int 0 0] }:=
  Heap.get?_push_of_some _ (Heap.get?_push_size _ rfl)
 have gS:((s.heap.push { cls:=.type "list_iterator",data:=.fields #[.ref p,.int 0 0] }).push (seqObj "list" #[] 0)).get? (s.heap.push { cls:=.type "list_iterator",data:=.fields #[.ref p,.int 0 0] }).objs.size=some (seqObj "list" #[] 0):=Heap.get?_push_size _ rfl
 have I1:Inv X pins σ H { s with heap:=(s.heap.push { cls:=.type "list_iterator",data:=.fields #[.ref p,.int 0 0] }).push (seqObj "list" #[] 0) }:=I0.kept (t':=s.toks) fun b o e=>Heap.get?_push_of_some _ (Heap.get?_push_of_some _ e)
 rw[hS] at gS
 refine wpAny_pure ⟨plainId_quiet PySem.F.plain_min_loop _,?_⟩
 rw[hS]
 have hI0:=I0.hok.fresh (Nat.le_refl s.heap.objs.size)
 have hS0:=I0.hok.fresh (Nat.le_succ s.heap.objs.size)
 have nI:=nw_of I0 (Nat.le_refl s.heap.objs.size)
 have nS:=nw_of I0 (Nat.le_succ s.heap.objs.size)
 have hSI:s.heap.objs.size+1≠s.heap.objs.size:=by omega
 have hlI:p≠s.heap.objs.size:=Nat.ne_of_lt hll
 cases ez:zs[0]? with
 |none=>
  have e0:zs=[]:=by
   cases zs with
   |nil=>rfl
   |cons z zs=>simp at ez
  have ed:=hd e0
  simp only[Option.getD_some,ed]
  exact min_none hh nS nI hSI hlI hl e0 (fun s' I'=>⟨.non,H,I',rfl,q1 e0⟩) I1 hI0 gS gI ⟨_,gI,rfl,rfl⟩
 |some z=>
  exact min_first M F hr hb hh nS nI hSI hlI hl hsp ez (fun z H' s' b s1 I'=>⟨.ref z.1,H',I',rfl,q2 z H' b s1⟩) I1 hS0 hI0 gS gI ⟨_,gI,rfl,rfl⟩
def twoV (R:V->V->Hp->Prop):List V->Hp->Prop
 | [w,d],H=>R w d H
 |_,_=>False
def tMinD (K:W.Frag)(O:KeyOrd)(KA:Hp->O.α->V->Prop)(f:Addr)(sp:Sp)(t:TA)(tk td:TE):TE:=fun σ H Q=>t σ H fun vs H1=>tk σ H1 fun w H2=>td σ H2 fun d H3=>∃(p:Addr) (zs:List (Addr×O.α)),vs=[.ref p]/\w=.ref f/\d=.non/\SqL K H3 p (zs.map fun z=>V.ref z.1)/\zs.length<=1000∧
 (∀z∈zs,∀H4,Same H3 H4->∀(Q:VK) (E:XK),(∀v H5,Same H4 H5->KA H5 z.2 v->Q v H5)->sp [.ref z.1] H4 Q E)/\(zs=[]->Q .non H3)/\∀z H',Bst O zs zs.length z->Same H3 H'->Q (.ref z.1) H'
theorem pe_minD {p' pos kpos dpos:Pos}{e ke de:Expr}{t:TA}{tk td:TE}(M:MKey X O KA)(F:FnOk X.prog X.w X.K X.mg X.base CX0 k f fd ps sp)(hr:Room k X.A.in1)(hc:X.calm=true)(hb:Binds X.K fd ps [])(hg:Gl X "min")(hm:X.mg "min"=none)(hv:bootBuiltins "min"=some (.builtin "min"))
  (ha:PA X [e] t) (hk:PE X ke tk) (hde:PE X de td) (he:backTo pos (starEach [e] X.env)=(false,eval e X.env)::backTo pos (starEach [] X.env):=by rfl) (hplain:(backTo pos (starEach [e] X.env)).any (·.1)=false:=by rfl)
  (hall:(backToKw pos (keywordEach [⟨some "key",ke,kpos⟩,⟨some "default",de,dpos⟩] X.env)).all (·.1.isSome)=true:=by rfl) (hkw:(backToKw pos (keywordEach [⟨some "key",ke,kpos⟩,⟨some "default",de,dpos⟩] X.env)).any (·.1.isNone)=false:=by rfl)
  (hks:(backToKw pos (keywordEach [⟨some "key",ke,kpos⟩,⟨some "default",de,dpos⟩] X.env)).filterMap (·.1)=[Str.ofString "key",Str.ofString "default"]:=by rfl):PE X (.Call (.Name "min" p') [e] [⟨some "key",ke,kpos⟩,⟨some "default",de,dpos⟩] pos) (tMinD X.K O KA f sp t tk td):=by
 intro pins s σ H Q I h
 refine wpAny_Call_Name_kw (ld_blt I hg hm hv ?_ (by decide) (by decide))
 refine callWith_kw (thn (ha pos pins s σ H _ I h) fun us s1 ⟨vs,H1,I1,r1,q1⟩=>?_) he hplain hall hkw
 have q1':tCons tk (tCons td tNil) σ H1 (twoV _):=q1
 refine thn (pk_cons (kpos:=kpos) (nm:=some "key") hk (pk_cons (kpos:=dpos) (nm:=some "default") hde pk_nil) pos pins s1 σ H1 _ I1 q1') fun ws s2 hq9=>?_
 obtain⟨xs,H2,I2,rz,q2⟩:=hq9
 rw[hks]
 obtain⟨w,d,rfl⟩:∃w d,xs=[w,d]:=by
  match xs,q2 with
  | [w,d],_=>exact⟨w,d,rfl⟩
 obtain⟨u,u2,rfl,ru,ru2⟩:=vals2 rz
 obtain⟨p',zs,rfl,rfl,rfl,hq,hz,hsp,q3,q4⟩:=q2
 obtain⟨u',rfl,rx⟩:=vals1 r1
 obtain rfl:u'=.ref p':=rx
 obtain rfl:u=.ref f:=ru
 obtain rfl:u2=.none:=ru2
 have fin:=min_run (Q:=Q) (kwl:=[(Str.ofString "default",.none)]) M F hr hb (I2.ok.hd hc) (min_args2 _ _ _) ⟨some .none,rfl,rfl⟩ (fun _=>rfl) I2 hq hz hsp q3 q4
 rw[show[Str.ofString "key",Str.ofString "default"].zip [Value.ref f,Value.none]=[(Str.ofString "key",Value.ref f),(Str.ofString "default",Value.none)] by rfl]
 exact fin
def KaP:Hp->prOrd.α->V->Prop:=fun H k v=>∃q,v=.ref q/\PrA H (q,k)
theorem mkey_pr (hu:X.A.units+16<cLine):MKey X prOrd KaP where
 same:=fun s ⟨q,e,h⟩=>⟨q,e,PrA.tsame h s.tups⟩
 cmp:=by
  intro pins σ H s I k k' v v' u u' h h' r r' Q E hq
  obtain⟨q,rfl,p⟩:=h
  obtain⟨q',rfl,p'⟩:=h'
  obtain rfl:u=.ref q:=r
  obtain rfl:u'=.ref q':=r'
  exact lt_prs (by show X.A.units+1+8<_;omega) (pra_is I p) (pra_is I p') hq
end
end L2
namespace L2
open PySem PySem.Spec PyProof.Rows
section
variable {X:Cx}
def rCatA (K:W.Frag):R2:=fun x y H Q=>∃a b xs ys,x=.ref a/\y=.ref b/\H a=some (.tup xs)/\H b=some (.tup ys)/\xs.length+ys.length<=sizeLine/\∀p H',Same H H'->H' p=some (.tup (xs++ys))->Q (.ref p) H'
theorem op_catA:OpR X (binaryOp .Add) (rCatA X.K):=by
 intro pins s σ H x y v u Q I rx ry h
 obtain⟨a,b,xs,ys,rfl,rfl,ha,hb,hz,q⟩:=h
 by_cases hx:xs=[]
 ·subst hx
  exact op_cat0 pins s σ H _ _ v u Q I rx ry ⟨a,b,ys,rfl,rfl,SqT.of ha,SqT.of hb,q b H (Same.refl H) hb⟩
 ·exact op_cat1 pins s σ H _ _ v u Q I rx ry ⟨a,b,xs,ys,rfl,rfl,ha,SqT.of hb,hx,hz,q⟩
end
end L2
namespace L2
open PySem PySem.Spec PyProof.Rows
section
variable {X:Cx}
def rCatL (K:W.Frag):R2:=fun x y H Q=>∃l b xs zs,x=.ref l/\y=.ref b/\SqL K H l xs/\SqL K H b zs/\xs.length+zs.length<=sizeLine/\∀p,H p=none->Q (.ref p) (upd H p (.lst (xs++zs)))
theorem op_catL:OpR X (binaryOp .Add) (rCatL X.K):=by
 intro pins s σ H x y v u Q I rx ry h
 obtain⟨l,b,xs,zs,rfl,rfl,ha,hb,hz,q⟩:=h
 cases rx
 cases ry
 obtain⟨us,ru,pu,_⟩:=I.list ha
 obtain⟨ws,rw',pw,_⟩:=I.list hb
 have l1:=ru.length
 have l2:=rw'.length
 obtain⟨⟨cls,dd,data,sl⟩,n,ho,hc,hdd,hd⟩:=id pu
 obtain⟨⟨cls2,dd2,data2,sl2⟩,n2,ho2,hc2,hdd2,hd2⟩:=id pw
 simp only at hc hd hc2 hd2
 subst hc hd hc2 hd2
 have st:=list_addW l b us.toArray ws.toArray n n2 dd dd2 sl sl2 (by rw[List.size_toArray,List.size_toArray];omega)
 refine concat_meets ⟨_,ho,rfl⟩ ⟨_,ho2,rfl⟩ noFill_list_add seq_list_add PySem.F.slot_list_add PySem.F.entry_list_add (PySem.F.args_list_add_2 _ _) st ⟨ho,ho2,?_⟩
 have ea:us.toArray++ws.toArray=(us++ws).toArray:=by simp
 rw[ea]
 exact⟨.ref _,_,I.lnew (t':=s.toks) (ru.append rw') (by rw[List.length_append];omega),rfl,q _ I.fresh⟩
end
end L2
namespace L2
open PySem PySem.Spec PyProof.Rows
def SqB (K:W.Frag)(kd:Bool)(H:Hp)(a:Addr)(xs:List V):Prop:=if kd=true then SqL K H a xs else SqT K H a xs
def hoB (kd:Bool)(xs:List V):HO:=if kd=true then .lst xs else .tup xs
theorem SqB.of {K:W.Frag}{kd:Bool}{H:Hp}{a:Addr}{xs:List V}(h:H a=some (hoB kd xs)):SqB K kd H a xs:=by
 cases kd with
 |true=>exact(SqL.of h:SqL K H a xs)
 |false=>exact(SqT.of h:SqT K H a xs)
def ItB (K:W.Frag)(kd:Bool)(a:Addr):It:=if kd=true then Itl K a else Itt K a
section
variable {X:Cx}
def rIxB (K:W.Frag):R2:=fun x y H Q=>∃p xs i v,x=.ref p/\y=.int i/\(SqL K H p xs\/SqT K H p xs)/\atI xs i=some v/\Q v H
theorem ix_both:IxR X (rIxB X.K):=by
 intro value slice pins s σ H x y v u Q I rx ry h hs
 obtain⟨p,xs,i,z,rfl,rfl,hq,he,q⟩:=h
 rcases hq with hq|hq
 ·exact ix_list value slice pins s σ H _ _ v u Q I rx ry ⟨p,xs,i,z,rfl,rfl,hq,he,q⟩ hs
 ·exact ix_tup value slice pins s σ H _ _ v u Q I rx ry ⟨p,xs,i,z,rfl,rfl,hq,he,q⟩ hs
def iSeq (K:W.Frag)(tl:TE):TI:=fun σ H R=>tl σ H fun x H1=>∃a kd,x=.ref a/\(∃xs,SqB K kd H1 a xs)/\R (ItB K kd a) H1
theorem pi_seq {tg l:Expr}{tl:TE}(hl:PE X l tl):PI X tg l (iSeq X.K tl):=by
 intro pins s σ H R I h
 refine thn (hl pins s σ H _ I h) fun v s1 hq9=>?_
 obtain⟨x,H1,I1,r1,q1⟩:=hq9
 obtain⟨a,kd,e,⟨xs,hq⟩,q⟩:=q1
 subst e
 cases r1
 cases kd with
 |true=>
  obtain⟨its,rv,p,hz⟩:=I1.list (show SqL X.K H1 a xs from hq)
  refine wpAny_pyIter_list p.isList ?_
  refine⟨s1.heap.objs.size,[s1.heap.objs.size],_,_,H1,rfl,I1.kept (t':=s1.toks) fun b o e=>Heap.get?_push_of_some _ e,turn_list a _,⟨_,Heap.get?_push_size _ rfl,rfl,rfl⟩,fun b hb=>?_,q⟩
  have e:b=s1.heap.objs.size:=by simpa using hb
  subst e
  exact I1.fpOk (Nat.le_refl _) (I1.hok.fresh (Nat.le_refl _))
 |false=>
  obtain⟨its,rv,p,hz⟩:=I1.tuple (show SqT X.K H1 a xs from hq)
  refine wpAny_pyIter_tuple (show s1.heap.IsTuple a its.toArray from p) ?_
  refine⟨s1.heap.objs.size,[s1.heap.objs.size],_,_,H1,rfl,I1.kept (t':=s1.toks) fun b o e=>Heap.get?_push_of_some _ e,turn_tuple a _,⟨_,Heap.get?_push_size _ rfl,rfl,rfl⟩,fun b hb=>?_,q⟩
  have e:b=s1.heap.objs.size:=by simpa using hb
  subst e
  exact I1.fpOk (Nat.le_refl _) (I1.hok.fresh (Nat.le_refl _))
def rCatB (K:W.Frag):R2:=fun x y H Q=>∃a b xs ys kd,x=.ref a/\y=.ref b/\H a=some (hoB kd xs)/\H b=some (hoB kd ys)/\xs.length+ys.length<=sizeLine/\∀p H',Same H H'->H' p=some (hoB kd (xs++ys))->Q (.ref p) H'
theorem op_catB:OpR X (binaryOp .Add) (rCatB X.K):=by
 intro pins s σ H x y v u Q I rx ry h
 obtain⟨a,b,xs,ys,kd,rfl,rfl,ha,hb,hz,q⟩:=h
 cases kd with
 |true=>exact op_catL pins s σ H _ _ v u Q I rx ry ⟨a,b,xs,ys,rfl,rfl,SqL.of ha,SqL.of hb,hz,fun p hp=>q p _ ((Same.refl H).upd_free hp) upd_same⟩
 |false=>exact op_catA pins s σ H _ _ v u Q I rx ry ⟨a,b,xs,ys,rfl,rfl,ha,hb,hz,fun p H' s' hp=>q p H' s' hp⟩
end
theorem for_seq {K:W.Frag}{kd:Bool}{a:Addr}{xs:List V}{g:TG}{tb:TS}{D:Ends}{σ:St}{H:Hp}(Pv:Nat->St->Hp->Prop)(h0:Pv 0 σ H)(hl:∀i σ H,i<=xs.length->Pv i σ H->SqB K kd H a xs)
  (hs:∀i x σ H,xs[i]?=some x->Pv i σ H->g x σ H fun σ2 H2=>tb { D with nx:=Pv (i+1),ct:=Pv (i+1),bk:=D.nx } σ2 H2) (hd:∀σ H,Pv xs.length σ H->D.nx σ H):
  ∃W:Nat->Nat->St->Hp->Prop,(∃m,W 0 m σ H)/\∀i m σ H,W i m σ H→
   ((ItB K kd a).stop i H/\D.nx σ H)\/((ItB K kd a).go i H/\∃N:St->Hp->Prop,(∀σ' H',N σ' H'->∃m',m'<m/\W (i+1) m' σ' H')/\∀x H',(ItB K kd a).yld i H x H'->g x σ H' fun σ2 H2=>tb { D with nx:=N,ct:=N,bk:=D.nx } σ2 H2):=by
 cases kd with
 |true=>exact for_list Pv h0 hl hs hd
 |false=>exact for_tup Pv h0 hl hs hd
end L2
namespace L2
open PySem PySem.Spec PyProof.Rows
section
variable {prog:Program} {w:World} {A:Around} {E:Value->Shared->Prop} {s:Shared}
theorem next_vals_item {it d:Addr}{i ep:Nat}{od:Obj}{es:Array DictEntry}{e:DictEntry}{Q:Option Value->Shared->Prop}(hit:s.heap.IsValIter it d i es.size ep)
  (hod:s.heap.get? d=some od) (hdd:od.data=.dict es ep) (hx:es[i]?=some e)
  (hQ:∀h',h'.IsValIter it d (i+1) es.size ep->Heap.SameBut it s.heap h'->Q (some e.val) { s with heap:=h' }):
  wpAny (model prog w) A (pyNext (.ref it)) Q E s:=by
 obtain⟨o,ho,hc,hd⟩:=id hit
 unfold pyNext
 refine wpAny_bind (wpAny_attempt (wpAny_callSpecial?_slot (name:=Str.ofString "__next__") hit.typeIs F.slot_dict_valueiterator_next
  (wpAny_call_entry F.slot_dict_valueiterator_next hit.typeIs F.entry_dict_valueiterator_next ?_ (F.args_dict_valueiterator_next_1 _))))
 refine wpAny_bind (wpAny_pure ?_)
 refine wpAny_bind ?_
 refine wpAny_bind ?_
 first|refine wpAny_bind (wpAny_typeNameOfWhole_valiter hit.typeIs (wpAny_pure ?_))|refine wpAny_bind (wpAny_typeNameOf_valiter hit.typeIs (wpAny_pure ?_))
 refine wpAny_bind (wpAny_fieldsOf ho hd ?_)
 have hown:Builtin.Dict_items.ownsTuple "dict_valueiterator"=false:=by decide
 simp only[hown,Bool.false_eq_true,if_false]
 show wpAny _ _ (if (Value.ref d==Value.none)=true then _ else _) _ _ s
 rw[if_neg (show ¬((Value.ref d==Value.none)=true) from Bool.false_ne_true)]
 refine wpAny_bind (wpAny_pure ?_)
 refine wpAny_bind (wpAny_dictEntries hod hdd ?_)
 rw[if_neg (by simp)]
 refine wpAny_bind (wpAny_pure ?_)
 refine wpAny_bind (wpAny_dictEpoch hod hdd ?_)
 rw[if_neg (by simp)]
 refine wpAny_pure ?_
 simp only[show ¬((i:Int)<0) from by omega,if_false,Int.toNat_natCast,hx]
 refine wpAny_bind ?_
 first|refine wpAny_bind (wpAny_typeNameOfWhole_valiter hit.typeIs (wpAny_pure ?_))|refine wpAny_bind (wpAny_typeNameOf_valiter hit.typeIs (wpAny_pure ?_))
 refine wpAny_bind (wpAny_isOneOf_valiter hit.typeIs ?_)
 show wpAny _ _ (setField (.ref it) 1 (rawInt ((i:Int)+1)) >>= _) _ _ s
 refine wpAny_bind (wpAny_setField ho hd (by simp) ?_)
 have hit':(s.heap.update it (Obj.mapFields (·.setIfInBounds 1 (rawInt ((i:Int)+1))))).IsValIter it d (i+1) es.size ep:=
  ⟨_,Heap.get?_update_self _ ho (Obj.isFreed_of_fields (Obj.data_mapFields hd _)),(Obj.cls_mapFields ..).trans hc,by rw[Obj.data_mapFields hd];simp[rawInt]⟩
 refine wpAny_bind (wpAny_holding ?_)
 refine wpAny_bind (wpAny_isOneOf_valiter (s:={ s with heap:=s.heap.update it (Obj.mapFields (·.setIfInBounds 1 (rawInt ((i:Int)+1)))) }) hit'.typeIs ?_)
 refine wpAny_bind (wpAny_isOneOf_valiter (s:={ s with heap:=s.heap.update it (Obj.mapFields (·.setIfInBounds 1 (rawInt ((i:Int)+1)))) }) hit'.typeIs ?_)
 show wpAny _ _ (pure e.val) _ _ _
 exact wpAny_pure (wpAny_pure ⟨_,rfl,wpAny_pure (hQ _ hit' (Heap.SameBut.update ..))⟩)
theorem next_vals_end {it d:Addr}{i ep:Nat}{od:Obj}{es:Array DictEntry}{Q:Option Value->Shared->Prop}(hh:A.handled=none)(hit:s.heap.IsValIter it d i es.size ep)
  (hod:s.heap.get? d=some od) (hdd:od.data=.dict es ep) (hge:es.size<=i)
  (hQ:∀h',Heap.ExtBut it s.heap h'->Q none { s with heap:=h' }):wpAny (model prog w) A (pyNext (.ref it)) Q E s:=by
 obtain⟨o,ho,hc,hd⟩:=id hit
 unfold pyNext
 refine wpAny_bind (wpAny_attempt (wpAny_callSpecial?_slot (name:=Str.ofString "__next__") hit.typeIs F.slot_dict_valueiterator_next
  (wpAny_call_entry F.slot_dict_valueiterator_next hit.typeIs F.entry_dict_valueiterator_next ?_ (F.args_dict_valueiterator_next_1 _))))
 refine wpAny_bind (wpAny_pure ?_)
 refine wpAny_bind ?_
 refine wpAny_bind ?_
 first|refine wpAny_bind (wpAny_typeNameOfWhole_valiter hit.typeIs (wpAny_pure ?_))|refine wpAny_bind (wpAny_typeNameOf_valiter hit.typeIs (wpAny_pure ?_))
 refine wpAny_bind (wpAny_fieldsOf ho hd ?_)
 have hown:Builtin.Dict_items.ownsTuple "dict_valueiterator"=false:=by decide
 simp only[hown,Bool.false_eq_true,if_false]
 show wpAny _ _ (if (Value.ref d==Value.none)=true then _ else _) _ _ s
 rw[if_neg (show ¬((Value.ref d==Value.none)=true) from Bool.false_ne_true)]
 refine wpAny_bind (wpAny_pure ?_)
 refine wpAny_bind (wpAny_dictEntries hod hdd ?_)
 rw[if_neg (by simp)]
 refine wpAny_bind (wpAny_pure ?_)
 refine wpAny_bind (wpAny_dictEpoch hod hdd ?_)
 rw[if_neg (by simp)]
 refine wpAny_pure ?_
 simp only[show ¬((i:Int)<0) from by omega,if_false,Int.toNat_natCast,Array.getElem?_eq_none hge]
 refine wpAny_bind ?_
 first|refine wpAny_bind (wpAny_typeNameOfWhole_valiter hit.typeIs (wpAny_pure ?_))|refine wpAny_bind (wpAny_typeNameOf_valiter hit.typeIs (wpAny_pure ?_))
 show wpAny _ _ (setField (.ref it) 0 .none >>= _) _ _ s
 refine wpAny_bind (wpAny_setField ho hd (by simp) ?_)
 show wpAny _ _ (newExc (.type "StopIteration") [] >>= _) _ _ _
 refine wpAny_bind ?_
 simp only[newExc,newTuple]
 refine wpAny_bind (wpAny_newObj_type ?_ (by size_fits))
 refine wpAny_bind (m:=firstArgMember _ _) (wpAny_of_eq (a:=Value.none) (by first|rfl|(simp only[firstArgMember];rfl)) ?_)
 refine wpAny_newObj_type ?_ (by size_fits)
 simp only[raiseNew]
 refine wpAny_bind (wpAny_handled ?_)
 rw[show A.in1.handled=none from hh]
 refine wpAny_bind (wpAny_pure (wpAny_throw ?_))
 refine wpAny_bind (wpAny_isInstance (T:="StopIteration") (b:=true) ⟨_,Heap.get?_push_size _ rfl,rfl⟩ isSubtype_stop ?_)
 exact wpAny_pure (hQ _ (((Heap.SameBut.update ..).extBut.push _).push _))
theorem meets_valsT (d:Addr)(hd:(d==sysModules)=false):
  MeetsIn prog w (Builtin.«dict.values» ⟨[.ref d],[]⟩) (fun _ R s=>s.TypeIs (.ref d) "dict"∧
   R (.ok (.ret (.ref s.heap.objs.size))) { s with heap:=s.heap.push { cls:=.type "dict_values",data:=.fields #[.ref d] } }):=
 .of_wp fun A R s ⟨hm,h⟩=>by
  refine wpAny_bind ?_
  unfold Builtin.Dict.noArgs
  refine wpAny_bind (wpAny_notOrdered_dict hm ?_)
  show wpAny _ _ (pure d) _ _ s
  refine wpAny_pure ?_
  show wpAny _ _ (Builtin.Dict.showsAll d >>= _) _ _ s
  unfold Builtin.Dict.showsAll
  rw[if_neg (by rw[hd];exact Bool.false_ne_true)]
  refine wpAny_bind (wpAny_pure ?_)
  exact wpAny_bind (wpAny_newObj_type (wpAny_pure ⟨_,rfl,h⟩))
theorem iter_valsT {v d:Addr}{o:Obj}{es:Array DictEntry}{ep:Nat}{Q:Value->Shared->Prop}(hv:s.heap.IsValuesView v d)(ho:s.heap.get? d=some o)(hdat:o.data=.dict es ep)
  (hQ:Q (.ref s.heap.objs.size) { s with heap:=s.heap.push { cls:=.type "dict_valueiterator",data:=.fields #[.ref d,.int 0 0,.int es.size 0,.int ep 0] } }):
  wpAny (model prog w) A (pyIter (.ref v)) Q E s:=by
 obtain⟨ov,hov,hcv,hdv⟩:=id hv
 refine wpAny_pyIter_slot hv.typeIs F.slot_dict_values_iter (wpAny_call_entry F.slot_dict_values_iter hv.typeIs F.entry_dict_values_iter ?_ (F.args_dict_values_iter_1 _))
 unfold Builtin.«dict_values.__iter__»
 refine wpAny_bind (wpAny_pure ?_)
 refine wpAny_bind ?_
 unfold Builtin.Dict_items.dictOf
 refine wpAny_bind (wpAny_field hov hdv (x:=.ref d) rfl (wpAny_pure ?_))
 refine wpAny_bind ?_
 unfold Builtin.Dict_items.newIterator
 refine wpAny_bind (wpAny_dictEntries ho hdat ?_)
 refine wpAny_bind (wpAny_dictEpoch ho hdat ?_)
 have hown:Builtin.Dict_items.ownsTuple "dict_valueiterator"=false:=by decide
 simp only[hown,Bool.false_eq_true,if_false]
 refine wpAny_newObj_type (wpAny_pure ⟨_,rfl,"dict_valueiterator",_,⟨_,Heap.get?_push_size _ rfl,rfl⟩,PySem.F.slot_dict_valueiterator_next.lookup,?_⟩)
 simpa [rawInt] using hQ
theorem walks_val (hh:A.handled=none)(I d:Addr)(hne:d≠I){od:Obj}{es:Array DictEntry}{ep:Nat}(hdat:od.data=.dict es ep):
  Walks prog w A I [I,d] [I] es.size (fun i v=>∃e,es[i]?=some e/\v=e.val) (fun i h=>h.IsValIter I d i es.size ep/\h.get? d=some od) where
 sub:=fun b hb=>by simp at hb;simp[hb]
 frame:=fun _ _ _ st hk=>⟨let ⟨o,ho,r⟩:=st.1;⟨o,hk I (by simp) o ho,r⟩,hk d (by simp) _ st.2⟩
 item:=fun i s Q E hi st hQ=>by
  obtain⟨e,hx⟩:∃p,es[i]?=some p:=⟨es[i],by simp[hi]⟩
  refine next_vals_item st.1 st.2 hdat hx fun h' hit' hs'=>?_
  exact hQ e.val h' s.toks ⟨e,hx,rfl⟩ ⟨hit',hs'.extBut d od hne st.2⟩ fun b o hb e=>hs'.extBut b o (fun h=>hb (by simp[h])) e
 done:=fun s Q E st hQ=>next_vals_end hh st.1 st.2 hdat (Nat.le_refl _) fun h' he'=>hQ h' s.toks fun b o hb e=>he' b o (fun h=>hb (by simp[h])) e
 self:=fun _ _ _ _ st hQ=>wpAny_pyIter_valiter st.1 hQ
end
section
variable {X:Cx}
def atT (xs:List (KTu×Addr×V))(k:KTu):Option V:=(xs.find? fun x=>decide (x.1=k)).map (·.2.2)
theorem trel_at {xs:List (KTu×Addr×V)}{us:List (KTu×Addr×Value)}(r:Paired TRel xs us)(k:KTu):RelO (atT xs k) ((atKey us k).map (·.2)):=by
 induction r with
 |nil=>exact True.intro
 |@cons p q ps qs h t ih=>
  obtain⟨h1,h2,h3⟩:=h
  by_cases e:p.1=k
  ·have e':q.1=k:=h1.symm.trans e
   have b:atKey (q::qs) k=some q.2:=by simp[atKey,List.find?_cons,e']
   have c:atT (p::ps) k=some p.2.2:=by simp[atT,List.find?_cons,e]
   rw[b,c];exact h3
  ·have e':¬q.1=k:=fun z=>e (h1.trans z)
   have b:atKey (q::qs) k=atKey qs k:=by simp[atKey,List.find?_cons,e']
   have c:atT (p::ps) k=atT ps k:=by simp[atT,List.find?_cons,e]
   rw[b,c];exact ih
def tTGet (P:Program)(w:World)(td ty:TE):TE:=fun σ H Q=>td σ H fun x H1=>ty σ H1 fun y H2=>∃a xs o b k v,x=.ref a/\H2 a=some (TD P w a xs o)/\TKs H2 xs/\y=.ref b/\TKy H2 k b/\atT xs k=some v/\Q v H2
theorem pe_tget {o i:Expr}{pos:Pos}{td ty:TE}(hu:X.A.units+1<cLine)(ho:PE X o td)(hi:PE X i ty)(hs:NoSl i):PE X (.Subscript o i pos) (tTGet X.prog X.w td ty):=by
 intro pins s σ H Q I h
 refine subD_of PySem.F.slot_dict_getitem.lookup hs (thn (ho pins s σ H _ I h) fun u s1 ⟨x,H1,I1,rx,q1⟩=>thn (hi pins s1 σ H1 _ I1 q1) fun iv s2 ⟨y,H2,I2,ry,a,xs,ob,b,k,v,ex,g,hk,ey,kb,hv,q2⟩=>?_)
 subst ex ey
 obtain rfl:u=Value.ref a:=rx
 obtain rfl:iv=Value.ref b:=ry
 obtain⟨z,hd,us,rel,dd⟩:=td_of I2 g hk
 have r:=trel_at rel k
 rw[hv] at r
 cases hp:atKey us k with
 |none=>rw[hp] at r;exact r.elim
 |some p=>
  rw[hp] at r
  exact⟨dd.typeIs,wpAny_getItem_heap (by show X.A.units+1<cLine;exact hu) (tk_is I2.hok kb) dd hp ⟨v,H2,I2.tok _,r,q2⟩⟩
def tTIn (P:Program)(w:World)(ty td:TE):TE:=fun σ H Q=>ty σ H fun y H1=>td σ H1 fun x H2=>∃a xs o b k,x=.ref a/\H2 a=some (TD P w a xs o)/\TKs H2 xs/\y=.ref b/\TKy H2 k b/\Q (.bl (xs.any fun x=>decide (x.1=k))) H2
theorem pc_tin {i o:Expr}{ty td:TE}(hu:X.A.units+1<cLine)(hi:PE X i ty)(ho:PE X o td):PC X .In i o (tTIn X.prog X.w ty td):=by
 intro pins s σ H Q I h
 refine thn (hi pins s σ H _ I h) fun iv s1 ⟨y,H1,I1,ry,q1⟩=>thn (ho pins s1 σ H1 _ I1 q1) fun u s2 hq9=>?_
 obtain⟨x,H2,I2,rx,a,xs,ob,b,k,ex,g,hk,ey,kb,q2⟩:=hq9
 subst ex ey
 obtain rfl:u=Value.ref a:=rx
 obtain rfl:iv=Value.ref b:=ry
 obtain⟨z,hd,us,rel,dd⟩:=td_of I2 g hk
 refine wpAny_in_heap (by show X.A.units+1<cLine;exact hu) (tk_is I2.hok kb) hd dd ?_
 rw[trel_some rel k]
 exact⟨.bl _,H2,I2.tok _,rfl,q2⟩
theorem call_lenT:CallR X (.builtin "len") (fun vs H Q=>∃a xs o,vs=[V.ref a]/\H a=some (TD X.prog X.w a xs o)/\Q (.int xs.length) H):=by
 intro pins s σ H vs us Q I r h
 obtain⟨a,xs,o,rfl,ha,q⟩:=h
 obtain⟨u,rfl,ru⟩:=vals1 r
 cases ru
 obtain⟨g1,hd,z,g2,us,es,ep,rel,g3,g4,_⟩:=td_at I ha
 have hl:es.size=xs.length:=by rw[size_of_entries g4,Paired.length rel]
 have tD:s.TypeIs (.ref a) "dict":=⟨o,g1,g2.1⟩
 have szb:(es.size:Int)<2 ^ 63:=by rw[hl];rw[sizeLine_eq] at z;omega
 refine Calls.call_function_entry kind_len plain_len entry_len (args_len1 _) ?_
 unfold Builtin.«len»
 refine wpAny_bind (m:=oneArg "len" _) (wpAny_pure ?_)
 refine wpAny_bind (m:=callSpecial? (.ref a) (Str.ofString "__len__")) (wpAny_callSpecial?_slot (name:=Str.ofString "__len__") tD PySem.F.slot_dict_len (wpAny_call_entry PySem.F.slot_dict_len tD PySem.F.entry_dict_len ?_ (PySem.F.args_dict_len_1 _)))
 show wpAny _ _ (dictSize a >>= _) _ _ s
 unfold dictSize
 refine wpAny_bind (wpAny_bind (wpAny_dictEntries g1 g3 (wpAny_pure ?_)))
 show wpAny _ _ (Builtin.Dict.pendingCount a >>= _) _ _ s
 refine wpAny_bind (wpAny_pendingCount_other hd (wpAny_ret_mkInt ?_))
 refine wpAny_bind (wpAny_holding (wpAny_pure (wpAny_bind (wpAny_letGo ?_))))
 show wpAny _ _ (if ((es.size:Nat):Int)+((0:Nat):Int)<0 then _ else _) _ _ _
 rw[if_neg (by omega)]
 show wpAny _ _ (if ((es.size:Nat):Int)+((0:Nat):Int)≥2 ^ 63 then _ else _) _ _ _
 rw[if_neg (by omega)]
 refine wpAny_bind (wpAny_mkInt (wpAny_pure ⟨_,rfl,.int xs.length,H,(I.tok _).tok _,⟨s.toks+1,?_⟩,q⟩))
 rw[hl]
 simp
def tTGet2 (P:Program)(w:World)(td ty tx:TE):TE:=fun σ H Q=>td σ H fun x H1=>∃a xs0 o0,x=.ref a/\H1 a=some (TD P w a xs0 o0)/\ty σ H1 fun y H2=>tx σ H2 fun v H3=>∃xs o b k,y=.ref b/\H3 a=some (TD P w a xs o)/\TKs H3 xs/\TKy H3 k b/\Q ((atT xs k).getD v) H3
theorem pe_tget2 {o e f:Expr}{apos cpos:Pos}{td ty tx:TE}(hu:X.A.units+2<cLine)(ho:PE X o td)(he:PE X e ty)(hf:PE X f tx)(m:M2 X o "get" apos e f cpos):PE X (.Call (.Attribute o "get" apos) [e,f] [] cpos) (tTGet2 X.prog X.w td ty tx):=by
 intro pins s σ H Q I h
 refine wpAny_Call_method m.base m.few m.line PySem.F.plainAttrs_dict PySem.F.slot_dict_get PySem.F.type_dict_get (thn (ho pins s σ H _ I h) fun u s1 ⟨x,H1,I1,rx,a,xs0,o0,ex,d,q1⟩=>?_)
 subst ex
 obtain rfl:u=Value.ref a:=rx
 obtain⟨g1,hd0,z0,g2,_⟩:=td_at I1 d
 refine⟨⟨_,g1,g2.1⟩,fun c ec=>?_,?_⟩
 ·cases ec
  exact⟨_,g1,g2.2.1⟩
 rw[m.trees]
 refine Calls.callWith_builtin rfl (Calls.evalArgs_plain (Calls.spliced_cons (thn (he pins s1 σ H1 _ I1 q1) fun iv s2 ⟨y,H2,I2,ry,q2⟩=>Calls.spliced_cons (thn (hf pins s2 σ H2 _ I2 q2) fun fv s3 ⟨v,H3,I3,rz,xs,ob,b,k,ey,e3,hk,kb,q3⟩=>Calls.spliced_nil ?_))))
 subst ey
 obtain rfl:iv=Value.ref b:=ry
 obtain⟨z,hd,us,rel,dd⟩:=td_of I3 e3 hk
 have r:=trel_at rel k
 refine call_meetsIn PySem.F.slot_dict_get dd.typeIs PySem.F.entry_dict_get (PySem.F.args_dict_get_3 _ _ _) (meetsH_dict_get_default (tupleKind (numKind X.prog X.w)) a b hd fv) ⟨(by show X.A.units+1<cLine;omega),k,us,tk_is I3.hok kb,dd,?_⟩
 refine⟨(atT xs k).getD v,H3,I3.tok _,?_,q3⟩
 cases e1:atT xs k with
 |none=>
  cases e2:(atKey us k).map (·.2) with
  |none=>exact rz
  |some p=>rw[e1,e2] at r;exact r.elim
 |some u=>
  cases e2:(atKey us k).map (·.2) with
  |none=>rw[e1,e2] at r;exact r.elim
  |some p=>rw[e1,e2] at r;exact r
def VaV (r a:Addr):HO:=.ext fun h=>h.IsValuesView r a
theorem vv_new {P:Program}{w:World}{H:Hp}{h:Heap}{r a:Addr}(v:h.IsValuesView r a):ObjOk P w H h r (VaV r a):=by
 obtain⟨o,e1,e2,e3⟩:=v
 exact⟨⟨o,e1,e2,e3⟩,⟨o,e1⟩,fun h1 h2 ⟨o,e1,e2,e3⟩ k=>⟨o,k o e1,e2,e3⟩⟩
def tValsV (P:Program)(w:World)(td:TE):TE:=fun σ H Q=>td σ H fun x H1=>∃a xs o,x=.ref a/\H1 a=some (TD P w a xs o)/\∀r,H1 r=none->Q (.ref r) (upd H1 r (VaV r a))
theorem pe_valsV {o:Expr}{td:TE}{apos cpos:Pos}(ho:PE X o td)(hbase:attributeBase o "values" X.env (eval o X.env)=eval o X.env:=by rfl)(hline:(apos.endLine==cpos.line)=true:=by rfl):
  PE X (.Call (.Attribute o "values" apos) [] [] cpos) (tValsV X.prog X.w td):=by
 intro pins s σ H Q I h
 refine wpAny_Call_method0_late hbase hline (thn (ho pins s σ H _ I h) fun v s1 ⟨x,H1,I1,r1,a,xs,ob,ex,e,q⟩=>?_)
 subst ex
 obtain rfl:v=Value.ref a:=r1
 obtain⟨g1,hd,z,g2,_⟩:=td_at I1 e
 have tD:s1.TypeIs (.ref a) "dict":=⟨ob,g1,g2.1⟩
 refine⟨"dict","dict.values",PySem.F.plainAttrs_dict,PySem.F.slot_dict_values,PySem.F.type_dict_values,tD,fun c ec=>?_,Calls.callWith_builtin rfl (PySem.evalArgs_none ?_)⟩
 ·cases ec
  exact⟨ob,g1,g2.2.1⟩
 refine call_meetsIn PySem.F.slot_dict_values tD PySem.F.entry_dict_values (PySem.F.args_dict_values_1 _) (meets_valsT a hd) ⟨tD,?_⟩
 exact⟨.ref s1.heap.objs.size,_,I1.laid (a:=s1.heap.objs.size) (o:=VaV s1.heap.objs.size a) (t':=s1.toks) (fun _ _ q=>Heap.get?_push_of_some _ q) (Nat.le_refl _) (vv_new ⟨_,Heap.get?_push_size _ rfl,rfl,rfl⟩),rfl,q _ (I1.hok.fresh (Nat.le_refl _))⟩
theorem call_maxV (hc:X.calm=true):CallR X (.builtin "max") (fun vs H Q=>∃(r a:Addr) (xs:List (KTu×Addr×V)) (o:Obj) (ns:List Int),vs=[V.ref r]/\H r=some (VaV r a)/\H a=some (TD X.prog X.w a xs o)/\xs.map (·.2.2)=ns.map V.int/\ns≠[]/\∀m∈ns,(∀n∈ns,n<=m)->Q (.int m) H):=by
 intro pins s σ H vs us Q I rv h
 obtain⟨r,a,xs,o,ns,rfl,hr,ha,hns,hne,q⟩:=h
 obtain⟨u,rfl,rx⟩:=vals1 rv
 obtain rfl:u=.ref r:=rx
 have hv:=(show ObjOk X.prog X.w H s.heap r (VaV r a) from I.hok _ _ hr).1
 obtain⟨g1,hd,z,g2,us,es,ep,rel,g3,g4,_⟩:=td_at I ha
 have hl:es.size=xs.length:=by rw[size_of_entries g4,Paired.length rel]
 have hnl:ns.length=xs.length:=by
  have:=congrArg List.length hns
  rw[List.length_map,List.length_map] at this
  exact this.symm
 have hpos:0<ns.length:=List.length_pos_iff.mpr hne
 have hval:∀(i:Nat) (v:Value),(∃e:DictEntry,es[i]?=some e/\v=e.val)->i<ns.length/\∃t,v=.int (ns.getD i 0) t:=by
  rintro i v ⟨e,he,rfl⟩
  rw[entry_at g4 i] at he
  obtain⟨x,hx,rfl⟩:=Option.map_eq_some_iff.mp he
  have hi:i<xs.length:=by rw[Paired.length rel];exact(List.getElem?_eq_some_iff.mp hx).1
  obtain⟨x',hx',hr'⟩:=trel_get rel (List.getElem?_eq_getElem hi)
  rw[hx] at hx'
  cases hx'
  have e1:(xs.map (·.2.2))[i]?=some xs[i].2.2:=by rw[List.getElem?_map,List.getElem?_eq_getElem hi];rfl
  rw[hns,List.getElem?_map] at e1
  obtain⟨n,hn,en⟩:=Option.map_eq_some_iff.mp e1
  have rv':=hr'.2.2
  rw[<- en] at rv'
  obtain⟨t,et⟩:=rv'
  refine⟨by omega,t,?_⟩
  have:ns.getD i 0=n:=by simp[List.getD,hn]
  rw[this]
  exact et
 have gd:∀j,j<ns.length->ns[j]?=some (ns.getD j 0):=fun j hj=>by simp[List.getD,hj]
 have hh:=I.ok.hd hc
 refine call_max_walk (iter_valsT hv g1 g3 ?_)
 have hne':a≠s.heap.objs.size:=Nat.ne_of_lt (Heap.lt_size g1)
 refine⟨s.heap.objs.size,_,_,_,_,_,_,rfl,walks_val (A:=X.A.in1) hh s.heap.objs.size a hne' g3,⟨⟨_,Heap.get?_push_size _ rfl,rfl,rfl⟩,Heap.get?_push_of_some _ g1⟩,fun b hb=>?_,by omega,CmpOf.ints_gt (fun i=>ns.getD i 0) fun i v hP=>(hval i v hP).2,fun v h' tk hP hk=>?_⟩
 ·rw[size_push']
  rcases List.mem_cons.mp hb with e|hb
  ·rw[e];exact Nat.lt_succ_self _
  ·rw[List.mem_singleton.mp hb];exact Nat.lt_succ_of_lt (Heap.lt_size g1)
 ·obtain⟨hi,t,rfl⟩:=hval _ _ hP
  obtain⟨b1,b2⟩:=argBest_gt (fun i=>ns.getD i 0) (es.size-1)
  have I1:Inv X pins σ H { s with heap:=s.heap.push { cls:=.type "dict_valueiterator",data:=.fields #[.ref a,.int 0 0,.int es.size 0,.int ep 0] } }:=I.kept (t':=s.toks) fun b o e=>Heap.get?_push_of_some _ e
  have nI:=nw_of I (Nat.le_refl s.heap.objs.size)
  have I2:=I1.turned (t':=tk) (h':=h') (fun b o hb e=>hk b o (by simpa using hb) e) (I.hok.fresh (Nat.le_refl _)) nI.loc (.inr nI.new) nI.cel nI.pin
  refine⟨.int _,H,I2,⟨t,rfl⟩,q _ ?_ fun n hn=>?_⟩
  ·exact List.mem_of_getElem? (gd _ hi)
  ·obtain⟨j,hj,ej⟩:=List.getElem_of_mem hn
   have:=b2 j (by omega)
   have e2:ns.getD j 0=n:=by simp[List.getD,hj,ej]
   rw[e2] at this
   exact this
end
end L2
namespace L2
open PySem PySem.Spec PyProof.Rows
theorem few_of {α:Type}(f:α->Int):∀(l:List α) (h:Int),(l.map f).Nodup->(l.filter fun x=>f x==h).length<=1
 | [],_,_=>Nat.zero_le _
 |x::l,h,nd=>by
  rw[List.map_cons,List.nodup_cons] at nd
  by_cases e:f x=h
  ·have:(l.filter fun x=>f x==h)=[]:=by
    rw[List.filter_eq_nil_iff]
    intro y hy q
    have:f y=h:=by simpa using q
    exact nd.1 (List.mem_map.mpr ⟨y,hy,this.trans e.symm⟩)
   rw[List.filter_cons_of_pos (by simpa using e),this]
   exact Nat.le_refl _
  ·rw[List.filter_cons_of_neg (by simpa using e)]
   exact few_of f l h nd.2
section
variable {prog:Program} {w:World} {K:Type} [DecidableEq K] {knd:HeapKind prog w K} {A:Around} {E:Value->Shared->Prop} {s:Shared}
theorem entries_new {id:String}{d:Addr}{o:Obj}{es:Array DictEntry}{ep:Nat}{Q:Array DictEntry->Shared->Prop}(ho:s.heap.get? d=some o)(hd:o.data=.dict es ep)
  (hk:∀e∈es.toList,∃b,e.key=.ref b/\s.TypeIs (.ref b) "tuple") (hu:(es.toList.map (·.hash)).Nodup) (h:Q es s):wpAny (model prog w) A (Builtin.Dict.entriesForEmpty id d) Q E s:=by
 unfold Builtin.Dict.entriesForEmpty
 refine wpAny_bind (wpAny_dictEntries ho hd ?_)
 rw[<- Array.forIn_toList]
 refine wpAny_bind (wpAny_forIn_list _ (fun rest _ s'=>s'=s/\∀e∈rest,e∈es.toList) _ ?_ ?_ _ _ ⟨rfl,fun e he=>he⟩)
 ·rintro e rest b s' ⟨rfl,hr⟩
  have he:=hr e List.mem_cons_self
  obtain⟨c,ec,tc⟩:=hk e he
  rw[ec]
  have q:¬(es.filter fun x=>x.hash==e.hash).size > 1:=by
   have:=few_of (fun x:DictEntry=>x.hash) es.toList e.hash hu
   rw[<- Array.length_toList,Array.toList_filter]
   omega
  unfold Builtin.Dict.quietEq
  refine wpAny_bind (wpAny_bind (wpAny_specialOf tc PySem.F.slot_tuple_eq.lookup (wpAny_pure ?_)))
  rw[show(some (Value.builtin "tuple.__eq__")==some (Value.builtin "object.__eq__"))=false by decide]
  simp only[Bool.not_false,if_true]
  rw[if_neg q]
  exact wpAny_pure ⟨rfl,fun e he=>hr e (List.mem_cons_of_mem _ he)⟩
 ·rintro b s' ⟨rfl,_⟩
  exact wpAny_pure h
theorem merge_new {nm:String}{d o:Addr}{us:List (K×Addr×Value)}{Q:Unit->Shared->Prop}(hdo:d≠o)(hoS:(o==sysModules)=false)(hd:s.heap.DictOfH knd d [])(ho:s.heap.DictOfH knd o us)(hsz:us.length<=sizeLine)
  (ht:∀x∈us,s.TypeIs (.ref x.2.1) "tuple") (hh:(us.map fun x=>knd.hash x.1).Nodup)
  (hQ:∀h',h'.DictOfH knd d us->Heap.SameBut d s.heap h'->Q () { s with heap:=h' }):wpAny (model prog w) A (Builtin.Dict.mergeDict nm d o) Q E s:=by
 obtain⟨od,esd,epd,hod,hcd,hdd,hkd,hpd,hnd⟩:=id hd
 obtain⟨oo,eso,epo,hoo,hco,hdo',hko,hpo,hno⟩:=id ho
 have h0:esd=#[]:=by
  have:esd.toList=[]:=hkd
  exact Array.toList_eq_nil_iff.mp this
 unfold Builtin.Dict.mergeDict
 rw[if_neg (by simpa using hdo)]
 unfold Builtin.Dict.showsAll
 rw[if_neg (by rw[hoS];exact Bool.false_ne_true)]
 refine wpAny_bind (wpAny_pure ?_)
 refine wpAny_bind (wpAny_dictEntries hoo hdo' ?_)
 have hsize:eso.size=us.length:=by rw[<- Array.length_toList,hko,List.length_map]
 dsimp only
 split
 ·refine wpAny_bind (wpAny_dictEntries hod hdd ?_)
  rw[if_pos (by rw[h0];rfl)]
  refine wpAny_bind (entries_new hoo hdo' (fun e he=>?_) ?_ ?_)
  ·rw[hko] at he
   obtain⟨x,hx,rfl⟩:=List.mem_map.mp he
   exact⟨x.2.1,rfl,ht x hx⟩
  ·rw[hko,List.map_map]
   exact hh
  ·split
   ·refine wpAny_bind (wpAny_updateDictKeysTo hod hdd (wpAny_pure (hQ _ ⟨_,_,epd+1,Heap.get?_update_self _ hod (Obj.isFreed_of_dict (Obj.data_mapDictKeys hdd _)),hcd.mapDictKeys _,
     Obj.data_mapDictKeys hdd _,hko,fun x hx=>knd.keeps (hpo x hx) hod hdd (Heap.SameBut.update ..),hno⟩ (Heap.SameBut.update ..))) (by omega))
   ·rename_i hne
    have e0:eso=#[]:=Array.isEmpty_iff.mp (by simpa using hne)
    have u0:us=[]:=List.length_eq_zero_iff.mp (by rw[<- hsize,e0];rfl)
    subst u0
    exact wpAny_pure (hQ _ hd (Heap.SameBut.refl _ _))
 ·rename_i hf
  have u0:us=[]:=by
   cases us with
   |nil=>rfl
   |cons x us=>
    exfalso
    apply hf
    have hm:entryOfKey knd x∈eso.toList:=by rw[hko];exact List.mem_cons_self
    have:(eso.all fun e=>(keyPart e.key).isSome)=false:=by
     rw[Bool.eq_false_iff]
     intro q
     have:=Array.all_eq_true'.mp q (entryOfKey knd x) (by simpa using hm)
     cases this
    rw[this,Bool.and_false]
    rfl
  subst u0
  refine wpAny_bind (wpAny_dictEpoch hoo hdo' ?_)
  refine wpAny_bind (wpAny_dictEntries hoo hdo' ?_)
  refine wpAny_bind ?_
  rw[Std.Legacy.Range.forIn_eq_forIn_range']
  simp only[Std.Legacy.Range.size,Nat.sub_zero,Nat.add_sub_cancel,Nat.div_one,hsize,List.length_nil]
  exact wpAny_pure (wpAny_pure (hQ _ hd (Heap.SameBut.refl _ _)))
theorem call_dict_new {o:Addr}{us:List (K×Addr×Value)}{Q:Value->Shared->Prop}(hoS:(o==sysModules)=false)(ho:s.heap.DictOfH knd o us)(hsz:us.length<=sizeLine)(hki:∀x∈us,knd.is (s.heap.push { cls:=.type "dict",data:=.dict #[] }) x.1 x.2.1)
  (ht:∀x∈us,s.TypeIs (.ref x.2.1) "tuple") (hh:(us.map fun x=>knd.hash x.1).Nodup)
  (h:∀h',h'.DictOfH knd s.heap.objs.size us->Heap.SameBut s.heap.objs.size (s.heap.push { cls:=.type "dict",data:=.dict #[] }) h'->Q (.ref s.heap.objs.size) { s with heap:=h' }):
  wpAny (model prog w) A (call (.type "dict") [.ref o]) Q E s:=by
 refine callType_codes (Q₁:=fun obj s₁=>obj=.ref s.heap.objs.size/\s₁={ s with heap:=s.heap.push { cls:=.type "dict",data:=.dict #[] } }) PySem.F.kt_called_dict (PySem.F.kt_typeCall_dict_1 _) PySem.F.entry_dict_init (PySem.kt_code_dict_new _ ⟨rfl,rfl⟩) ?_
 rintro obj s₁ ⟨rfl,rfl⟩
 obtain⟨oo,eso,epo,hoo,hco,hdo',hko,hpo,hno⟩:=id ho
 have hnew:(s.heap.push { cls:=.type "dict",data:=.dict #[] }).DictOfH knd s.heap.objs.size []:=Heap.DictOfH.new s.heap
 have ho':(s.heap.push { cls:=.type "dict",data:=.dict #[] }).DictOfH knd o us:=⟨oo,eso,epo,Heap.get?_push_of_some _ hoo,hco,hdo',hko,hki,hno⟩
 have hdo:s.heap.objs.size≠o:=fun e=>absurd (Heap.lt_size hoo) (by rw[e];exact Nat.lt_irrefl _)
 refine⟨hnew.typeIs,PySem.F.args_dict_init_2 _ _,?_⟩
 unfold Builtin.«dict.__init__»
 refine wpAny_bind ?_
 unfold Builtin.Dict.selfAndRest
 refine wpAny_bind (wpAny_notOrdered_dict hnew.typeIs ?_)
 show wpAny _ _ (pure (s.heap.objs.size,[Value.ref o])) _ _ _
 refine wpAny_pure ?_
 show wpAny _ _ (Builtin.Dict.updateFrom "dict.__init__" s.heap.objs.size (.ref o) [] .none) _ _ _
 unfold Builtin.Dict.updateFrom
 refine wpAny_bind (wpAny_typeOf ho'.typeIs ?_)
 rw[if_neg (by decide)]
 refine wpAny_bind ?_
 unfold Builtin.Dict.merge
 refine wpAny_bind ?_
 unfold Builtin.Dict.readDirectly
 refine wpAny_bind (wpAny_isInstance ho'.typeIs isSubtype_dict_dict ?_)
 simp only[Bool.not_true,Bool.false_eq_true,if_false]
 refine wpAny_bind (wpAny_specialOf ho'.typeIs PySem.F.slot_dict_iter.lookup (wpAny_pure ?_))
 simp only[beq_self_eq_true,if_true]
 refine wpAny_bind (wpAny_pure ?_)
 refine merge_new hdo hoS hnew ho' hsz (fun x hx=>?_) hh fun h' hd' hs'=>?_
 ·obtain⟨ox,h1,h2⟩:=ht x hx
  exact⟨ox,Heap.get?_push_of_some _ h1,h2⟩
 show wpAny _ _ (Builtin.Dict.addKeywords s.heap.objs.size [] >>= _) _ _ _
 exact wpAny_bind (wpAny_pure (wpAny_pure ⟨rfl,h h' hd' hs'⟩))
end
section
variable {X:Cx}
theorem call_dictT:CallR X (.type "dict") (fun vs H Q=>∃a xs o,vs=[V.ref a]/\H a=some (TD X.prog X.w a xs o)/\TKs H xs/\(xs.map fun x=>(tupleKind (numKind X.prog X.w)).hash x.1).Nodup/\∀p o',H p=none->Q (.ref p) (upd H p (TD X.prog X.w p xs o'))):=by
 intro pins s σ H vs us Q I rv h
 obtain⟨a,xs,o,rfl,ha,hk,hh,q⟩:=h
 obtain⟨u,rfl,rx⟩:=vals1 rv
 obtain rfl:u=.ref a:=rx
 obtain⟨z,hd,us,rel,dd⟩:=td_of I ha hk
 have hl:us.length=xs.length:=(Paired.length rel).symm
 have I1:Inv X pins σ H { s with heap:=s.heap.push { cls:=.type "dict",data:=.dict #[] } }:=I.kept (t':=s.toks) fun b o e=>Heap.get?_push_of_some _ e
 have keys:∀x∈us,∃b,TKy H x.1 x.2.1:=fun x hx=>by
  obtain⟨i,hi,ei⟩:=List.getElem_of_mem hx
  obtain⟨x',h1,h2⟩:=trel_get rel (List.getElem?_eq_getElem (show i<xs.length by omega))
  rw[List.getElem?_eq_getElem hi,ei] at h1
  cases h1
  have:=hk xs[i] (List.getElem_mem _)
  rw[h2.1,h2.2.1] at this
  exact⟨0,this⟩
 refine call_dict_new (knd:=tupleKind (numKind X.prog X.w)) hd dd (by omega) (fun x hx=>?_) (fun x hx=>?_) ?_ fun h' dd' hs'=>?_
 ·obtain⟨_,kx⟩:=keys x hx
  exact tk_is I1.hok kx
 ·obtain⟨_,vs,hv,_⟩:=keys x hx
  obtain⟨its,_,p,_⟩:=I.tuple (SqT.of hv)
  exact p.typeIs
 ·have:(us.map fun x=>(tupleKind (numKind X.prog X.w)).hash x.1)=xs.map fun x=>(tupleKind (numKind X.prog X.w)).hash x.1:=by
   clear dd hh keys q ha
   induction rel with
   |nil=>rfl
   |@cons p q' ps qs h t ih=>
    rw[List.map_cons,List.map_cons,ih (fun x hx=>hk x (List.mem_cons_of_mem _ hx)) (by rw[List.length_cons] at z;omega) (Paired.length t).symm,h.1]
  rw[this]
  exact hh
 ·have hnm:(s.heap.objs.size==sysModules)=false:=beq_eq_false_iff_ne.mpr (Ne.symm (Nat.ne_of_lt I.big))
  obtain⟨o',ho'⟩:=td_new (P:=X.prog) (w:=X.w) (xs:=xs) z hnm rel dd'
  have keep:∀b ob,s.heap.get? b=some ob->h'.get? b=some ob:=fun b ob e=>(hs'.2 b (Nat.ne_of_lt (Heap.lt_size e))).trans (Heap.get?_push_of_some _ e)
  exact⟨.ref s.heap.objs.size,_,I.laid (a:=s.heap.objs.size) (o:=TD X.prog X.w s.heap.objs.size xs o') (t':=s.toks) keep (Nat.le_refl _) (ho' _),rfl,q _ o' (I.hok.fresh (Nat.le_refl _))⟩
variable {P:Program} {w:World}
theorem pe_tgetW (hP:X.prog=P)(hw:X.w=w){o i:Expr}{pos:Pos}{td ty:TE}(hu:X.A.units+1<cLine)(ho:PE X o td)(hi:PE X i ty)(hs:NoSl i):PE X (.Subscript o i pos) (tTGet P w td ty):=by subst hP hw;exact pe_tget hu ho hi hs
theorem pc_tinW (hP:X.prog=P)(hw:X.w=w){i o:Expr}{ty td:TE}(hu:X.A.units+1<cLine)(hi:PE X i ty)(ho:PE X o td):PC X .In i o (tTIn P w ty td):=by subst hP hw;exact pc_tin hu hi ho
theorem call_lenTW (hP:X.prog=P)(hw:X.w=w):CallR X (.builtin "len") (fun vs H Q=>∃a xs o,vs=[V.ref a]/\H a=some (TD P w a xs o)/\Q (.int xs.length) H):=by subst hP hw;exact call_lenT
theorem pe_tget2W (hP:X.prog=P)(hw:X.w=w){o e f:Expr}{apos cpos:Pos}{td ty tx:TE}(hu:X.A.units+2<cLine)(ho:PE X o td)(he:PE X e ty)(hf:PE X f tx)(m:M2 X o "get" apos e f cpos):PE X (.Call (.Attribute o "get" apos) [e,f] [] cpos) (tTGet2 P w td ty tx):=by subst hP hw;exact pe_tget2 hu ho he hf m
theorem pe_valsW (hP:X.prog=P)(hw:X.w=w){o:Expr}{td:TE}{apos cpos:Pos}(ho:PE X o td)(hbase:attributeBase o "values" X.env (eval o X.env)=eval o X.env:=by rfl)(hline:(apos.endLine==cpos.line)=true:=by rfl):
  PE X (.Call (.Attribute o "values" apos) [] [] cpos) (tValsV P w td):=by subst hP hw;exact pe_valsV ho hbase hline
theorem call_maxVW (hP:X.prog=P)(hw:X.w=w)(hc:X.calm=true):CallR X (.builtin "max") (fun vs H Q=>∃(r a:Addr) (xs:List (KTu×Addr×V)) (o:Obj) (ns:List Int),vs=[V.ref r]/\H r=some (VaV r a)/\H a=some (TD P w a xs o)/\xs.map (·.2.2)=ns.map V.int/\ns≠[]/\∀m∈ns,(∀n∈ns,n<=m)->Q (.int m) H):=by subst hP hw;exact call_maxV hc
theorem call_dictTW (hP:X.prog=P)(hw:X.w=w):CallR X (.type "dict") (fun vs H Q=>∃a xs o,vs=[V.ref a]/\H a=some (TD P w a xs o)/\TKs H xs/\(xs.map fun x=>(tupleKind (numKind P w)).hash x.1).Nodup/\∀p o',H p=none->Q (.ref p) (upd H p (TD P w p xs o'))):=by subst hP hw;exact call_dictT
end
end L2
namespace L2
open PySem PySem.Spec PyProof.Rows
section
variable {X:Cx}
theorem range_any (bs:List Bool)(i:Nat)(h:i<=bs.length):((List.range bs.length).drop i).any (fun j=>bs.getD j false)=(bs.drop i).any id:=by
 induction k:bs.length-i generalizing i with
 |zero=>
  have e:i=bs.length:=by omega
  subst e
  rw[List.drop_of_length_le (by simp),List.drop_of_length_le (Nat.le_refl _)]
  rfl
 |succ k ih=>
  have hlt:i<bs.length:=by omega
  have hd:(List.range bs.length).drop i=i::(List.range bs.length).drop (i+1):=by
   rw[List.drop_eq_getElem_cons (by simpa using hlt)];simp
  rw[hd,List.drop_eq_getElem_cons hlt,List.any_cons,List.any_cons,ih (i+1) hlt (by omega)]
  simp[List.getD,hlt]
theorem truth_bs {prog:Program}{w:World}{A:Around}{bs:List Bool}{us:List Value}(rv:Vals (bs.map V.bl) us):TruthOf prog w A (fun i v=>us.toArray[i]?=some v) (fun i=>bs.getD i false):=by
 intro i v s Q E hv q
 have hv':us[i]?=some v:=by simpa using hv
 have hlt:i<bs.length:=by
  have:=(List.getElem?_eq_some_iff.mp hv').1
  have:=rv.length
  rw[List.length_map] at this
  omega
 obtain⟨u,hu,ru⟩:=rv.get (i:=i) (x:=V.bl bs[i]) (by simp[hlt])
 rw[hv'] at hu
 cases hu
 cases ru
 refine wpAny_truthy_bool ?_
 have e:bs.getD i false=bs[i]:=by simp[List.getD,hlt]
 have q':Q (bs.getD i false) s:=q
 rw[e] at q'
 exact q'
theorem call_anyB (hc:X.calm=true):CallR X (.builtin "any") (fun xs H Q=>∃(p:Addr) (bs:List Bool),xs=[.ref p]/\SqL X.K H p (bs.map V.bl)/\Q (.bl (bs.any id)) H):=by
 intro pins s σ H xs us Q I r h
 obtain⟨p,bs,rfl,hq,q⟩:=h
 obtain⟨u,rfl,rx⟩:=vals1 r
 cases rx
 obtain⟨its,rv,pl,hz⟩:=I.list hq
 have hl:its.length=bs.length:=by
  have:=rv.length
  rw[List.length_map] at this
  exact this.symm
 obtain⟨o,ho,_⟩:=id pl.isList
 have hp:p<s.heap.objs.size:=Heap.lt_size ho
 refine call_any_walk (wpAny_pyIter_list pl.isList ?_)
 refine⟨s.heap.objs.size,[s.heap.objs.size,p],[s.heap.objs.size],its.toArray.size,_,_,fun i=>bs.getD i false,rfl,Walks.list (A:=X.A.in1) (by exact I.ok.hd hc) _ p (Nat.ne_of_lt hp) its.toArray,⟨⟨_,Heap.get?_push_size _ rfl,rfl,rfl⟩,pl.isList.at fun o e=>Heap.get?_push_of_some _ e⟩,truth_bs rv,fun h' tk kk=>?_⟩
 have e:=range_any bs 0 (Nat.zero_le _)
 rw[List.drop_zero,List.drop_zero] at e
 rw[List.size_toArray,hl,e]
 exact⟨.bl _,H,I.kept (t':=tk) fun b o eo=>kk b o (by simpa using Nat.ne_of_lt (Heap.lt_size eo)) (Heap.get?_push_of_some _ eo),rfl,q⟩
theorem boot_any:bootBuiltins "any"=some (.builtin "any"):=by decide +kernel
end
end L2
namespace HT
open PySem PySem.Spec PyProof.Rows
section
variable {prog:Program} {w:World} {A:Around} {E:Value->Shared->Prop} {s:Shared}
theorem getItem_tuple_whole {t sl:Addr}{items:Array Value}{vl vu:Value}{lo hi:Option Int}{Q:Value->Shared->Prop}(ht:IsTup s.heap t items)(hs:s.heap.IsSliceOf sl vl vu .none)(pl:IsPart vl lo)(pu:IsPart vu hi)
  (h1:sIx items.size 0 lo=0) (h2:sIx items.size items.size hi=items.size) (h:Q (.ref t) s):wpAny (model prog w) A (getItem (.ref t) (.ref sl)) Q E s:=by
 obtain⟨os,hos,hcs,hds⟩:=id hs
 have hTs:s.TypeIs (.ref sl) "slice":=⟨os,hos,hcs⟩
 unfold getItem
 try with_reducible refine wpAny_holding ?_
 first|refine wpAny_bind (wpAny_pure ?_)|skip
 refine wpAny_bind (wpAny_sequenceKey ht.typeIs (by decide) ?_)
 refine wpAny_bind (wpAny_callSpecial?_slot (name:=Str.ofString "__getitem__") ht.typeIs PyProof.Rows.slot_tuple_getitem
  (wpAny_call_entry PyProof.Rows.slot_tuple_getitem ht.typeIs entry_tuple_getitem ?_ (args_tuple_getitem _ _)))
 show wpAny _ _ (Builtin.Tuple.tupleItemsOf (.ref t) >>= _) _ _ s
 refine wpAny_bind (tupleItemsOf_ ht ?_)
 refine wpAny_bind (wpAny_typeOf hTs ?_)
 rw[if_pos (by decide)]
 refine wpAny_bind (sliceApplied_gen hs pl pu ?_)
 have hyes:(((sIx items.size 0 lo:Nat):Int)==0&&(1:Int)==1&&(sIx items.size items.size hi-sIx items.size 0 lo)==items.size)=true:=by
  rw[h1,h2]
  simp
 show wpAny _ _ (if (((sIx items.size 0 lo:Nat):Int)==0&&(1:Int)==1&&(sIx items.size items.size hi-sIx items.size 0 lo)==items.size)=true then _ else _) _ _ s
 rw[if_pos hyes]
 show wpAny _ _ (Builtin.Tuple.tupleIsExact (.ref t) >>= _) _ _ s
 refine wpAny_bind (wpAny_bind (wpAny_typeOf ht.typeIs (wpAny_pure ?_)))
 rw[if_pos (by decide)]
 refine wpAny_bind (wpAny_rule (wpAny_bind (wpAny_pure (wpAny_pure ⟨_,rfl,wpAny_pure h⟩))))
end
end HT
namespace L2
open PySem PySem.Spec PyProof.Rows
def rSlA:V->Option Int->Option Int->Hp->VK->Prop:=fun x lo hi H Q=>∃a xs,x=.ref a/\H a=some (.tup xs)/\∀p H',Same H H'->H' p=some (.tup (cutV xs lo hi))->Q (.ref p) H'
theorem sl_tupA {X:Cx}:SlR X rSlA:=by
 intro pins s σ H x v vl vu lo hi sl Q I rx hs pl pu h
 obtain⟨a,xs,rfl,hx,q⟩:=h
 by_cases hw:HT.sIx xs.length 0 lo=0/\HT.sIx xs.length xs.length hi=xs.length
 ·cases rx
  obtain⟨its,r,ht,hz⟩:=I.tuple (SqT.of hx)
  have hlen:its.toArray.size=xs.length:=by rw[List.size_toArray];exact r.length.symm
  refine⟨"tuple",_,PyProof.Rows.slot_tuple_getitem.lookup,ht.typeIs,?_⟩
  refine HT.getItem_tuple_whole ht hs pl pu (by rw[hlen];exact hw.1) (by rw[hlen];exact hw.2) ⟨.ref a,H,I,rfl,q a H (Same.refl H) ?_⟩
  have e:cutV xs lo hi=xs:=by
   unfold cutV
   rw[hw.1,hw.2,List.drop_zero,Nat.sub_zero,List.take_length]
  rw[e]
  exact hx
 ·exact sl_tup pins s σ H _ v vl vu lo hi sl Q I rx hs pl pu ⟨a,xs,rfl,SqT.of hx,hw,fun p hp=>q p _ ((Same.refl H).upd_free hp) upd_same⟩
end L2
namespace L2
open PySem PySem.Spec PyProof.Rows
section
variable {X:Cx}
theorem call_rng1:CallR X (.type "range") (fun xs H Q=>∃j:Int,xs=[.int j]/\∀a,H a=none->Q (.ref a) (upd H a (.rng 0 j))):=by
 intro pins s σ H xs us Q I r h
 obtain⟨j,rfl,q⟩:=h
 obtain⟨u,rfl,rx⟩:=vals1 r
 obtain⟨t,rfl⟩:=rx
 refine call_range_1 ⟨.ref s.heap.objs.size,_,I.laid (t':=s.toks+1+1) (o:=.rng 0 j) (fun b o e=>Heap.get?_push_of_some _ e) (Nat.le_refl _) ⟨_,_,_,Heap.get?_push_size _ rfl⟩,rfl,q _ (I.hok.fresh (Nat.le_refl _))⟩
def rangeI (lo:Int)(n:Nat):List Int:=(List.range n).map fun(i:Nat)=>lo+(i:Int)
theorem items_vals {lo:Int}:∀(n:Nat) (us:List Value),us.length=n->(∀(i:Nat) (v:Value),us[i]?=some v->∃t,v=.int (lo+(i:Int)) t)->Vals ((rangeI lo n).map V.int) us:=by
 intro n
 induction n generalizing lo with
 |zero=>
  intro us hl _
  have:us=[]:=List.length_eq_zero_iff.mp hl
  subst this
  exact .nil
 |succ n ih=>
  intro us hl h
  cases us with
  |nil=>simp at hl
  |cons u us=>
   obtain⟨t,rfl⟩:=h 0 u rfl
   have e:rangeI lo (n+1)=(lo+((0:Nat):Int))::rangeI (lo+1) n:=by
    unfold rangeI
    rw[List.range_succ_eq_map,List.map_cons,List.map_map]
    congr 1
    apply List.map_congr_left
    intro i _
    show lo+((Nat.succ i:Nat):Int)=lo+1+(i:Int)
    omega
   rw[e,List.map_cons]
   refine .cons ⟨t,rfl⟩ (ih us (by simpa using hl) fun i v hv=>?_)
   obtain⟨t',rfl⟩:=h (i+1) v (by simpa using hv)
   exact⟨t',by congr 1;omega⟩
theorem call_list_rng (hc:X.calm=true):CallR X (.type "list") (fun xs H Q=>∃(p:Addr) (lo hi:Int),xs=[.ref p]/\H p=some (.rng lo hi)/\-(2 ^ 62)<=lo/\lo<2 ^ 62/\-(2 ^ 62)<=hi/\hi<2 ^ 62/\(hi-lo).toNat<=1000/\∀l,H l=none->Q (.ref l) (upd H l (.lst ((rangeI lo (hi-lo).toNat).map V.int)))):=by
 intro pins s σ H xs us Q I r h
 obtain⟨p,lo,hi,rfl,hp,l0,l1,h0,h1,hn,q⟩:=h
 obtain⟨u,rfl,rx⟩:=vals1 r
 cases rx
 obtain⟨t,u,v,ho⟩:=show ∃t u v,s.heap.get? p=some { cls:=.type "range",data:=.fields #[.int lo t,.int hi u,.int 1 v] } from I.hok _ _ hp
 refine call_list_range (n:=(hi-lo).toNat) (I.ok.hd hc) ho (small_one l0 l1 h0 h1) (by rw[rangeSize_one];split<;>omega) (by omega) fun h' tk acc' c' hk hS hI=>?_
 refine⟨.ref s.heap.objs.size,_,I.laid (t':=tk) hk (Nat.le_refl _) (show ObjOk X.prog X.w _ h' _ (.lst ((rangeI lo (hi-lo).toNat).map V.int)) from⟨?_,acc'.toList,c',?_,?_⟩),rfl,q _ (I.hok.fresh (Nat.le_refl _))⟩
 ·unfold rangeI
  rw[List.length_map,List.length_map,List.length_range]
  exact Nat.le_of_lt (small1000 hn)
 ·refine items_vals _ _ (by rw[Array.length_toList];exact hI.1) fun i v hv=>?_
  obtain⟨t,rfl⟩:=hI.2 i v (by simpa using hv)
  exact⟨t,by rw[Int.mul_one]⟩
 ·rw[Array.toArray_toList]
  exact hS
end
end L2
namespace L2
open PySem PySem.Spec PyProof.Rows
structure FunD (K:W.Frag)(x qual:Str)(st:Stmt)(f:Addr)(fd:FuncData)(its:Array Value):Prop where
 ex:∃(oc:Value) (od:Option Addr) (dT:Addr) (kV doc pm:Value) (an:Option Addr) (cdv ct:Value) (osl:Array (Option Value)),
  fd=W.fnOf x qual (defArgs st) (defBody st) (defScope st) (.ref dT) kV doc pm an cdv ct/\K.lookup f=some ⟨oc,od,.func fd,osl⟩/\W.codeIn K cdv qual=true/\∃(o:Obj) (n:Nat),K.lookup dT=some o/\o.data=.seq its n
 kp:W.keepIn K (.ref f)=true
section
variable {P:Program} {w:World} {K:W.Frag} {mg:Str->Option Value} {base:Heap}
theorem FunD.binds {x qual:Str}{st:Stmt}{f:Addr}{fd:FuncData}{its:Array Value}{ps:List Str}{ds:List Value}(F:FunD K x qual st f fd its)
  (h:∀(dT:Addr) (kV doc pm:Value) (an:Option Addr) (cdv ct:Value) (us:List Value),(us++ds).length=ps.length→
   ∃k,bindArgs (W.fnOf x qual (defArgs st) (defBody st) (defScope st) (.ref dT) kV doc pm an cdv ct) ⟨us,[]⟩=seqItems? (.ref dT) >>= k/\k (some its)=pure (ps.zip (us++ds))):Binds K fd ps ds:=by
 obtain⟨oc,od,dT,kV,doc,pm,an,cdv,ct,osl,rfl,lk,hcd,o,n,ho,hs⟩:=F.ex
 intro s us X hl
 obtain⟨k,h1,h2⟩:=h dT kV doc pm an cdv ct us hl
 exact BindsTo.of_defaults rfl (X _ _ ho) hs h1 h2
theorem funD_mk {x qual:Str}{st:Stmt}{f dT:Addr}{oc dc:Value}{od an dod:Option Addr}{osl dsl:Array (Option Value)}{its:Array Value}{n:Nat}{kV doc pm cdv ct:Value}(l:K.lookup f=some ⟨oc,od,.func (W.fnOf x qual (defArgs st) (defBody st) (defScope st) (.ref dT) kV doc pm an cdv ct),osl⟩)
  (d:K.lookup dT=some ⟨dc,dod,.seq its n,dsl⟩) (c:W.codeIn K cdv qual=true) (k:W.keepIn K (.ref f)=true):FunD K x qual st f (W.fnOf x qual (defArgs st) (defBody st) (defScope st) (.ref dT) kV doc pm an cdv ct) its:=⟨⟨oc,od,dT,kV,doc,pm,an,cdv,ct,osl,rfl,l,c,_,n,d,rfl⟩,k⟩
end
end L2
namespace L2
open PySem PySem.Spec PyProof.Rows
section
variable {M:Model} {A:Around} {E:Value->Shared->Prop} {s:Shared}
structure LeftBy (fs:List Addr)(e T:Addr)(h h':Heap):Prop where
 keep:∀b o,b≠e->b∉fs->h.get? b=some o->h'.get? b=some o
 slot:∀b o,b≠e->h.get? b=some o->∃sl,h'.get? b=some { o with slots:=sl }
 exc:∀oe vs,h.get? e=some oe->oe.data=.fields vs->∃oe',h'.get? e=some oe'/\oe'.cls=oe.cls/\oe'.dict=oe.dict/\oe'.data=.fields (vs.setIfInBounds 1 (.ref T))
 new:h.get? T=none
 tr:∃oT ts,h'.get? T=some oT/\oT.data=.fields ts/\ts[3]?=some .none
theorem note_new {base:Heap}{env:Env}{outer:List Env}{L e:Addr}{oe:Obj}{vs:Array Value}{hd:Value}{nx:Bool}{Q:Unit->Shared->Prop}(fr:A.frames=some (env::outer))(ff:s.heap.FunFrames base (env::outer))(ef:env.frame=some L)
  (ge:s.heap.get? e=some oe) (de:oe.data=.fields vs) (sz:1<vs.size) (q:∀h' T,LeftBy ((env::outer).filterMap (·.frame)) e T s.heap h'->Q () { s with heap:=h' }):
  wpAny M A (do let a ← frameOf env;let pl ← entryPlaceOf L nx;let b ← EntryCells.newEntry hd a .none (rawInt L) .none pl;setField (.ref e) 1 b) (fun _ s'=>wpAny M A (setFlight (.ref e) none) Q E s') E s:=by
 have nf:e∉(env::outer).filterMap (·.frame):=fun m=>by
  obtain⟨_,o,ho,hn⟩:=ff.mem m
  rw[ge] at ho
  cases ho
  exact hn vs de
 refine wpAny_bind (wpAny_frameOf_fun fr ff ef fun k1 ks=>?_)
 refine wpAny_bind (wpAny_entryPlaceOf fun pl hpl=>?_)
 unfold EntryCells.newEntry newFields
 refine wpAny_bind (wpAny_newObj_type ?_ (hpl.sizeOk5 _ _ _ _ _))
 have g1:k1.get? e=some oe:=(ks.2.1 e nf).trans ge
 generalize hob:({ cls:=.type "traceback",dict:=none,data:=.fields ([hd,.ref L,.none,rawInt L,.none]++(if pl.isEmpty then List.replicate 6 Value.none else pl)).toArray }:Obj)=ob
 have g2:=Heap.get?_push_of_some (h:=k1) ob g1
 refine wpAny_setField g2 de sz ?_
 have ne:k1.objs.size≠e:=Nat.ne_of_gt (Heap.lt_size g1)
 have d3:=Obj.data_mapFields de (·.setIfInBounds 1 (Value.ref k1.objs.size))
 have g3:=Heap.get?_update_self (Obj.mapFields (·.setIfInBounds 1 (Value.ref k1.objs.size))) g2 (Obj.isFreed_of_fields d3)
 have t3:=(Heap.get?_update_other (k1.push ob) (Obj.mapFields (·.setIfInBounds 1 (Value.ref k1.objs.size))) (Ne.symm ne)).trans (Heap.get?_push_size k1 (o:=ob) (by rw[<- hob];rfl))
 unfold setFlight
 refine wpAny_bind (wpAny_field g3 d3 (x:=.ref k1.objs.size) (by simp[sz]) ?_)
 rw[if_pos (show(Value.ref k1.objs.size !=Value.none)=true from by simp)]
 have dT:ob.data=.fields ([hd,.ref L,.none,rawInt L,.none]++(if pl.isEmpty then List.replicate 6 Value.none else pl)).toArray:=by rw[<- hob]
 refine wpAny_setField t3 dT (by simp only[List.size_toArray,List.length_append,List.length_cons,List.length_nil]<;>omega) (q _ k1.objs.size ?_)
 have up:∀b o,b≠e->k1.get? b=some o->(((k1.push ob).update e (Obj.mapFields (·.setIfInBounds 1 (Value.ref k1.objs.size)))).update k1.objs.size (Obj.mapFields (·.setIfInBounds 3 ((none:Option Addr).elim Value.none fun f=>rawInt f)))).get? b=some o:=fun b o be hb=>by
  rw[Heap.get?_update_other _ _ (show k1.objs.size≠b from Nat.ne_of_gt (Heap.lt_size hb)),Heap.get?_update_other _ _ (Ne.symm be)]
  exact Heap.get?_push_of_some _ hb
 refine⟨fun b o be bf hb=>up b o be ((ks.2.1 b bf).trans hb),fun b o be hb=>?_,fun oe2 vs2 h1 h2=>?_,?_,?_⟩
 ·obtain⟨sl,hs⟩:=ks.2.2 b o hb
  exact⟨sl,up b _ be hs⟩
 ·rw[ge] at h1
  cases h1
  rw[de] at h2
  cases h2
  refine⟨_,(Heap.get?_update_other _ _ ne).trans g3,Obj.cls_mapFields _ _,?_,d3⟩
  obtain⟨c,dd,dt,sl⟩:=oe
  cases de
  rfl
 ·have:s.heap.objs.size=k1.objs.size:=ks.1.symm
  rw[<- this]
  exact Heap.get?_none_of_le (Nat.le_refl _)
 ·refine⟨_,_,Heap.get?_update_self _ t3 (Obj.isFreed_of_fields (Obj.data_mapFields dT _)),Obj.data_mapFields dT _,?_⟩
  first|(simp;done)|(rcases hpl with rfl|⟨_,_,_,_,_,_,_,rfl⟩<;>simp)
end
end L2
namespace L2
open PySem PySem.Spec PyProof.Rows
section
variable {M:Model} {A:Around} {E:Value->Shared->Prop} {s:Shared}
theorem leave_first {base:Heap}{env:Env}{outer:List Env}{L e:Addr}{oe:Obj}{vs:Array Value}{Q:Unit->Shared->Prop}(fr:A.frames=some (env::outer))(ff:s.heap.FunFrames base (env::outer))(ef:env.frame=some L)
  (ge:s.heap.get? e=some oe) (de:oe.data=.fields vs) (v1:vs[1]?=some .none) (q:∀h' T,LeftBy ((env::outer).filterMap (·.frame)) e T s.heap h'->Q () { s with heap:=h' }):wpAny M A (leaving env (.ref e)) Q E s:=by
 unfold leaving noteFrame
 simp only[ef]
 refine wpAny_bind (wpAny_bind (wpAny_field ge de v1 ?_))
 rw[if_neg (by decide)]
 exact note_new fr ff ef ge de (Array.getElem?_eq_some_iff.mp v1).1 q
end
theorem ObjOk.there {P:Program}{w:World}{H:Hp}{h:Heap}{a:Addr}{o:HO}(x:ObjOk P w H h a o):∃ob,h.get? a=some ob:=by
 cases o with
 |lst xs=>obtain⟨_,_,_,_,e⟩:=x;exact⟨_,e⟩
 |tup xs=>obtain⟨_,_,_,ob,e,_⟩:=x;exact⟨ob,e⟩
 |dK kvs=>obtain⟨_,_,_,_,o,_,_,e,_⟩:=x;exact⟨_,e⟩
 |dT kvs=>obtain⟨_,_,_,_,o,_,_,e,_⟩:=x;exact⟨_,e⟩
 |set S n=>obtain⟨o,_,_,_,e,_⟩:=x;exact⟨_,e⟩
 |ins C dx fs=>obtain⟨_,_,_,e,_⟩:=x;exact⟨_,e⟩
 |own y=>obtain⟨_,e⟩:=x;exact⟨_,e⟩
 |xd fs=>obtain⟨_,⟨_,_,_,e,_⟩,_⟩:=x;exact⟨_,e⟩
 |rng lo hi=>obtain⟨_,_,_,e⟩:=x;exact⟨_,e⟩
 |frz ob u=>exact⟨ob,x.1⟩
 |tbl ps=>exact⟨_,x⟩
 |met f y=>exact⟨_,x⟩
 |ext φ=>obtain⟨_,⟨ob,e⟩,_⟩:=x;exact⟨ob,e⟩
def Fly (h h':Heap)(H':Hp)(a C:Addr)(dd:Option Addr):Prop:=h.get? a=none/\H' a=none/\∃oe vs T oT ts,h'.get? a=some oe/\oe.cls=.ref C/\oe.dict=dd/\oe.data=.fields vs/\vs[1]?=some (.ref T)/\T≠a/\h.get? T=none/\H' T=none/\h'.get? T=some oT/\oT.data=.fields ts/\ts[3]?=some .none
def CX1 (P:Program)(w:World):CXT:=fun outer H s E e s'=>∃(a C:Addr) (dd:Option Addr) (H':Hp),e=.ref a/\s'.os=s.os/\AllBare s'.gens/\Un (frs outer) [] H H' s.heap s'.heap/\HOk P w H' s'.heap/\Fly s.heap s'.heap H' a C dd/\E (.ref C) dd H'
end L2
namespace L2
open PySem PySem.Spec PyProof.Rows
section
variable {M:Model} {A:Around} {E:Value->Shared->Prop} {s:Shared}
theorem look_next {base:Heap}{env:Env}{outer:List Env}{L e T0:Addr}{oe oT:Obj}{vs ts:Array Value}{Q:Unit->Shared->Prop}(fr:A.frames=some (env::outer))(ff:s.heap.FunFrames base (env::outer))(ef:env.frame=some L)
  (ge:s.heap.get? e=some oe) (de:oe.data=.fields vs) (v1:vs[1]?=some (.ref T0)) (gT:s.heap.get? T0=some oT) (dT:oT.data=.fields ts) (t3:ts[3]?=some .none) (ne:T0≠e)
  (q:∀h1 h' T,(∀b,b≠T0->h1.get? b=s.heap.get? b)->(∃o,h1.get? T0=some o)->LeftBy ((env::outer).filterMap (·.frame)) e T h1 h'->Q () { s with heap:=h' }):
  wpAny M A (noteFrame (.ref e) env) (fun _ s2=>wpAny M A (setFlight (.ref e) none) Q E s2) E s:=by
 unfold noteFrame
 simp only[ef]
 refine wpAny_bind (wpAny_field ge de v1 ?_)
 rw[if_pos (show(Value.ref T0 !=Value.none)=true from by simp)]
 refine wpAny_bind (wpAny_field gT dT t3 ?_)
 rw[if_neg (show ¬((Value.none==rawInt L)=true) from by simp[rawInt])]
 refine wpAny_bind (wpAny_setField gT dT (Array.getElem?_eq_some_iff.mp t3).1 ?_)
 have oth:∀b,b≠T0->(s.heap.update T0 (Obj.mapFields (·.setIfInBounds 3 Value.none))).get? b=s.heap.get? b:=fun b hb=>Heap.get?_update_other _ _ (Ne.symm hb)
 have there:=Heap.get?_update_self (Obj.mapFields (·.setIfInBounds 3 Value.none)) gT (Obj.isFreed_of_fields (Obj.data_mapFields dT _))
 have nr:∀b o,s.heap.get? b=some o->(∀us,o.data≠.fields us)->b≠T0:=fun b o hb hn z=>by
  rw[z,gT] at hb
  cases hb
  exact hn ts dT
 exact note_new (s:={ s with heap:=s.heap.update T0 (Obj.mapFields (·.setIfInBounds 3 Value.none)) }) fr (ff.of_keeps fun b o hb hn=>⟨o,(oth b (nr b o hb hn)).trans hb,rfl⟩) ef ((oth e (Ne.symm ne)).trans ge) de (Array.getElem?_eq_some_iff.mp v1).1 fun h' T lb=>q _ h' T oth ⟨_,there⟩ lb
theorem flight {e T:Addr}{oe oT:Obj}{vs ts:Array Value}{Q:Unit->Shared->Prop}(ge:s.heap.get? e=some oe)(de:oe.data=.fields vs)(v1:vs[1]?=some (.ref T))(gT:s.heap.get? T=some oT)(dT:oT.data=.fields ts)(t3:ts[3]?=some .none)
  (q:∀h',(∀b,b≠T->h'.get? b=s.heap.get? b)->(∃oT' ts',h'.get? T=some oT'/\oT'.data=.fields ts'/\ts'[3]?=some .none)->Q () { s with heap:=h' }):wpAny M A (setFlight (.ref e) none) Q E s:=by
 unfold setFlight
 refine wpAny_bind (wpAny_field ge de v1 ?_)
 rw[if_pos (show(Value.ref T !=Value.none)=true from by simp)]
 have sz:=(Array.getElem?_eq_some_iff.mp t3).1
 refine wpAny_setField gT dT sz (q _ (fun b hb=>Heap.get?_update_other _ _ (Ne.symm hb)) ⟨_,_,Heap.get?_update_self _ gT (Obj.isFreed_of_fields (Obj.data_mapFields dT _)),Obj.data_mapFields dT _,?_⟩)
 simp[sz]
end
end L2
namespace L2
open PySem PySem.Spec PyProof.Rows
abbrev ExK:=St->Addr->Option Addr->Hp->Prop
def Fr0 (X:Cx)(pins:List (Addr×Obj))(h0:Heap):Prop:=(∀b,h0.get? b=none->X.s₀.heap.get? b=none\/b∈X.ex)/\∀p∈X.pn++pins,h0.get? p.1=some p.2
theorem Inv.fr0 {X:Cx}{pins:List (Addr×Obj)}{σ:St}{H:Hp}{s:Shared}(I:Inv X pins σ H s):Fr0 X pins s.heap:=by
 refine⟨fun b hb=>?_,fun p hp=>(I.pin p hp).1⟩
 by_cases hx:b∈X.ex
 ·exact .inr hx
 ·refine .inl ?_
  cases q:X.s₀.heap.get? b with
  |none=>rfl
  |some o=>
   obtain⟨o',z⟩:=I.base.there b o q hx
   rw[hb] at z
   cases z
def XF (X:Cx)(pins:List (Addr×Obj))(Ex:ExK)(e:Value)(s':Shared):Prop:=∃(h0:Heap) (a C:Addr) (dd:Option Addr) (σ':St) (H':Hp),e=.ref a/\Inv X pins σ' H' s'/\Fly h0 s'.heap H' a C dd/\Fr0 X pins h0/\Ex σ' C dd H'
abbrev TX:=St->Hp->VK->ExK->Prop
def PEX (X:Cx)(e:Expr)(t:TX):Prop:=∀(pins:List (Addr×Obj)) (s:Shared) (σ:St) (H:Hp) (Q:VK) (Ex:ExK),Inv X pins σ H s->t σ H Q Ex->wpAny (model X.prog X.w) X.A (eval e X.env) (EP X pins σ Q) (XF X pins Ex) s
section
variable {X:Cx} {k:Nat} {f C:Addr} {fd:FuncData} {ps:List Str} {sp:Sp} {dvs:List V} {ds:List Value} {x m:Str} {p pos apos:Pos} {e o:Expr} {es:List Expr} {ta:TE} {t:TA}
theorem run_fnX {pins:List (Addr×Obj)}{σ:St}{H:Hp}{s:Shared}{Q:VK}{Ex:ExK}{us:List Value}{vs:List V}(F:FnOk X.prog X.w X.K X.mg X.base (CX1 X.prog X.w) k f fd ps sp)(hr:Room k X.A)(hb:Binds X.K fd ps ds)(hd:Vals dvs ds)
  (I:Inv X pins σ H s) (r:Vals vs us) (h:sp (vs++dvs) H Q (fun cls dd H'=>∃C,cls=.ref C/\Ex σ C dd H')):wpAny (model X.prog X.w) X.A (call (.ref f) us) (EP X pins σ Q) (XF X pins Ex) s:=by
 have r2:Vals (vs++dvs) (us++ds):=r.append hd
 have hl:(us++ds).length=ps.length:=by rw[<- r2.length];exact F.len _ _ _ _ h
 refine wpAny_call (codeAny_mono (F.run X.A X.stack s H ⟨us,[]⟩ (us++ds) (vs++dvs) Q _ hr I.env0 (hb s us I.kIn hl) r2 h) fun r s' hq=>?_)
 cases r with
 |error e=>
  obtain⟨a,C,dd,H2,rfl,hos,hgen,un,hok,fl,C',hC,hE⟩:=hq
  cases hC
  obtain⟨hh,g,d,t,os'⟩:=s'
  obtain rfl:os'=s.os:=hos
  exact⟨s.heap,a,C,dd,σ,H2,rfl,I.call (h':=hh) (g':=g) (d':=d) (t':=t) (ch:=[]) un hok hgen (fun b z=>absurd z (by simp)),fl,I.fr0,hE⟩
 |ok fl=>
  cases fl with
  |ret u=>exact I.after hq
  |next=>exact False.elim hq
  |brk=>exact False.elim hq
  |cont=>exact False.elim hq
theorem pex_call (F:FnOk X.prog X.w X.K X.mg X.base (CX1 X.prog X.w) k f fd ps sp)(hr:Room k X.A)(hg:Gl X x)(hm:X.mg x=some (.ref f))(hk:W.keepIn X.K (.ref f)=true)(hb:Binds X.K fd ps ds)(hd:Vals dvs ds)
  (ha:PA X.nox (e::es) t) (hdb:(x==("__debug__":Str))=false:=by decide) (he:starEach (e::es) X.env=(false,eval e X.env)::starEach es X.env:=by rfl) (hpl:(backTo pos (starEach es X.env)).any (·.1)=false:=by rfl):
  PEX X (.Call (.Name x p) (e::es) [] pos) (fun σ H Q Ex=>t σ H fun vs H1=>sp (vs++dvs) H1 Q fun cls dd H'=>∃C,cls=.ref C/\Ex σ C dd H'):=by
 intro pins s σ H Q Ex I h
 refine wpAny_Call_Name_kw (ld_glob I hg hm ?_ hdb)
 refine W.callWith_K (h₀:=X.base) I.ok.mod.kin hk (wpAny_mono (ha pos pins s σ H _ (I.wish _) h) (fun us s1 ⟨vs,H1,I1,r,q⟩=>⟨I1.kIn,?_⟩) fun _ _ z=>z.elim) he hpl
 exact run_fnX F hr hb hd I1.unwish r q
abbrev TSX:=Ends->St->Hp->ExK->Prop
def PSX (X:Cx)(st:Stmt)(t:TSX):Prop:=∀(pins:List (Addr×Obj)) (s:Shared) (σ:St) (H:Hp) (D:Ends) (Ex:ExK),Inv X pins σ H s->t D σ H Ex->wpAny (model X.prog X.w) X.A (exec st X.env) (SP X pins D) (XF X pins Ex) s
def PSsX (X:Cx)(st:List Stmt)(t:TSX):Prop:=∀(pins:List (Addr×Obj)) (s:Shared) (σ:St) (H:Hp) (D:Ends) (Ex:ExK),Inv X pins σ H s->t D σ H Ex->wpAny (model X.prog X.w) X.A (execs st X.env) (SP X pins D) (XF X pins Ex) s
def tSetX (i:Nat)(t:TX):TSX:=fun D σ H Ex=>t σ H (fun v H1=>D.nx (σ.set i (some v)) H1) Ex
theorem psx_set {i:Nat}{te:TX}{pos':Pos}(hN:X.N.Nodup)(hi:X.N[i]?=some x)(hx:Loc X.env.scope x)(he:PEX X e te)(hs:swapsWith e (some (.Name x pos')) pos.line X.env=pure false:=by rfl)(hf:X.fn x=true\/X.env.scope.names.lookup x=some .local:=by first|exact .inl rfl|exact .inr rfl|assumption):
  PSX X (.Assign [.Name x pos'] e pos) (tSetX i te):=by
 intro pins s σ H D Ex I h
 refine wpAny_Assign_Name (thn (he pins s σ H _ Ex I h) fun v s1 ⟨y,H1,I1,r1,q1⟩=>?_) hs
 exact store_ok I1 hN hi hx r1 (fun s' I'=>⟨_,_,I',q1⟩) hf
theorem pssx_one {st:Stmt}{t:TSX}(h:PSX X st t):PSsX X [st] t:=by
 intro pins s σ H D Ex I hw
 refine wpAny_execs_cons (thn (h pins s σ H D Ex I hw) fun f s1 q=>?_)
 cases f with
 |next=>exact wpAny_execs_nil q
 |brk=>exact q
 |cont=>exact q
 |ret u=>exact q
end
end L2
namespace L2
open PySem PySem.Spec PyProof.Rows
section
variable {X:Cx} {pins:List (Addr×Obj)} {σ:St} {H H':Hp} {s:Shared} {h0 h':Heap} {ch:List Addr}
theorem Inv.flown {t':Nat}(I:Inv X pins σ H s)(f:Fr0 X pins h0)(hc:∀b∈ch,h0.get? b=none/\∃o vs,s.heap.get? b=some o/\o.data=.fields vs)
  (keep:∀b o,b∉ch->b∉frs X.stack->s.heap.get? b=some o->h'.get? b=some o) (slot:∀b o,b∉ch->s.heap.get? b=some o->∃sl,h'.get? b=some { o with slots:=sl })
  (free:∀b o,b∉ch->s.heap.get? b=some o->H b=none->H' b=none) (tups:∀b xs,H b=some (.tup xs)->H' b=some (.tup xs)) (frzs:∀b o u,H b=some (.frz o u)->H' b=some (.frz o u))
  (tbls:∀b ps,H b=some (.tbl ps)->∃more,H' b=some (.tbl (ps++more))) (hok:HOk X.prog X.w H' h'):Inv X pins σ H' { s with heap:=h',toks:=t' }:=by
 have nL:∀b∈ch,b≠X.env.locals:=fun b hb z=>by
  obtain⟨_,o,vs,ho,hd⟩:=hc b hb
  obtain⟨m,⟨o',es,ep,ho',hd',_⟩,_⟩:=I.loc
  rw[z,ho'] at ho
  cases ho
  rw[hd'] at hd
  cases hd
 have nC:∀b∈ch,∀x c,X.env.cells.lookup x=some c->c≠b:=fun b hb x c e z=>by
  obtain⟨_,o,vs,ho,hd⟩:=hc b hb
  obtain⟨v,o',ho',hd'⟩:=I.cell x c e
  rw[z,ho] at ho'
  cases ho'
  rw[hd] at hd'
  cases hd'
 have nF:∀b∈ch,b∉X.fs:=fun b hb z=>by
  obtain⟨_,o,vs,ho,hd⟩:=hc b hb
  obtain⟨_,o',ho',hn⟩:=I.funs.mem z
  rw[ho] at ho'
  cases ho'
  exact hn vs hd
 have n0:∀b∈ch,X.s₀.heap.get? b=none\/b∈X.ex:=fun b hb=>f.1 b (hc b hb).1
 have nP:∀b∈ch,∀p∈X.pn++pins,p.1≠b:=fun b hb p hp z=>by
  have e:=f.2 p hp
  rw[z,(hc b hb).1] at e
  cases e
 have old:∀b o,X.s₀.heap.get? b=some o->b∉X.ex->b∉ch++X.ex:=fun b o e hx hm=>by
  rcases List.mem_append.mp hm with z|z
  ·rcases n0 b z with q|q
   ·rw[e] at q
    cases q
   ·exact hx q
  ·exact hx z
 have ok':Cx.Ok { X with ex:=ch++X.ex }:=⟨I.ok.mod,I.ok.kind,I.ok.glob,I.ok.blt,I.ok.above,I.ok.inj,I.ok.has,I.ok.cab,I.ok.hd,I.ok.frames,I.ok.stk,
  fun b hb=>(List.mem_append.mp hb).elim (fun z=>⟨nL b z,nC b z⟩) (I.ok.exf b),I.ok.bs,I.ok.bsz,fun b o e=>old b o (I.ok.bs b o e).1 (I.ok.noex b o e),fun b hb=>(List.mem_append.mp hb).elim (nF b) (I.ok.exfs b),I.ok.funs,I.ok.frf⟩
 have I':Inv { X with ex:=ch++X.ex } pins σ H s:=⟨ok',I.os,I.bare,⟨fun b o e n hb hx=>I.base.keep b o e n hb fun z=>hx (List.mem_append_right _ z),fun b o e n hb hx=>I.base.slot b o e n hb fun z=>hx (List.mem_append_right _ z),
  fun b o e n hx=>I.base.free b o e n fun z=>hx (List.mem_append_right _ z),fun b o e hx=>I.base.there b o e fun z=>hx (List.mem_append_right _ z),I.base.tups,I.base.frzs,I.base.tbls⟩,I.loc,I.cell,I.free,I.freeC,I.pin,I.hok,I.len⟩
 obtain⟨m,⟨o,es,ep,ho,r⟩,_⟩:=id I.loc
 obtain⟨sl,hL⟩:=slot X.env.locals o (fun z=>nL _ z rfl) ho
 have J:=I'.step (g':=s.gens) (d':=s.drawn) (t':=t') (h':=h') (H':=H') (ch:=ch) (fun b hb=>⟨.inl (List.mem_append_left _ hb),nL b hb,nC b hb,nP b hb⟩)
  (fun b o hL hb hc e n=>keep b o hc (fun z=>(List.mem_cons.mp (I.stkSub b z)).elim hL hb) e) (fun b o _ _ hc e n=>slot b o hc e) free (fun b o hc e=>(slot b o hc e).elim fun sl z=>⟨_,z⟩) tups frzs tbls (fun m' hm=>by
   obtain⟨o',es',ep',ho',r'⟩:=hm
   rw[ho] at ho'
   cases ho'
   exact⟨_,es',ep',hL,r'⟩) hok I.bare
 exact⟨I.ok,J.os,J.bare,⟨fun b o e n hb hx=>J.base.keep b o e n hb (old b o e hx),fun b o e n hb hx=>J.base.slot b o e n hb (old b o e hx),fun b o e n hx=>J.base.free b o e n (old b o e hx),fun b o e hx=>J.base.there b o e (old b o e hx),
  J.base.tups,J.base.frzs,J.base.tbls⟩,J.loc,J.cell,J.free,J.freeC,J.pin,J.hok,J.len⟩
end
def ExcAt (a C:Addr)(dd:Option Addr)(h:Heap):Prop:=∃oe vs,h.get? a=some oe/\oe.cls=.ref C/\oe.dict=dd/\oe.data=.fields vs
abbrev Cx.hand (X:Cx)(a:Addr):Cx:={ X with A:=X.A.mark (some (.ref a)),calm:=false,xe:=fun _ _=>False }
section
variable {X:Cx} {pins:List (Addr×Obj)} {σ:St} {H:Hp} {s:Shared} {a:Addr}
theorem Inv.hand (I:Inv X pins σ H s)(a:Addr):Inv (X.hand a) pins σ H s:=
 ⟨⟨I.ok.mod,I.ok.kind,I.ok.glob,I.ok.blt,I.ok.above,I.ok.inj,I.ok.has,I.ok.cab,fun z=>Bool.noConfusion z,I.ok.frames,I.ok.stk,I.ok.exf,I.ok.bs,I.ok.bsz,I.ok.noex,I.ok.exfs,I.ok.funs,I.ok.frf⟩,I.os,I.bare,I.base,I.loc,I.cell,I.free,I.freeC,I.pin,I.hok,I.len⟩
theorem Inv.unhand (ok:X.Ok)(I:Inv (X.hand a) pins σ H s):Inv X pins σ H s:=⟨ok,I.os,I.bare,I.base,I.loc,I.cell,I.free,I.freeC,I.pin,I.hok,I.len⟩
def takesX (K:W.Frag)(C:Addr)(D:Value):Bool:=W.kitCls K (.ref C) D==some true&&W.subIn K D (.type "BaseException")==some true
theorem takes_ok {A:Around}{E:Value->Shared->Prop}{K:W.Frag}{prog:Program}{w:World}{C:Addr}{dd:Option Addr}{D:Value}{Q:Bool->Shared->Prop}(X:K.In s.heap)(x:ExcAt a C dd s.heap)(hq:takesX K C D=true)(k:Q true s):
  wpAny (model prog w) A (excMatches (.ref a) D) Q E s:=by
 obtain⟨h,g,d,t,os⟩:=s
 obtain⟨oe,vs,ge,ce,_,_⟩:=x
 unfold takesX at hq
 rw[Bool.and_eq_true] at hq
 obtain⟨h1,h2⟩:=hq
 obtain⟨L3,L5,L1⟩:=W.kit_cls (M:=model prog w) X (beq_iff_eq.mp h1)
 have L2:=W.looks_subIn (M:=model prog w) X (beq_iff_eq.mp h2)
 have L4:W.Looks (model prog w) h (typeOf (.ref a)) (.ref C):=ce▸(W.Looks.ld ge).andThen .now
 have L0:W.Looks (model prog w) h (isSubtype (.type "type") (.type "tuple")) false:=W.Looks.of_pure tc_notTuple
 have LI:W.Looks (model prog w) h (isInstance D (.type "tuple")) false:=L3.andThen L0
 have LX:W.Looks (model prog w) h (isExcClass D) true:=L5.andThen (by simpa using L2)
 unfold excMatches
 refine wpAny_bind (LI.at ?_)
 simp only[Bool.false_eq_true,if_false]
 refine wpAny_bind (wpAny_pure ?_)
 simp only[List.forIn_cons,List.forIn_nil]
 refine wpAny_bind (wpAny_bind (wpAny_bind (LX.at ?_)))
 simp only[Bool.not_true,Bool.false_eq_true,if_false]
 refine wpAny_pure (wpAny_pure ?_)
 refine wpAny_bind (L4.at ?_)
 refine wpAny_bind (wpAny_bind (wpAny_bind (L1.at ?_)))
 simp only[if_true]
 refine wpAny_pure (wpAny_pure ?_)
 exact wpAny_pure k
end
end L2
namespace L2
open PySem PySem.Spec PyProof.Rows
def Means (X:Cx)(x:Str)(u:Value):Prop:=Gl X x/\(x==("__debug__":Str))=false/\(X.mg x=some u\/X.mg x=none/\bootBuiltins x=some u/\x≠"__name__")
theorem ld_means {X:Cx}{E:Value->Shared->Prop}{pins:List (Addr×Obj)}{s:Shared}{σ:St}{H:Hp}{x:Str}{u:Value}{pos:Pos}{Q:Value->Shared->Prop}(I:Inv X pins σ H s)(m:Means X x u)(h:Q u s):wpAny (model X.prog X.w) X.A (eval (.Name x pos) X.env) Q E s:=by
 obtain⟨hg,hd,hm|⟨hm,hv,hn⟩⟩:=m
 ·exact ld_glob I hg hm h hd
 ·exact ld_blt I hg hm hv h hn hd
end L2
namespace L2
open PySem PySem.Spec PyProof.Rows
def ExcNew (a C:Addr)(dd:Option Addr)(h:Heap):Prop:=∃oe vs,h.get? a=some oe/\oe.cls=.ref C/\oe.dict=dd/\oe.data=.fields vs/\vs[1]?=some .none
abbrev bmV0:List Value:=[.type "ValueError",.type "Exception",.type "BaseException",.type "object"]
def onlyV:List Value->Bool
 |.ref _::r=>onlyV r
 |l=>l==bmV0
theorem refuse_onlyV (self:Value):∀{l:List Value},onlyV l=true->PySem.refuseLoop self "__setattr__" l=pure ()
 |.ref c::r,e=>by
  rw[PySem.refuseLoop_ref]
  exact refuse_onlyV self (l:=r) e
 | [],e=>by cases e
 |.type n::r,e=>by
  have h:(Value.type n::r)=bmV0:=beq_iff_eq.mp e
  rw[h]
  exact PySem.F.store_ValueError.passes self
 |.none::r,e=>by cases beq_iff_eq.mp (show((Value.none::r)==bmV0)=true from e)
 |.bool _::r,e=>by cases beq_iff_eq.mp (show((Value.bool _::r)==bmV0)=true from e)
 |.int _ _::r,e=>by cases beq_iff_eq.mp (show((Value.int _ _::r)==bmV0)=true from e)
 |.float _ _::r,e=>by cases beq_iff_eq.mp (show((Value.float _ _::r)==bmV0)=true from e)
 |.str _ _::r,e=>by cases beq_iff_eq.mp (show((Value.str _ _::r)==bmV0)=true from e)
 |.bytes _ _::r,e=>by cases beq_iff_eq.mp (show((Value.bytes _ _::r)==bmV0)=true from e)
 |.builtin _::r,e=>by cases beq_iff_eq.mp (show((Value.builtin _::r)==bmV0)=true from e)
def excSet (K:W.Frag)(C:Addr)(f:Str):Bool:=W.findIn K (.ref C) "__setattr__"==some (some (.builtin "object.__setattr__"))&&(W.clsIn K C).any (fun cd=>onlyV cd.mro&&cd.hasDict)
 &&W.findIn K (.ref C) f==some none&&W.mroIn K C (.type "object")==some true
section
variable {prog:Program} {w:World} {A:Around} {E:Value->Shared->Prop} {s:Shared} {K:W.Frag} {a C:Addr} {f:Str} {v:Value}
theorem exc_store {Q:Unit->Shared->Prop}(hq:excSet K C f=true)(X:K.In s.heap)(x:ExcNew a C none s.heap)
  (h:∀h' tk,ExcNew a C (some s.heap.objs.size) h'->h'.Ns1 s.heap.objs.size (fun y=>if y=f then some v else none)->(∀b o,b≠a->s.heap.get? b=some o->h'.get? b=some o)->Q () { s with heap:=h',toks:=tk }):
  wpAny (model prog w) A (setAttr (.ref a) f v) Q E s:=by
 obtain⟨oe,vs,ge,ce,de,da,v1⟩:=x
 have I:W.InstAt s.heap a oe C none:=⟨ge,ce,by unfold W.notCls;rw[da],by rw[de];trivial⟩
 unfold excSet at hq
 simp only[Bool.and_eq_true,beq_iff_eq] at hq
 obtain⟨⟨⟨h1,h2⟩,h3⟩,h4⟩:=hq
 obtain⟨cd,hc,hm⟩:=W.any_some h2
 rw[Bool.and_eq_true] at hm
 obtain⟨hm,hd⟩:=hm
 have SF:=PySem.F.store_object
 refine W.set_plain X I h1 ?_
 obtain⟨hh,g,d,t,os⟩:=s
 have sub:W.Looks (model prog w) hh (isInstance (.ref a) (.type "object")) true:=I.type.andThen (W.looks_mroIn X h4)
 refine codeAny_call_builtin SF.slot.plain SF.entry (@W.check_slot (model prog w) _ _ ⟨hh,g,d,t+1,os⟩ "object.__setattr__" "object" "__setattr__" (.ref a) [.str f t,v] [] _ SF.kind SF.split sub (SF.args (.ref a) (.str f t) v) ?_)
 have hmr:W.Looks (model prog w) hh (mroOf (.ref C)) cd.mro:=(W.looks_clsIn X hc).andThen .now
 rw[W.osa_eq,PySem.refuse_eq]
 refine wpAny_bind (wpAny_bind (I.type.at (wpAny_bind (hmr.at ?_))))
 rw[refuse_onlyV _ hm]
 refine wpAny_pure (wpAny_bind (I.type.at (wpAny_bind ((W.looks_findIn X h3).at (wpAny_bind (wpAny_pure (a:=none) ?_))))))
 show wpAny _ _ (Builtin.ObjectAttr.storeInOwnDict (.ref a) (.ref C) (.str f t) f v false) _ _ _
 obtain⟨oc,odi,oda,osl⟩:=oe
 dsimp only at ce de da
 subst ce de da
 refine wpAny_bind (wpAny_pure (wpAny_bind (wpAny_bind (wpAny_loadPart ge (wpAny_bind ((W.looks_clsIn X hc).at ?_))))))
 rw[hd]
 have hx1:(hh.push { cls:=.type "dict",data:=.dict #[] }).get? a=some ⟨.ref C,none,.fields vs,osl⟩:=Heap.get?_push_of_some _ ge
 have hxs:a≠hh.objs.size:=Nat.ne_of_lt (Heap.lt_size ge)
 refine wpAny_bind (wpAny_alloc' ?_)
 refine wpAny_bind (wpAny_update' hx1 ?_)
 refine wpAny_pure (a:=some hh.objs.size) ?_
 have hgd:((hh.push { cls:=.type "dict",data:=.dict #[] }).update a fun o=>{ cls:=o.cls,dict:=some hh.objs.size,data:=o.data,slots:=o.slots }).get? hh.objs.size=some { cls:=.type "dict",data:=.dict #[] }:=
  (Heap.get?_update_ne _ _ _ _ hxs.symm).trans (Heap.get?_push_at rfl rfl)
 have hnd:((hh.push { cls:=.type "dict",data:=.dict #[] }).update a fun o=>{ cls:=o.cls,dict:=some hh.objs.size,data:=o.data,slots:=o.slots }).Ns hh.objs.size (fun _=>none):=
  ⟨_,#[],_,hgd,rfl,fun e he=>absurd he (by simp),fun _=>rfl⟩
 show wpAny _ _ (Builtin.ObjectAttr.storeInDict hh.objs.size (.str f t) f v) _ _ _
 unfold Builtin.ObjectAttr.storeInDict Builtin.ObjectAttr.newKeyGuard
 refine wpAny_bind (wpAny_pure (wpAny_bind (wpAny_nsSet1 (Heap.Ns1.of_empty hnd) fun h' hn' hs=>?_)))
 obtain⟨oD,esD,epD,hoD,hdD,hcD⟩:=hn'.count (PySem.Within.cons f v PySem.Within.nil)
 refine wpAny_bind (wpAny_lookBehind hoD (by rw[hdD];exact pastItsLine_dict (Nat.le_trans hcD (by rw[List.length_cons,List.length_nil,sizeLine_eq];omega))) ?_)
 refine wpAny_pure (h h' _ ⟨⟨.ref C,some hh.objs.size,.fields vs,osl⟩,vs,?_,rfl,rfl,rfl,v1⟩ hn' fun b o hb e=>?_)
 ·exact(hs.2 a hxs).trans (Heap.get?_update_self _ hx1 rfl)
 ·exact(hs.2 b (Nat.ne_of_lt (Heap.lt_size e))).trans ((Heap.get?_update_ne _ _ _ _ hb).trans (Heap.get?_push_of_some _ e))
end
theorem setattr_x {X:Cx}{pins:List (Addr×Obj)}{σ:St}{H:Hp}{s:Shared}{A:Around}{E:Value->Shared->Prop}{a C:Addr}{f:Str}{y:V}{u:Value}{Q:Unit->Shared->Prop}(I:Inv X pins σ H s)(ha:H a=some (.ext (ExcNew a C none)))(hq:excSet X.K C f=true)(ry:RelV y u)
  (h:∀d s',H d=none->d≠a->Inv X pins σ (upd (upd H a (.ext (ExcNew a C (some d)))) d (.xd [(f,y)])) s'->Q () s'):wpAny (model X.prog X.w) A (setAttr (.ref a) f u) Q E s:=by
 have x:ExcNew a C none s.heap:=(show ObjOk X.prog X.w H s.heap a (.ext (ExcNew a C none)) from I.hok a _ ha).1
 have fresh:H s.heap.objs.size=none:=I.hok.fresh (Nat.le_refl _)
 have nda:s.heap.objs.size≠a:=fun z=>by rw[z,ha] at fresh;cases fresh
 refine exc_store hq I.kIn x fun h' tk x' n' kp=>h s.heap.objs.size _ fresh nda ?_
 have there':∀b o,s.heap.get? b=some o->∃o',h'.get? b=some o':=fun b o e=>by
  by_cases hb:b=a
  ·obtain⟨oe,_,ge,_⟩:=x'
   exact⟨oe,by rw[hb];exact ge⟩
  ·exact⟨o,kp b o hb e⟩
 have nb:∀b o,s.heap.get? b=some o->b≠s.heap.objs.size:=fun b o e=>Nat.ne_of_lt (Heap.lt_size e)
 have upK:∀b o,H b=some o->b≠a->upd (upd H a (.ext (ExcNew a C (some s.heap.objs.size)))) s.heap.objs.size (.xd [(f,y)]) b=some o:=fun b o e hb=>by
  rw[upd_ne (ne_of_none e fresh),upd_ne hb]
  exact e
 have nx:∀{b:Addr} {o:HO},H b=some o->(∀φ,o≠.ext φ)->b≠a:=fun {b o} e n z=>by
  rw[z,ha] at e
  cases e
  exact n _ rfl
 have nfree:∀{b:Addr},H b=none->b≠a:=fun {b} e z=>by
  rw[z,ha] at e
  cases e
 refine I.step (g':=s.gens) (d':=s.drawn) (ch:=[]) (fun _ z=>nomatch z) (fun b o _ _ _ e n=>kp b o (nfree n) e) (fun b o _ _ _ e n=>⟨o.slots,kp b o (nfree n) e⟩) (fun b o _ e n=>?_) (fun b o _ e=>there' b o e)
  (fun b xs e=>upK b _ e (nx e fun _ z=>by cases z)) (fun b o u e=>upK b _ e (nx e fun _ z=>by cases z)) (fun b ps e=>⟨#[],by rw[upK b _ e (nx e fun _ z=>by cases z)];simp⟩) (fun m hm=>?_) (fun b o e=>?_) I.bare
 ·rw[upd_ne (nb b o e),upd_ne (nfree n)]
  exact n
 ·obtain⟨o,es,ep,ho,r⟩:=hm
  exact⟨o,es,ep,kp _ o (nfree I.free) ho,r⟩
 ·by_cases hd:b=s.heap.objs.size
  ·subst hd
   rw[upd_same] at e
   cases e
   refine⟨_,n',fun g=>?_⟩
   by_cases hg:g=f
   ·subst hg
    simp only[List.lookup,beq_self_eq_true,if_true]
    exact ry
   ·have hb:(g==f)=false:=beq_eq_false_iff_ne.mpr hg
    simp only[List.lookup,hb,if_neg hg]
    trivial
  ·rw[upd_ne hd] at e
   by_cases hb:b=a
   ·subst hb
    rw[upd_same] at e
    cases e
    obtain⟨oe,vs,ge,r⟩:=id x'
    exact⟨x',⟨_,ge⟩,fun k1 k2 ⟨o,v,e1,r⟩ k=>⟨o,v,k _ e1,r⟩⟩
   ·rw[upd_ne hb] at e
    refine(I.hok b o e).stay (fun c w' hc q=>kp c w' (fun z=>?_) q) (fun c z=>upK c _ z (nx z fun _ z=>by cases z)) fun c xs z=>upK c _ z (nx z fun _ z=>by cases z)
    subst z
    rcases hc with z|z
    ·exact hb z.symm
    ·rw[ha] at z
     cases z
def sXfld (K:W.Frag)(ta tv:TE)(f:Str):TS:=fun D σ H=>tv σ H fun y H1=>ta σ H1 fun x H2=>∃a C,x=.ref a/\H2 a=some (.ext (ExcNew a C none))/\excSet K C f=true/\∀d,H2 d=none->d≠a->D.nx σ (upd (upd H2 a (.ext (ExcNew a C (some d)))) d (.xd [(f,y)]))
theorem ps_xfld {X:Cx}{o value:Expr}{f:Str}{ta tv:TE}{pos pos':Pos}(ha:PE X o ta)(hv:PE X value tv)(hs:swapsWith value (some (.Attribute o f pos')) pos.line X.env=pure false):PS X (.Assign [.Attribute o f pos'] value pos) (sXfld X.K ta tv f):=by
 intro pins s σ H D I h
 refine plainObj_wpAny_Assign_Attribute (thn (hv pins s σ H _ I h) fun u s1 ⟨y,H1,I1,ry,q⟩=>thn (ha pins s1 σ H1 _ I1 q) fun ov s2 ⟨x,H2,I2,rx,a,C,ex,ea,c,q2⟩=>?_) hs
 subst ex
 obtain rfl:ov=Value.ref a:=rx
 exact setattr_x I2 ea c ry fun d s3 hd hn I3=>⟨σ,_,I3,q2 d hd hn⟩
end L2
namespace L2
open PySem PySem.Spec PyProof.Rows
section
variable {prog:Program} {w:World} {A:Around} {E:Value->Shared->Prop} {h:Heap} {g:Array GenState} {d:Drawn} {t:Nat} {os:OsState}
variable {nm q:Str} {C N:Addr} {bs bm bmB:List Value} {hdct:Bool} {sn:List Str} {sub:List Value} {ab:Bool} {col:Option Bool} {dd:Option Addr} {k0 k1 k2 k3 k5:Option Value} {B newId initId:String}
theorem type_call_initT (F:ExcBaseFacts B newId initId bmB)(T:OwnTail h bmB bm){mN:Str->Option Value}{rest:List Value}{fI:Addr}{oI:Obj}{Q:Fin->Shared->Prop}
  (hC:h.get? C=some (excClassObj nm q C N bs bm hdct sn sub ab col dd k0 k1 k2 k3 k5 newId)) (hn:h.Ns N mN) (hi:mN "__init__"=some (.ref fI)) (hfI:h.get? fI=some oI) (hfc:oI.cls=.type "function")
  (hq:∀h' e,Heap.MadeExcOf h h' e (.ref C) rest->wpAny (model prog w) A (call (.ref fI) (.ref e::rest)) (fun r s'=>r=.none/\Q (.done (.ret (.ref e))) s') E ⟨h',g,d,t,os⟩) (hrest:rest.length<=sizeLine):
  wpAny (model prog w) A (Builtin.«type.__call__» ⟨.ref C::rest,[]⟩) Q E ⟨h,g,d,t,os⟩:=by
 repeat (first|with_reducible refine wpAny_loadPart_at hC ?_|with_reducible refine wpAny_madeBy_exc hC ?_|wp_step)
 refine codeAny_call_builtin_code (Code.quiet_builtin _ F.quiet) (wpAny_check_new_subT F T hC ?_)
 refine codeAny_exc_new_subT F T hC ?_ hrest
 show wpAny _ _ _ _ _ _
 have up:∀b o,h.get? b=some o->((h.push { cls:=.type "tuple",data:=.seq rest.toArray }).push { cls:=.ref C,data:=.fields #[.ref h.objs.size,.none,.none,.none,.bool false,.none] }).get? b=some o:=fun b o e=>Heap.get?_push_of_some _ (Heap.get?_push_of_some _ e)
 have hC1:=up _ _ hC
 have hfI1:=up _ _ hfI
 have hn1:((h.push { cls:=.type "tuple",data:=.seq rest.toArray }).push { cls:=.ref C,data:=.fields #[.ref h.objs.size,.none,.none,.none,.bool false,.none] }).Ns N mN:=
  let ⟨o,es,ep,e,r⟩:=hn;⟨o,es,ep,up _ _ e,r⟩
 have hget:((h.push { cls:=.type "tuple",data:=.seq rest.toArray }).push { cls:=.ref C,data:=.fields #[.ref h.objs.size,.none,.none,.none,.bool false,.none] }).get? (h.objs.size+1)=some
   { cls:=.ref C,data:=.fields #[.ref h.objs.size,.none,.none,.none,.bool false,.none] }:=by heap_get
 have hcC:(Value.ref C::bm).contains (.ref C)=true:=by simp
 have T1:=T.keeps up
 unfold isInstance
 repeat (first|with_reducible refine wpAny_loadPart_at hget ?_|(with_reducible refine wpAny_isSubtype_exc hC1 ?_;rw[hcC])|wp_step)
 show wpAny _ _ (typeLookup (.ref C) _) _ _ _
 refine wpAny_typeLookup_tail hC1 hn1 T1 F.mroIs F.init.lookup ?_
 rw[hi]
 refine wpAny_holding (wpAny_bind ?_)
 unfold bindSpecial
 refine wpAny_bind (wpAny_typeOf (T:="function") ⟨_,hfI1,hfc⟩ ?_)
 rw[if_pos (by decide)]
 refine wpAny_pure (wpAny_bind (wpAny_mono (hq _ (h.objs.size+1) ⟨up,Heap.get?_none_of_le (Nat.le_succ _),h.objs.size,hget,Heap.get?_none_of_le (Nat.le_refl _),?_⟩) (fun r s' hr=>?_) fun _ _ x=>x))
 ·exact Heap.get?_push_of_some _ (Heap.get?_push_at rfl rfl)
 ·obtain⟨rfl,hQ⟩:=hr
  wp_walk
  exact hQ
theorem call_initT (F:ExcBaseFacts B newId initId bmB)(T:OwnTail h bmB bm){mN:Str->Option Value}{rest:List Value}{fI:Addr}{oI:Obj}{Q:Value->Shared->Prop}
  (hC:h.get? C=some (excClassObj nm q C N bs bm hdct sn sub ab col dd k0 k1 k2 k3 k5 newId)) (hn:h.Ns N mN) (hi:mN "__init__"=some (.ref fI)) (hfI:h.get? fI=some oI) (hfc:oI.cls=.type "function")
  (hq:∀h' e,Heap.MadeExcOf h h' e (.ref C) rest→
   wpAny (model prog w) (A.under (.builtin "type.__call__" ⟨.ref C::rest,[]⟩)) (call (.ref fI) (.ref e::rest)) (fun r s'=>r=.none/\Q (.ref e) s') E ⟨h',g,d,t,os⟩) (hrest:rest.length<=sizeLine):
  wpAny (model prog w) A (call (.ref C) rest) Q E ⟨h,g,d,t,os⟩:=by
 have f1:=tc_lookup
 have f2:=tc_bind (.ref C)
 have hT:(⟨h,g,d,t,os⟩:Shared).TypeIs (.ref C) "type":=⟨_,hC,rfl⟩
 refine wpAny_call (codeAny_of_tree ?_)
 show wpAny _ _ (callAny (.ref C) _) _ _ _
 repeat (any_goals (first|assumption|with_reducible refine wpAny_loadPart_at hC ?_|wp_step))
 refine⟨rfl,?_⟩
 refine codeAny_call_builtin_at (Code.quiet_builtin _ (by decide +kernel)) entry_typeCall (wpAny_check_type_call_sub hC (type_call_initT F T hC hn hi hfI hfc (fun h' e hm=>?_) hrest))
 exact hq h' e hm
end
def excInI (K:W.Frag)(C fI:Addr):Bool:=match K.lookup C with
 |some ⟨.type "type",_,.cls cd,sl⟩=>(match cd.mro,sl.toList with
  |.ref C'::bm,[_,_,_,_,some (.builtin n),_]=>C'==C&&n=="ValueError.__new__"&&!cd.hasDel&&W.tailIn K bmV0 bm&&W.nsOkIn K cd.ns&&W.nsIn K cd.ns "__init__"==some (some (.ref fI))
  |_,_=>false)
 |_=>false
end L2
namespace L2
open PySem PySem.Spec PyProof.Rows
theorem ns_of_in {K:W.Frag}{h:Heap}{N:Addr}{m:Str->Option Value}{n:Str}{v:Value}(X:K.In h)(G:h.Ns N m)(e:W.nsIn K N n=some (some v)):m n=some v:=by
 obtain⟨o,es,ep,ho,hd,_,hf⟩:=G
 unfold W.nsIn at e
 split at e
 ·rename_i c d es' n' sl q
  have:=X _ _ q
  rw[ho] at this
  cases this
  cases hd
  split at e
  ·rename_i en he
   cases e
   rw[<- hf]
   unfold nsFind findBy
   rw[<- Array.find?_toList,he]
   rfl
  ·split at e<;>cases e
 ·cases e
theorem own_KI {K:W.Frag}{h:Heap}{C fI:Addr}(X:K.In h)(hq:excInI K C fI=true):
  ∃bm N nm q bs hdct sn sub ab col dd k0 k1 k2 k3 k5 mN,h.get? C=some (excClassObj nm q C N bs bm hdct sn sub ab col dd k0 k1 k2 k3 k5 "ValueError.__new__")/\h.Ns N mN/\mN "__init__"=some (.ref fI)/\OwnTail h bmV0 bm:=by
 unfold excInI at hq
 split at hq
 ·rename_i dd cd sl ho
  split at hq
  ·rename_i C' bm k0 k1 k2 k3 n k5 hm hs
   simp only[Bool.and_eq_true,beq_iff_eq,Bool.not_eq_true'] at hq
   obtain⟨⟨⟨⟨⟨e1,e2⟩,hdel⟩,ht⟩,hok⟩,hni⟩:=hq
   subst e1 e2
   obtain⟨nm,bs,mro,ns,qn,hd,sn,sub,ab,col,del⟩:=cd
   dsimp only at hm hdel hok hni
   subst hm hdel
   have hsl:sl=#[k0,k1,k2,k3,some (.builtin "ValueError.__new__"),k5]:=Array.toList_inj.mp hs
   subst hsl
   exact⟨bm,ns,nm,qn,bs,hd,sn,sub,ab,col,dd,k0,k1,k2,k3,k5,_,X _ _ ho,.of_isNs (W.isNs_of_in X hok),ns_of_in X (.of_isNs (W.isNs_of_in X hok)) hni,W.tail_of_in X ht⟩
  ·cases hq
 ·cases hq
structure MkX (K:W.Frag)(C fI:Addr):Prop where
 ex:excInI K C fI=true
 fn:W.typeIn K (.ref fI)=some (.type "function")
 kp:W.keepIn K (.ref C)=true
section
variable {X:Cx} {CX:CXT} {k:Nat} {f C:Addr} {fd:FuncData} {ps:List Str} {sp:Sp} {dvs:List V} {ds:List Value} {E:XK} {x:Str} {p pos:Pos} {e:Expr} {es:List Expr} {t:TA}
theorem run_makeX {pins:List (Addr×Obj)}{σ:St}{H:Hp}{s:Shared}{Q:VK}{us:List Value}{vs:List V}(M:MkX X.K C f)(F:FnOk X.prog X.w X.K X.mg X.base CX k f fd ps sp)(hr:Room (k+1) X.A)(hb:Binds X.K fd ps ds)(hd:Vals dvs ds)
  (hx:Passes CX X E) (I:Inv X pins σ H s) (r:Vals vs us) (hz:vs.length<=sizeLine)
  (h:∀a,H a=none->sp (.ref a::(vs++dvs)) (upd H a (.ext (ExcNew a C none))) (fun v H2=>v=.non/\Q (.ref a) H2) E):
  wpAny (model X.prog X.w) X.A (call (.ref C) us) (EP X pins σ Q) X.xe s:=by
 obtain⟨bm,N,nm,q,bs,hdct,sn,sub,ab,col,dd,k0,k1,k2,k3,k5,mN,hC,hN,hi,T⟩:=own_KI I.kIn M.ex
 obtain⟨oI,hl,hfc⟩:=Option.map_eq_some_iff.mp (show(X.K.lookup f).map (·.cls)=some (.type "function") from M.fn)
 have hfI:=I.kIn _ _ hl
 obtain⟨hh,g,d,tk,os⟩:=s
 refine call_initT PySem.F.excBase_ValueError T hC hN hi hfI hfc (fun h' a mk=>?_) (by rw[<- r.length];exact hz)
 obtain⟨tt,g1,g2,g3⟩:=mk.there
 have fresh:H a=none:=by
  cases q:H a with
  |none=>rfl
  |some o=>
   obtain⟨ob,z⟩:=(I.hok a o q).there
   have z':hh.get? a=some ob:=z
   rw[mk.new] at z'
   cases z'
 have upK:∀b o,H b=some o->upd H a (.ext (ExcNew a C none)) b=some o:=fun b o e=>(upd_ne (ne_of_none e fresh)).trans e
 have I2:Inv X pins σ (upd H a (.ext (ExcNew a C none))) ⟨h',g,d,tk,os⟩:=I.flown (t':=tk) (ch:=[]) I.fr0 (fun b z=>absurd z (by simp)) (fun b o _ _ z=>mk.keeps b o z) (fun b o _ z=>⟨o.slots,mk.keeps b o z⟩)
  (fun b o _ z n=>(upd_ne fun z'=>by rw[z',mk.new] at z;cases z).trans n) (fun b xs z=>upK b _ z) (fun b o u z=>upK b _ z) (fun b ps z=>⟨#[],by rw[upK b _ z];simp⟩)
  (fun b o z=>by
   by_cases hb:b=a
   ·subst hb
    rw[upd_same] at z
    cases z
    exact⟨⟨_,_,g1,rfl,rfl,rfl,rfl⟩,⟨_,g1⟩,fun k1 k2 ⟨o,v,e1,r⟩ k=>⟨o,v,k _ e1,r⟩⟩
   ·rw[upd_ne hb] at z
    exact(I.hok b o z).stay (fun c u _ hc=>mk.keeps c u hc) (fun c z=>upK c _ z) fun c xs z=>upK c _ z)
 have hq:=h a fresh
 have r2:Vals (V.ref a::(vs++dvs)) (Value.ref a::(us++ds)):=.cons rfl (r.append hd)
 have hl2:(Value.ref a::us++ds).length=ps.length:=by
  have e:=r2.length
  rw[F.len _ _ _ _ hq] at e
  exact e.symm
 refine wpAny_call (codeAny_mono (F.run _ X.stack _ _ ⟨Value.ref a::us,[]⟩ (Value.ref a::(us++ds)) _ _ E (hr.make C us []) (I2.env0.make C us []) (hb _ (Value.ref a::us) I2.kIn hl2) r2 hq) fun r s' hq'=>?_)
 cases r with
 |error e=>exact hx pins σ _ _ e s' I2 hq'
 |ok fl=>
  cases fl with
  |ret u=>
   obtain⟨v,H',I3,rv,ev,q3⟩:=I2.after hq'
   subst ev
   exact⟨rv,⟨V.ref a,H',I3,rfl,q3⟩⟩
  |next=>exact False.elim hq'
  |brk=>exact False.elim hq'
  |cont=>exact False.elim hq'
def tMakeX (C:Addr)(sp:Sp)(dvs:List V)(E:XK)(t:TA):TE:=fun σ H Q=>t σ H fun vs H1=>vs.length<=sizeLine/\∀a,H1 a=none->sp (.ref a::(vs++dvs)) (upd H1 a (.ext (ExcNew a C none))) (fun v H2=>v=.non/\Q (.ref a) H2) E
theorem pe_makeX (M:MkX X.K C f)(F:FnOk X.prog X.w X.K X.mg X.base CX k f fd ps sp)(hr:Room (k+1) X.A)(hg:Gl X x)(hm:X.mg x=some (.ref C))(hb:Binds X.K fd ps ds)(hd:Vals dvs ds)(hx:Passes CX X E)
  (ha:PA X (e::es) t) (hdb:(x==("__debug__":Str))=false:=by decide) (he:starEach (e::es) X.env=(false,eval e X.env)::starEach es X.env:=by rfl) (hpl:(backTo pos (starEach es X.env)).any (·.1)=false:=by rfl):
  PE X (.Call (.Name x p) (e::es) [] pos) (tMakeX C sp dvs E t):=by
 intro pins s σ H Q I h
 refine wpAny_Call_Name_kw (ld_glob I hg hm ?_ hdb)
 refine W.callWith_K (h₀:=X.base) I.ok.mod.kin M.kp (thn (ha pos pins s σ H _ I h) fun us s1 ⟨vs,H1,I1,r,z,q⟩=>⟨I1.kIn,?_⟩) he hpl
 exact run_makeX M F hr hb hd hx I1 r z q
end
end L2
namespace L2
open PySem PySem.Spec PyProof.Rows
def untr (H:Hp)(a:Addr):Hp:=fun b=>if b=a then none else H b
theorem untr_self {H:Hp}{a:Addr}:untr H a a=none:=if_pos rfl
theorem untr_ne {H:Hp}{a b:Addr}(h:b≠a):untr H a b=H b:=if_neg h
def excRz (K:W.Frag)(C:Addr):Bool:=W.mroIn K C (.type "BaseException")==some true&&W.typeIn K (.ref C)==some (.type "type")
def ThrowsV (X:Cx)(EX:Addr->Option Addr->Hp->Prop):Prop:=∀(pins:List (Addr×Obj)) (σ:St) (H:Hp) (s:Shared) (a C:Addr) (dd:Option Addr),Inv X pins σ H s->H a=some (.ext (ExcNew a C dd))->X.H₀ a=none->EX C dd (untr H a)->X.xe (.ref a) s
def tRaise (K:W.Frag)(H0:Hp)(te:TE)(EX:Addr->Option Addr->Hp->Prop):TS:=fun _ σ H=>te σ H fun v H'=>∃a C dd,v=.ref a/\H' a=some (.ext (ExcNew a C dd))/\H0 a=none/\excRz K C=true/\EX C dd (untr H' a)
theorem ps_raiseV {X:Cx}{ex:Expr}{te:TE}{pos:Pos}{EX:Addr->Option Addr->Hp->Prop}(hc:X.calm=true)(ht:ThrowsV X EX)(he:PE X ex te):PS X (.Raise (some ex) none pos) (tRaise X.K X.H₀ te EX):=by
 intro pins s σ H D I h
 rw[arm_exec_Raise]
 refine wpAny_bind (wpAny_standAt ?_)
 unfold raiseStmt
 show wpAny _ _ ((do let v ← eval ex X.env;standAt pos;pure v) >>= _) _ _ _
 refine wpAny_bind (wpAny_bind (thn (he pins s σ H _ I h) fun u s1 ⟨v,H1,I1,rv,a,C,dd,ev,ha,h0,hz,hE⟩=>?_))
 subst ev
 obtain rfl:u=Value.ref a:=rv
 refine wpAny_bind (wpAny_standAt (wpAny_pure ?_))
 obtain⟨oe,vs,ge,ce,de,da,v1⟩:=(show ObjOk X.prog X.w H1 s1.heap a (.ext (ExcNew a C dd)) from I1.hok a _ ha).1
 unfold excRz at hz
 rw[Bool.and_eq_true] at hz
 have hd:=I.ok.hd hc
 have KX:=I1.kIn
 have hT:=ht pins σ H1 s1 a C dd I1 ha h0 hE
 obtain⟨hh,g,d,t,os⟩:=s1
 have L0:W.Looks (model X.prog X.w) hh (typeOf (.ref a)) (.ref C):=ce▸(W.Looks.ld ge).andThen .now
 have L1:=W.looks_mroIn (M:=model X.prog X.w) KX (beq_iff_eq.mp hz.1)
 have L2':=W.looks_typeIn (M:=model X.prog X.w) KX (beq_iff_eq.mp hz.2)
 have LI:W.Looks (model X.prog X.w) hh (isInstance (.ref a) (.type "BaseException")) true:=L0.andThen L1
 have LT:W.Looks (model X.prog X.w) hh (isType (.ref a)) false:=by
  intro A' Q' E' s' k q
  unfold isType loadHead
  refine wpAny_bind (wpAny_loadPart (k _ _ ge) (wpAny_pure ?_))
  rw[da]
  exact q
 have LX:W.Looks (model X.prog X.w) hh (isExcClass (.ref a)) false:=LT.andThen (by simp only[Bool.false_eq_true,if_false];exact .now)
 have LF:∀c,W.Looks (model X.prog X.w) hh (excFromValue (.ref a) c) (.ref a):=fun c=>LX.andThen (by simp only[Bool.false_eq_true,if_false];exact LI.andThen (by simp only[if_true];exact .now))
 have LR:W.Looks (model X.prog X.w) hh (raisedInstance (.ref a)) (.ref a):=L0.andThen (L2'.andThen (by rw[if_pos (by decide)];exact .now))
 refine wpAny_bind (wpAny_pure ?_)
 refine wpAny_bind (wpAny_holding ((LF _).at ?_))
 refine wpAny_bind (LT.at ?_)
 simp only[Bool.false_eq_true,if_false]
 refine wpAny_bind (LR.at ?_)
 refine wpAny_bind ?_
 unfold setFlight
 refine wpAny_bind (wpAny_field ge da v1 ?_)
 rw[if_neg (by decide)]
 exact wpAny_pure (wpAny_raiseNew_none hd hT)
theorem throwsV_cx {P:Program}{w:World}{K:W.Frag}{mg:Str->Option Value}{base:Heap}{N:List Str}{qual:Str}{scope:Scope}{f:Addr}{cd:Value}{A:Around}{outer:List Env}{s:Shared}{H:Hp}{E:XK}:
  ThrowsV (cxOf (CX1 P w) P w K mg base N qual scope f cd A outer s H E) (fun C dd H'=>E (.ref C) dd H'):=by
 intro pins σ H1 s1 a C dd I ha h0 hE
 obtain⟨oe,vs,ge,ce,de,da,v1⟩:=(show ObjOk P w H1 s1.heap a (.ext (ExcNew a C dd)) from I.hok a _ ha).1
 have fr:(A.deeper (envOfC qual scope s.heap.objs.size f cd)).frames=some (envOfC qual scope s.heap.objs.size f cd::outer):=I.ok.frames
 have fE:∀b∈(envOfC qual scope s.heap.objs.size f cd::outer).filterMap (·.frame),H1 b=none:=I.stkFree
 have newA:s.heap.get? a=none:=by
  cases q:s.heap.get? a with
  |none=>rfl
  |some o=>
   have z:=I.base.free a o q h0 (by show a∉([]:List Addr);simp)
   rw[ha] at z
   cases z
 have old1:∀b,s1.heap.get? b=none->s.heap.get? b=none:=fun b hb=>by
  cases q:s.heap.get? b with
  |none=>rfl
  |some o=>
   obtain⟨o',z⟩:=I.base.there b o q (by show b∉([]:List Addr);simp)
   rw[hb] at z
   cases z
 have unt:∀b,s1.heap.get? b=none->H1 b=none:=fun b hb=>by
  cases q:H1 b with
  |none=>rfl
  |some o=>
   obtain⟨ob,z⟩:=(I.hok b o q).there
   rw[hb] at z
   cases z
 refine leave_first (s:=s1) fr I.stack rfl ge da v1 fun h'' T lb=>?_
 have na:∀b o,s.heap.get? b=some o->b≠a:=fun b o hb z=>by
  rw[z,newA] at hb
  cases hb
 have nL:∀b o,s.heap.get? b=some o->b∉frs outer->b∉(envOfC qual scope s.heap.objs.size f cd::outer).filterMap (·.frame):=fun b o hb hf hm=>by
  rcases List.mem_cons.mp (show b∈s.heap.objs.size::frs outer from hm) with z|z
  ·exact absurd (Heap.lt_size hb) (by rw[z];exact Nat.lt_irrefl _)
  ·exact hf z
 have nx:∀{b:Addr} {o:HO},H1 b=some o->(∀φ,o≠.ext φ)->untr H1 a b=some o:=fun {b o} e n=>(untr_ne fun z=>by
  rw[z,ha] at e
  cases e
  exact n _ rfl).trans e
 refine⟨a,C,dd,untr H1 a,rfl,I.os,I.bare,⟨fun b o hb hn hf hx=>?_,fun b o hb hn hf hx=>?_,fun b o hb hn hx=>?_,fun b o hb hx=>?_,fun b xs e=>nx (I.base.tups b xs e) fun _ z=>(by cases z),fun b o u e=>nx (I.base.frzs b o u e) fun _ z=>(by cases z),fun b ps e=>?_⟩,fun b o hb=>?_,⟨newA,untr_self,?_⟩,hE⟩
 ·have q:=I.base.keep b o hb hn hf hx
  exact lb.keep b o (na b o hb) (nL b o hb hf) q
 ·obtain⟨sl,q⟩:=I.base.slot b o hb hn hf hx
  obtain⟨sl2,q2⟩:=lb.slot b _ (na b o hb) q
  exact⟨sl2,q2⟩
 ·rw[untr_ne (na b o hb)]
  exact I.base.free b o hb hn hx
 ·obtain⟨o',q⟩:=I.base.there b o hb hx
  obtain⟨sl,q2⟩:=lb.slot b o' (na b o hb) q
  exact⟨_,q2⟩
 ·obtain⟨more,q⟩:=I.base.tbls b ps e
  exact⟨more,nx q fun _ z=>by cases z⟩
 ·by_cases hba:b=a
  ·rw[hba,untr_self] at hb
   cases hb
  ·rw[untr_ne hba] at hb
   refine(I.hok b o hb).stay (fun c u z hc=>?_) (fun c z=>nx z fun _ z=>by cases z) fun c xs z=>nx z fun _ z=>by cases z
   have hca:c≠a:=fun q=>by
    rcases z with z|z
    ·exact hba (z.symm.trans q)
    ·rw[q,ha] at z
     cases z
   refine lb.keep c u hca (fun hm=>?_) hc
   have:=fE c hm
   rcases z with z|z
   ·rw[z,hb] at this
    cases this
   ·rw[z] at this
    cases this
 ·obtain⟨oe',q1,q2,q3,q4⟩:=lb.exc _ _ ge da
  obtain⟨oT,ts,t1,t2,t3⟩:=lb.tr
  have hTa:T≠a:=fun z=>by
   have:=lb.new
   rw[z,ge] at this
   cases this
  refine⟨oe',_,T,oT,ts,q1,q2.trans ce,q3.trans de,q4,?_,hTa,old1 T lb.new,(untr_ne hTa).trans (unt T lb.new),t1,t2,t3⟩
  have:=(Array.getElem?_eq_some_iff.mp v1).1
  simp[this]
end L2
namespace L2
open PySem PySem.Spec PyProof.Rows
structure Held (X:Cx)(pins:List (Addr×Obj))(σ:St)(H:Hp)(s:Shared)(a C:Addr)(dd:Option Addr):Prop where
 inv:Inv X pins σ H s
 at_:H a=some (.ext (ExcAt a C dd))
 tr:∃(h0:Heap) (T:Addr) (oe oT:Obj) (vs ts:Array Value),Fr0 X pins h0/\h0.get? T=none/\H T=none/\s.heap.get? a=some oe/\oe.data=.fields vs/\vs[1]?=some (.ref T)/\s.heap.get? T=some oT/\oT.data=.fields ts/\ts[3]?=some .none
abbrev TH:=Addr->Ends->St->Addr->Option Addr->Hp->Prop
def PH (X:Cx)(hs:List ExceptHandler)(T:TH):Prop:=∀(pins:List (Addr×Obj)) (s:Shared) (σ:St) (H:Hp) (D:Ends) (a C:Addr) (dd:Option Addr),Held X pins σ H s a C dd->T a D σ C dd H->wpAny (model X.prog X.w) X.A (handleBy (.ref a) X.env hs) (SP X pins D) X.xe s
def leavesX (K:W.Frag)(C:Addr)(D:Value):Bool:=W.kitCls K (.ref C) D==some false&&W.subIn K D (.type "BaseException")==some true
theorem leaves_ok {s:Shared}{a:Addr}{A:Around}{E:Value->Shared->Prop}{K:W.Frag}{prog:Program}{w:World}{C:Addr}{dd:Option Addr}{D:Value}{Q:Bool->Shared->Prop}(X:K.In s.heap)(x:ExcAt a C dd s.heap)(hq:leavesX K C D=true)(k:Q false s):
  wpAny (model prog w) A (excMatches (.ref a) D) Q E s:=by
 obtain⟨h,g,d,t,os⟩:=s
 obtain⟨oe,vs,ge,ce,_,_⟩:=x
 unfold leavesX at hq
 rw[Bool.and_eq_true] at hq
 obtain⟨h1,h2⟩:=hq
 obtain⟨L3,L5,L1⟩:=W.kit_cls (M:=model prog w) X (beq_iff_eq.mp h1)
 have L2:=W.looks_subIn (M:=model prog w) X (beq_iff_eq.mp h2)
 have L4:W.Looks (model prog w) h (typeOf (.ref a)) (.ref C):=ce▸(W.Looks.ld ge).andThen .now
 have L0:W.Looks (model prog w) h (isSubtype (.type "type") (.type "tuple")) false:=W.Looks.of_pure tc_notTuple
 have LI:W.Looks (model prog w) h (isInstance D (.type "tuple")) false:=L3.andThen L0
 have LX:W.Looks (model prog w) h (isExcClass D) true:=L5.andThen (by simpa using L2)
 unfold excMatches
 refine wpAny_bind (LI.at ?_)
 simp only[Bool.false_eq_true,if_false]
 refine wpAny_bind (wpAny_pure ?_)
 simp only[List.forIn_cons,List.forIn_nil]
 refine wpAny_bind (wpAny_bind (wpAny_bind (LX.at ?_)))
 simp only[Bool.not_true,Bool.false_eq_true,if_false]
 refine wpAny_pure (wpAny_pure ?_)
 refine wpAny_bind (L4.at ?_)
 refine wpAny_bind (wpAny_bind (wpAny_bind (L1.at ?_)))
 simp only[Bool.false_eq_true,if_false]
 refine wpAny_pure (wpAny_pure ?_)
 exact wpAny_pure k
theorem Held.exc {X:Cx}{pins:List (Addr×Obj)}{σ:St}{H:Hp}{s:Shared}{a C:Addr}{dd:Option Addr}(h:Held X pins σ H s a C dd):ExcAt a C dd s.heap:=(show ObjOk X.prog X.w H s.heap a (.ext (ExcAt a C dd)) from h.inv.hok a _ h.at_).1
theorem Held.fly {X:Cx}{pins:List (Addr×Obj)}{σ:St}{H:Hp}{s:Shared}{a C:Addr}{dd:Option Addr}{A:Around}{M:Model}{E:Value->Shared->Prop}{Q:Unit->Shared->Prop}(h:Held X pins σ H s a C dd)(q:∀h',Inv X pins σ H { s with heap:=h' }->Q () { s with heap:=h' }):wpAny M A (setFlight (.ref a) none) Q E s:=by
 obtain⟨h0,T,oe,oT,vs,ts,f0,nT,uT,ge,de,v1,gT,dT,t3⟩:=h.tr
 refine flight ge de v1 gT dT t3 fun h'' k1 k2=>q h'' (h.inv.flown (t':=s.toks) (ch:=[T]) f0 (fun b hb=>by rw[List.mem_singleton.mp hb];exact⟨nT,oT,ts,gT,dT⟩)
  (fun b o hb _ e=>(k1 b fun z=>hb (by simp[z])).trans e) (fun b o hb e=>⟨o.slots,(k1 b fun z=>hb (by simp[z])).trans e⟩) (fun b o _ _ z=>z) (fun _ _ z=>z) (fun _ _ _ z=>z) (fun b ps e=>⟨#[],by rw[e];simp⟩)
  (fun b o e=>by
   refine(h.inv.hok b o e).stay (fun c u z hc=>(k1 c fun q=>?_).trans hc) (fun _ z=>z) fun _ _ z=>z
   subst q
   rcases z with z|z
   ·rw[z,e] at uT
    cases uT
   ·rw[z] at uT
    cases uT))
def hNo (K:W.Frag)(C':Value)(th:Addr->TS)(T:TH):TH:=fun a D σ C dd H=>(takesX K C C'=true/\th a D σ H)\/(leavesX K C C'=true/\T a D σ C dd H)
theorem ph_nil {X:Cx}:PH X [] (fun _ _ _ _ _ _=>False):=fun _ _ _ _ _ _ _ _ _ h=>h.elim
theorem ph_no {X:Cx}{x:Str}{C':Value}{suite:List Stmt}{b₀:Stmt}{th:Addr->TS}{np hpos:Pos}{hs:List ExceptHandler}{T:TH}(hm:Means X x C')
  (hsu:∀a,PSs (X.hand a) (b₀::suite) (th a)) (hr:PH X hs T):PH X (.ExceptHandler (some (.Name x np)) none (b₀::suite) hpos::hs) (hNo X.K C' th T):=by
 intro pins s σ H D a C dd h ht
 refine wpAny_handleBy_cons (codeAny_handlers_test ?_) (by intro q;cases q)
 rcases ht with⟨tk,ht⟩|⟨tk,ht⟩
 ·refine ld_means (X:=X.hand a) (h.inv.hand a) hm (takes_ok h.inv.kIn h.exc tk (codeAny_handlers_suite ?_))
  refine h.fly fun h'' J3=>?_
  refine wpAny_mono (hsu a pins _ _ _ _ (J3.hand a) ht) (fun f s5 q=>?_) fun _ _ z=>z.elim
  cases f with
  |next=>obtain⟨σ5,H5,J5,q5⟩:=q;exact⟨_,_,J5.unhand h.inv.ok,q5⟩
  |brk=>obtain⟨σ5,H5,J5,q5⟩:=q;exact⟨_,_,J5.unhand h.inv.ok,q5⟩
  |cont=>obtain⟨σ5,H5,J5,q5⟩:=q;exact⟨_,_,J5.unhand h.inv.ok,q5⟩
  |ret u=>obtain⟨v,σ5,H5,J5,r5,q5⟩:=q;exact⟨v,_,_,J5.unhand h.inv.ok,r5,q5⟩
 ·exact ld_means (X:=X.hand a) (h.inv.hand a) hm (leaves_ok h.inv.kIn h.exc tk (hr pins s σ H D a C dd h ht))
def tTryH (tb:TSX)(T:TH):TS:=fun D σ H=>tb D σ H fun σ' C dd H'=>∀a,H' a=none->T a D σ' C dd (upd H' a (.ext (ExcAt a C dd)))
theorem ps_tryH {X:Cx}{body:List Stmt}{h₀:ExceptHandler}{hs:List ExceptHandler}{tb:TSX}{T:TH}{pos:Pos}(hst:X.stack=X.env::X.outer/\X.env.frame=some X.env.locals)(hb:PSsX X body tb)(hh:PH X (h₀::hs) T):
  PS X (.Try body (h₀::hs) [] [] pos) (tTryH tb T):=by
 intro pins s σ H D I h
 refine wpAny_Try_except (wpAny_mono (hb pins s σ H D _ I h) (fun f s1 q=>?_) fun e s1 q=>?_)
 ·cases f with
  |next=>exact wpAny_execs_nil q
  |brk=>exact q
  |cont=>exact q
  |ret u=>exact q
 ·obtain⟨h0,a,C,dd,σ',H',rfl,J,⟨n1,n2,oe,vs,T0,oT,ts,g1,g2,gd,g3,g4,g5,g6,g7,g8,g9,g10⟩,fr0,ht⟩:=q
  refine look_next (base:=X.base) (outer:=X.outer) (by rw[J.ok.frames,hst.1]) (by rw[<- hst.1];exact J.stack) hst.2 g1 g3 g4 g8 g9 g10 g5 fun h1 h' T o1 o2 lb=>?_
  rw[<- hst.1] at lb
  have hTT:T≠T0:=fun z=>by
   obtain⟨o,q⟩:=o2
   rw[<- z,lb.new] at q
   cases q
  have hT:s1.heap.get? T=none:=(o1 T hTT).symm.trans lb.new
  have hTa:T≠a:=fun z=>by
   rw[z,g1] at hT
   cases hT
  have uT:H' T=none:=by
   cases q:H' T with
   |none=>rfl
   |some o=>
    obtain⟨ob,z⟩:=(J.hok T o q).there
    rw[hT] at z
    cases z
  obtain⟨oe',q1,q2,q3,q4⟩:=lb.exc oe vs ((o1 a (Ne.symm g5)).trans g1) g3
  obtain⟨oT',ts',t1,t2,t3⟩:=lb.tr
  have x2:ExcAt a C dd h':=⟨oe',_,q1,q2.trans g2,q3.trans gd,q4⟩
  have hne:∀{b:Addr} {o:HO},H' b=some o->b≠a:=fun {b o} e z=>by
   rw[z,n2] at e
   cases e
  have hne0:∀{b:Addr} {o:HO},H' b=some o->b≠T0:=fun {b o} e z=>by
   rw[z,g7] at e
   cases e
  have upK:∀b o,H' b=some o->upd H' a (.ext (ExcAt a C dd)) b=some o:=fun b o e=>(upd_ne (hne e)).trans e
  have J2:Inv X pins σ' (upd H' a (.ext (ExcAt a C dd))) { s1 with heap:=h' }:=J.flown (t':=s1.toks) (ch:=[a,T0]) fr0
   (fun b hb=>by
    rcases List.mem_cons.mp hb with z|z
    ·rw[z];exact⟨n1,oe,vs,g1,g3⟩
    ·rw[List.mem_singleton.mp z];exact⟨g6,oT,ts,g8,g9⟩)
   (fun b o hb hf e=>lb.keep b o (fun z=>hb (by simp[z])) hf ((o1 b fun z=>hb (by simp[z])).trans e))
   (fun b o hb e=>lb.slot b o (fun z=>hb (by simp[z])) ((o1 b fun z=>hb (by simp[z])).trans e))
   (fun b o hb e z=>(upd_ne fun z=>hb (by simp[z])).trans z) (fun b xs e=>upK b _ e) (fun b o u e=>upK b _ e) (fun b ps e=>⟨#[],by rw[upK b _ e];simp⟩)
   (fun b o e=>by
    by_cases hb:b=a
    ·subst hb
     rw[upd_same] at e
     cases e
     exact⟨x2,⟨_,q1⟩,fun k1 k2 ⟨o,v,e1,r⟩ k=>⟨o,v,k _ e1,r⟩⟩
    ·rw[upd_ne hb] at e
     refine(J.hok b o e).stay (fun c u z hc=>?_) (fun c z=>upK c _ z) fun c xs z=>upK c _ z
     have hc2:∃o,H' c=some o:=z.elim (fun z=>⟨o,by rw[z];exact e⟩) fun z=>⟨_,z⟩
     obtain⟨o2,hc2⟩:=hc2
     refine lb.keep c u (hne hc2) (fun hm=>?_) ((o1 c (hne0 hc2)).trans hc)
     have:=J.stkFree c hm
     rw[hc2] at this
     cases this)
  exact hh pins _ σ' _ D a C dd ⟨J2,upd_same,s1.heap,T,oe',oT',_,ts',J.fr0,hT,(upd_ne hTa).trans uT,q1,q4,(by have:=(Array.getElem?_eq_some_iff.mp g4).1;simp[this]),t1,t2,t3⟩ (ht a n2)
end L2
namespace K20
open PySem L2
abbrev Rms:=List (Bool×List Int)
def nextOf (rs:Rms)(h l:Int):Int:=((rs.getD h.toNat (false,[])).2).getD l.toNat 0
def walkM (rs:Rms)(h:Int)(run:List Int):Int:=run.foldl (nextOf rs) h
structure Good (many:Int)(rs:Rms):Prop where
 mn:0<=many/\many<=8
 pos:0<rs.length
 le:rs.length<=100
 row:∀r∈rs,(r.2.length:Int)=many/\∀n∈r.2,0<=n/\n<(rs.length:Int)
def RowsAt (H:Hp)(qs:List Addr)(rs:Rms):Prop:=qs.length=rs.length/\∀(i:Nat) (r:Bool×List Int),rs[i]?=some r->∃q z,qs[i]?=some q/\H q=some (.tup [.bl r.1,.ref z])/\H z=some (.tup (r.2.map V.int))
def MAt (H:Hp)(a:Addr)(many:Int)(rs:Rms):Prop:=∃p qs,H a=some (.tup [.int many,.ref p])/\H p=some (.tup (qs.map V.ref))/\RowsAt H qs rs
theorem RowsAt.same {H H':Hp}{qs:List Addr}{rs:Rms}(h:RowsAt H qs rs)(s:Same H H'):RowsAt H' qs rs:=⟨h.1,fun i r e=>by
 obtain⟨q,z,h1,h2,h3⟩:=h.2 i r e
 exact⟨q,z,h1,s _ _ h2,s _ _ h3⟩⟩
theorem MAt.same {H H':Hp}{a:Addr}{many:Int}{rs:Rms}(h:MAt H a many rs)(s:Same H H'):MAt H' a many rs:=by
 obtain⟨p,qs,h1,h2,h3⟩:=h
 exact⟨p,qs,s _ _ h1,s _ _ h2,h3.same s⟩
theorem getD_of {α:Type}{l:List α}{i:Nat}{x d:α}(h:l[i]?=some x):l.getD i d=x:=by simp[List.getD,h]
theorem some_at {α:Type}(l:List α)(i:Int)(h0:0<=i)(h:i<(l.length:Int)):∃x,l[i.toNat]?=some x:=by
 have h':i.toNat<l.length:=by omega
 exact⟨l[i.toNat],by simp[h']⟩
theorem next_in {many:Int}{rs:Rms}(G:Good many rs){h l:Int}(h0:0<=h)(h1:h<rs.length)(l0:0<=l)(l1:l<many):0<=nextOf rs h l/\nextOf rs h l<(rs.length:Int):=by
 obtain⟨r,er⟩:=some_at rs h h0 h1
 have hr:=G.row r (List.mem_of_getElem? er)
 obtain⟨n,en⟩:=some_at r.2 l l0 (by rw[hr.1];exact l1)
 unfold nextOf
 rw[getD_of er,getD_of en]
 exact hr.2 n (List.mem_of_getElem? en)
theorem walk_in {many:Int}{rs:Rms}(G:Good many rs):∀(run:List Int) (h:Int),0<=h->h<rs.length->(∀l∈run,0<=l/\l<many)->0<=walkM rs h run/\walkM rs h run<(rs.length:Int)
 | [],h,h0,h1,_=>⟨h0,h1⟩
 |l::run,h,h0,h1,hl=>by
  have hx:=hl l List.mem_cons_self
  have q:=next_in G h0 h1 hx.1 hx.2
  exact walk_in G run _ q.1 q.2 fun l' h'=>hl l' (List.mem_cons_of_mem _ h')
theorem walk_take (rs:Rms)(h:Int)(run:List Int)(i:Nat)(l:Int)(e:run[i]?=some l):walkM rs h (run.take (i+1))=nextOf rs (walkM rs h (run.take i)) l:=by
 unfold walkM
 rw[List.take_add_one,e,List.foldl_append]
 rfl
end K20
namespace L2
open PySem PySem.Spec PyProof.Rows
section
variable {prog:Program} {w:World} {A:Around} {R:Result->Shared->Prop} {I:Addr} {fp wr:List Addr} {G:Array GenState->Array GenState->Prop} {n:Nat} {P:Nat->Value->Prop} {Sx:Nat->Shared->Prop}
theorem num_scan {k:Int}{v:Value}(h:numIs k v=true):v.scannable=true:=by
 rcases numIs_shape h with⟨t,rfl⟩|⟨b,rfl,_⟩<;>rfl
theorem set_loopN (W:WalksS prog w A.in1 I fp wr G n P Sx)(S:Addr)(nf:S∉fp)(val:Nat->Int)(hv:∀i v,P i v->numIs (val i) v=true)(hb:n+1<scanBound):
  ∀(k i:Nat) (s:Shared),n-i=k->i<=n->Sx i s->s.heap.SetOf (numKind prog w) S (fun k'=>(firstMet val i).any (·==k')) (firstMet val i).length→
   (∀s',Moved (S::wr) G s s'->s'.heap.SetOf (numKind prog w) S (fun k'=>(firstMet val n).any (·==k')) (firstMet val n).length->R (.ok (.ret .none)) s')→
   codeAny (model prog w) A (.builtin "set.update.loop" ⟨[.ref S,.ref I],[]⟩) R s:=by
 have nw:S∉wr:=fun h=>nf (W.sub _ h)
 have sub:∀b∈wr,b∈S::wr:=fun b hb=>List.mem_cons_of_mem _ hb
 intro k
 induction k with
 |zero=>
  intro i s hk hi hst hS hR
  have ein:i=n:=by omega
  subst ein
  refine codeAny_builtin PyProof.Rows.F.entry_set_update_loop ?_
  rw[Around.under_plainId PyProof.Rows.F.plain_set_update_loop _]
  show wpAny _ A.in1 (pyNext (.ref I) >>= _) _ _ _
  refine wpAny_bind (W.done s _ _ hst fun s' hm=>?_)
  show wpAny _ A.in1 (ret Value.none) _ _ _
  exact wpAny_pure (hR s' (hm.mono sub) (by obtain⟨o,es,ep,t,ho,rest⟩:=hS;exact⟨o,es,ep,t,hm.heap S _ nw ho,rest⟩))
 |succ k ih=>
  intro i s hk hi hst hS hR
  have hlt:i<n:=by omega
  refine codeAny_builtin PyProof.Rows.F.entry_set_update_loop ?_
  rw[Around.under_plainId PyProof.Rows.F.plain_set_update_loop _]
  show wpAny _ A.in1 (pyNext (.ref I) >>= _) _ _ _
  refine wpAny_bind (W.item i s _ _ hlt hst fun v s' hP hst' hm=>?_)
  have kv:=hv i v hP
  have hS':s'.heap.SetOf (numKind prog w) S (fun k'=>(firstMet val i).any (·==k')) (firstMet val i).length:=by obtain⟨o,es,ep,tb,ho,rest⟩:=hS;exact⟨o,es,ep,tb,hm.heap S _ nw ho,rest⟩
  show wpAny _ A.in1 (holding [v] (setAdd S v) >>= _) _ _ _
  refine wpAny_bind (wpAny_holding ?_)
  unfold setAdd
  refine wpAny_holding (wpAny_bind ((numKind prog w).pyHash (k:=val i) kv ?_))
  have room:(firstMet val i).length+1<scanBound:=by have:=firstMet_length_le val i;omega
  refine wpAny_setAddHashed_of (knd:=numKind prog w) (s:={ s' with toks:=s'.toks+1 }) kv (num_scan kv) hS' room fun h' hsb hS2=>?_
  have hSi:h'.SetOf (numKind prog w) S (fun k'=>(firstMet val (i+1)).any (·==k')) (firstMet val (i+1)).length:=SetOf_congr hS2 (fun k'=>by rw[firstMet_succ,step_any]) (by rw[firstMet_succ,step_length])
  refine wpAny_pure ⟨plainId_quiet PyProof.Rows.F.plain_set_update_loop _,ih (i+1) _ (by omega) hlt (W.frame _ s' _ _ hst' (Nat.le_succ _) fun b hb o e=>?_) hSi fun s'' hm'' hS''=>?_⟩
  ·rw[hsb.2 b (fun h:b=S=>nf (by rw[<- h];exact hb))]
   exact e
  ·refine hR s'' (Moved.trans W.gtrans ((hm.mono sub).then_heap (Nat.le_succ _) fun b o hb e=>?_) hm'') hS''
   rw[hsb.2 b (fun h:b=S=>hb (by rw[h];exact List.mem_cons_self))]
   exact e
end
section
variable {prog:Program} {w:World} {A:Around} {E:Value->Shared->Prop} {s:Shared}
abbrev newSet (led:Bool):Obj:={ cls:=.type "set",dict:=none,data:=.set #[] 0 (.fresh 0 0 led) }
set_option maxRecDepth 100000 in
set_option maxHeartbeats 3200000 in
theorem set_listN {l:Addr}{its:Array Value}{ns:List Int}{Q:Value->Shared->Prop}(hh:A.handled=none)(hl:s.heap.IsList l its)(hi:∀(i:Nat) (v:Value),its[i]?=some v->numIs (ns.getD i 0) v=true)(hb:its.size+1<scanBound)
  (h:∀(h':Heap) (tk:Nat),h'.SetOf (numKind prog w) s.heap.objs.size (fun k'=>(firstMet (fun i=>ns.getD i 0) its.size).any (·==k')) (firstMet (fun i=>ns.getD i 0) its.size).length→
   (∀b o,b<s.heap.objs.size->s.heap.get? b=some o->h'.get? b=some o)->Q (.ref s.heap.objs.size) { s with heap:=h',toks:=tk }):
  wpAny (model prog w) A (call (.type "set") [.ref l]) Q E s:=by
 obtain⟨c,tl,hmro⟩:=PySem.F.called_set.mro
 have hmade:=PySem.F.called_set.made
 have hsub:=PySem.F.called_set.sub
 refine wpAny_call (codeAny_of_tree ?_)
 show wpAny _ _ (callAny (.type "set") _) _ _ s
 refine wpAny_pure ⟨Code.quiet_builtin _ (by decide +kernel),codeAny_builtin PySem.F.entry_type_call ?_⟩
 rw[Around.under_plain (weight_type_call_type "set" [.ref l] []) rfl]
 have h1:=PySem.F.called_set.notType
 have h2:=PySem.F.called_set.canCreate
 have hct:=PySem.F.typeCall_set_1 (.ref l)
 repeat (any_goals (first|assumption|wp_step))
 refine codeAny_mono (code_set_new_1 (.ref l) (E:=E) (Q₁:=fun obj s₁=>∃led:Bool,obj=.ref s.heap.objs.size/\s₁={ s with heap:=s.heap.push (newSet led) }) fun led=>⟨led,rfl,rfl⟩) fun r s₁ hr=>?_
 cases r with
 |error e=>exact hr
 |ok fl=>
  cases fl with
  |ret obj=>
   obtain⟨led,rfl,rfl⟩:=hr
   have gS:(s.heap.push (newSet led)).get? s.heap.objs.size=some (newSet led):=Heap.get?_push_size _ rfl
   have tS:Shared.TypeIs { s with heap:=s.heap.push (newSet led) } (.ref s.heap.objs.size) "set":=⟨_,gS,rfl⟩
   have hli:=PySem.F.called_set.init.lookup
   have hbi:=PySem.F.called_set.init.bind (.ref s.heap.objs.size)
   repeat (any_goals (first|assumption|wp_step))
   refine codeAny_mono (codeAny_call_builtin (R:=wants (fun r s₂=>r=.none/\∃h' tk,s₂={ s with heap:=h',toks:=tk }∧
     h'.SetOf (numKind prog w) s.heap.objs.size (fun k'=>(firstMet (fun i=>ns.getD i 0) its.size).any (·==k')) (firstMet (fun i=>ns.getD i 0) its.size).length∧
     (∀b o,b<s.heap.objs.size->s.heap.get? b=some o->h'.get? b=some o)) E) PySem.F.called_set.init.plain PySem.F.entry_set_init (check_set_init_1 tS ?_)) fun r₂ s₂ hr₂=>?_
   ·obtain⟨ol,hol,hcl,nl,hdl⟩:=hl
    obtain⟨ocls,odict,odata,oslots⟩:=ol
    simp only at hcl hdl
    subst hcl;subst hdl
    have gl:(s.heap.push (newSet led)).get? l=some { cls:=.type "list",dict:=odict,data:=.seq its nl,slots:=oslots }:=Heap.get?_push_of_some _ hol
    have hsls:=PySem.F.sub_list_set
    have hslf:=PySem.F.sub_list_frozenset
    have hne:(Value.type "list"==Value.type "dict")=false:=by decide
    have il:(s.heap.push (newSet led)).IsList l its:=⟨_,gl,rfl,nl,rfl⟩
    unfold Builtin.«set.__init__» noKeywords Builtin.Frozenset.updateFrom
    generalize hPI:pyIter=PI
    wp_walk
    subst hPI
    refine wpAny_pyIter_list il (wpAny_bind (wpAny_runValue ?_))
    have ll:l<s.heap.objs.size:=Heap.lt_size hol
    have h3:A.in1.in1.in1.handled=none:=by simp[hh]
    have nI:l≠(s.heap.push (newSet led)).objs.size:=by rw[Heap.size_push];exact Nat.ne_of_lt (Nat.lt_succ_of_lt ll)
    have nS:s.heap.objs.size∉[(s.heap.push (newSet led)).objs.size,l]:=by
     rw[Heap.size_push]
     simp only[List.mem_cons,List.mem_singleton,List.not_mem_nil,or_false,not_or]
     exact⟨Nat.ne_of_lt (Nat.lt_succ_self _),Nat.ne_of_gt ll⟩
    refine set_loopN ((Walks.list h3 _ l nI its).toS) s.heap.objs.size nS (fun i=>ns.getD i 0) hi hb (its.size-0) 0 _ (by omega) (Nat.zero_le _) ⟨⟨_,Heap.get?_push_size _ rfl,rfl,rfl⟩,(il.push _)⟩ ?a1 ?a2
    case a1=>
     have g1:((s.heap.push (newSet led)).push { cls:=.type "list_iterator",data:=.fields #[.ref l,.int 0 0] }).get? s.heap.objs.size=some (newSet led):=Heap.get?_push_of_some _ gS
     exact SetOf_congr ((setObjOf_fresh (knd:=numKind prog w) led).setOf g1 (by unfold scanBound;omega)) (fun _=>rfl) rfl
    case a2=>
     intro s' hm hS'
     obtain⟨h',g',d',tk',os'⟩:=s'
     have eg:g'=s.gens:=hm.gens
     have ed:d'=s.drawn:=hm.drawn
     have eo:os'=s.os:=hm.os
     subst eg;subst ed;subst eo
     show wpAny _ _ _ _ _ _
     refine wpAny_pure ?_
     show wpAny _ _ (ret Value.none) _ _ _
     refine wpAny_pure ⟨rfl,h',tk',rfl,hS',fun b o hb e=>?_⟩
     have n1:b≠s.heap.objs.size:=Nat.ne_of_lt hb
     have n2:b≠(s.heap.push (newSet led)).objs.size:=by rw[Heap.size_push];exact Nat.ne_of_lt (Nat.lt_succ_of_lt hb)
     exact hm.heap b o (by simp only[List.mem_cons,List.mem_singleton,List.not_mem_nil,or_false,not_or];exact⟨n1,n2⟩) (Heap.get?_push_of_some _ (Heap.get?_push_of_some _ e))
   ·cases r₂ with
    |error e=>exact hr₂
    |ok fl₂=>
     cases fl₂ with
     |ret r=>
      obtain⟨rfl,h',tk,rfl,hS',hk'⟩:=hr₂
      repeat (any_goals (first|assumption|wp_step))
      exact h _ _ hS' hk'
     |_=>exact hr₂.elim
  |_=>exact hr.elim
end
def NS (P:Program)(w:World)(a:Addr)(S:Int->Bool)(n:Nat):HO:=.ext fun h=>h.SetOf (numKind P w) a S n
section
variable {X:Cx}
theorem call_setN (hc:X.calm=true):CallR X (.type "set") (fun xs H Q=>∃p vs ns,xs=[.ref p]/\SqL X.K H p vs/\Nums vs ns/\ns.length<=1000/\∀a,H a=none->Q (.ref a) (upd H a (NS X.prog X.w a (inI ns) (manyI ns)))):=by
 intro pins s σ H xs us Q I r h
 obtain⟨p,vs,ns,rfl,hq,hN,hn,q⟩:=h
 obtain⟨u,rfl,rx⟩:=vals1 r
 cases rx
 obtain⟨its,r',pl,hz⟩:=I.list hq
 have hlen:=r'.length
 have hl2:=hN.length
 refine set_listN (its:=its.toArray) (ns:=ns) (I.ok.hd hc) pl.isList (fun i v hv=>?_) (by unfold scanBound;rw[List.size_toArray];omega) fun h' tk hS hk=>?_
 ·have hv':its[i]?=some v:=by simpa using hv
  have hi:i<its.length:=(List.getElem?_eq_some_iff.mp hv').1
  obtain⟨n,en⟩:∃n,ns[i]?=some n:=⟨ns[i]'(by omega),by simp⟩
  obtain⟨x,ex,nx⟩:=hN.get en
  obtain⟨u,eu,ru⟩:=r'.get ex
  rw[hv'] at eu
  cases eu
  rw[show ns.getD i 0=n by simp[List.getD,en]]
  exact nV_is (P:=X.prog) (w:=X.w) nx ru
 ·rw[show its.toArray.size=ns.length by rw[List.size_toArray,<- hlen,hl2]] at hS
  refine⟨.ref s.heap.objs.size,_,I.laid (t':=tk) (o:=NS X.prog X.w s.heap.objs.size (inI ns) (manyI ns)) (fun b o e=>hk b o (Heap.lt_size e) e) (Nat.le_refl _) ?_,rfl,q _ (I.hok.fresh (Nat.le_refl _))⟩
  refine⟨hS,?_,fun h1 h2 ⟨o,es,ep,t,g,m⟩ k=>⟨o,es,ep,t,k o g,m⟩⟩
  obtain⟨o,_,_,_,g,_⟩:=hS
  exact⟨o,g⟩
theorem call_lenNS:CallR X (.builtin "len") (fun xs H Q=>∃a S n,xs=[V.ref a]/\H a=some (NS X.prog X.w a S n)/\Q (.int n) H):=by
 intro pins s σ H xs us Q I r h
 obtain⟨a,S,n,rfl,ha,q⟩:=h
 obtain⟨u,rfl,ru⟩:=vals1 r
 cases ru
 obtain⟨o,es,ep,t,ho,hex,hd,_,_,hb,hf,hn⟩:=(show ObjOk X.prog X.w H s.heap a (NS X.prog X.w a S n) from I.hok _ _ ha).1
 subst hn
 unfold scanBound at hb
 exact call_len_set ho hex hd hf (by omega) ⟨.int es.size,H,I.tok _,⟨_,rfl⟩,q⟩
end
end L2
namespace L2
open PySem PySem.Spec PyProof.Rows
structure Src (prog:Program)(w:World)(it l:Addr)(J:Nat->Heap->Prop)(C:Array Value->Heap->Prop):Prop where
 item:∀(A:Around) (E:Value->Shared->Prop) (s:Shared) (k:Nat) (xs:Array Value) (x:Value) (Q:Value->Shared->Prop),J k s.heap->C xs s.heap->xs[k]?=some x->(∀h',J (k+1) h'->Heap.SameBut it s.heap h'->Q x { s with heap:=h' })->wpAny (model prog w) A (Builtin.SmallTypes.nextOf (.ref it)) Q E s
 stop:∀(A:Around) (E:Value->Shared->Prop) (s:Shared) (k:Nat) (xs:Array Value) (Q:Value->Shared->Prop),A.handled=none->J k s.heap->C xs s.heap->xs[k]?=none->(∀h' e,Heap.ExtBut it s.heap h'->(∃o,h'.get? e=some o/\o.cls=.type "StopIteration")->E (.ref e) { s with heap:=h' })->wpAny (model prog w) A (Builtin.SmallTypes.nextOf (.ref it)) Q E s
 keep:∀k h h',J k h->(∀o,h.get? it=some o->h'.get? it=some o)->J k h'
 seq:∀xs h h',C xs h->(∀o,h.get? l=some o->h'.get? l=some o)->C xs h'
 obj:∀k h,J k h->∃o vs,h.get? it=some o/\o.data=.fields vs
theorem src_list {prog:Program}{w:World}(it l:Addr):Src prog w it l (fun k h=>h.IsListIter it l k) (fun xs h=>h.IsList l xs) where
 item:=fun A E s k xs x Q j c e q=>wpAny_nextOf_list_item j c e q
 stop:=fun A E s k xs Q hh j c e q=>wpAny_nextOf_list_end hh j c e q
 keep:=fun k h h' ⟨o,g,r⟩ f=>⟨o,f o g,r⟩
 seq:=fun xs h h' ⟨o,g,r⟩ f=>⟨o,f o g,r⟩
 obj:=fun k h ⟨o,g,_,r⟩=>⟨o,_,g,r⟩
section
variable {prog:Program} {w:World} {A:Around} {E:Value->Shared->Prop} {s:Shared}
theorem next_tup {it t:Addr}{i:Nat}{items:Array Value}{x:Value}{Q:Value->Shared->Prop}(hit:s.heap.IsTupleIter it t i)(ht:s.heap.IsTuple t items)(hx:items[i]?=some x)
  (q:∀h',h'.IsTupleIter it t (i+1)->Heap.SameBut it s.heap h'->Q x { s with heap:=h' }):wpAny (model prog w) A (Builtin.SmallTypes.nextOf (.ref it)) Q E s:=by
 obtain⟨o,g,c,d⟩:=id hit
 obtain⟨ol,gl,_,nl,dl⟩:=ht
 unfold Builtin.SmallTypes.nextOf
 refine wpAny_bind (wpAny_callSpecial?_slot (name:=Str.ofString "__next__") hit.typeIs PySem.F.slot_tuple_iterator_next (wpAny_call_entry PySem.F.slot_tuple_iterator_next hit.typeIs PySem.F.entry_tuple_iterator_next ?_ (PySem.F.args_tuple_iterator_next_1 _)))
 show wpAny _ _ (field (.ref it) 0 >>= _) _ _ _
 refine wpAny_bind (wpAny_field g d (x:=.ref t) rfl ?_)
 show wpAny _ _ (if (Value.ref t==Value.none)=true then _ else _) _ _ _
 rw[if_neg (show ¬((Value.ref t==Value.none)=true) by exact Bool.false_ne_true)]
 show wpAny _ _ (field (.ref it) 1 >>= _) _ _ _
 refine wpAny_bind (wpAny_field g d (x:=.int i 0) rfl ?_)
 show wpAny _ _ (seqItems? (.ref t) >>= _) _ _ _
 refine wpAny_bind (wpAny_seqItems gl dl ?_)
 simp only[Int.toNat_natCast,hx]
 refine wpAny_bind (wpAny_setField g d (by simp) (wpAny_pure ⟨x,rfl,wpAny_pure (q _ ?_ (Heap.SameBut.update ..))⟩))
 exact⟨_,Heap.get?_update_self _ g (Obj.isFreed_of_fields (Obj.data_mapFields d _)),(Obj.cls_mapFields ..).trans c,by rw[Obj.data_mapFields d];simp[rawInt]⟩
theorem next_tup_end {it t:Addr}{i:Nat}{items:Array Value}{Q:Value->Shared->Prop}(hh:A.handled=none)(hit:s.heap.IsTupleIter it t i)(ht:s.heap.IsTuple t items)(hx:items[i]?=none)
  (q:∀h' e,Heap.ExtBut it s.heap h'->(∃o,h'.get? e=some o/\o.cls=.type "StopIteration")->E (.ref e) { s with heap:=h' }):wpAny (model prog w) A (Builtin.SmallTypes.nextOf (.ref it)) Q E s:=by
 obtain⟨o,g,c,d⟩:=id hit
 obtain⟨ol,gl,_,nl,dl⟩:=ht
 unfold Builtin.SmallTypes.nextOf
 refine wpAny_bind (wpAny_callSpecial?_slot (name:=Str.ofString "__next__") hit.typeIs PySem.F.slot_tuple_iterator_next (wpAny_call_entry PySem.F.slot_tuple_iterator_next hit.typeIs PySem.F.entry_tuple_iterator_next ?_ (PySem.F.args_tuple_iterator_next_1 _)))
 show wpAny _ _ (field (.ref it) 0 >>= _) _ _ _
 refine wpAny_bind (wpAny_field g d (x:=.ref t) rfl ?_)
 show wpAny _ _ (if (Value.ref t==Value.none)=true then _ else _) _ _ _
 rw[if_neg (show ¬((Value.ref t==Value.none)=true) by exact Bool.false_ne_true)]
 show wpAny _ _ (field (.ref it) 1 >>= _) _ _ _
 refine wpAny_bind (wpAny_field g d (x:=.int i 0) rfl ?_)
 show wpAny _ _ (seqItems? (.ref t) >>= _) _ _ _
 refine wpAny_bind (wpAny_seqItems gl dl ?_)
 simp only[Int.toNat_natCast,hx]
 refine wpAny_bind (wpAny_rule (wpAny_bind (wpAny_setField g d (by simp) ?_)))
 show wpAny _ _ (newExc (.type "StopIteration") [] >>= _) _ _ (_)
 refine wpAny_bind ?_
 simp only[newExc,newTuple]
 refine wpAny_bind (wpAny_newObj_type (by skip;refine wpAny_bind (m:=firstArgMember _ _) (wpAny_of_eq (a:=Value.none) (by first|rfl|(simp only[firstArgMember];rfl)) ?_);refine wpAny_newObj_type ?_ (by size_fits);simp only[raiseNew];refine wpAny_bind (wpAny_handled ?_);(first|rw[show A.in1.handled=none from hh]|rw[hh]);first|exact wpAny_throw (q _ _ (((Heap.SameBut.update ..).extBut.push _).push _) ⟨_,Heap.get?_push_size _ rfl,rfl⟩)|exact wpAny_bind (wpAny_pure (wpAny_throw (q _ _ (((Heap.SameBut.update ..).extBut.push _).push _) ⟨_,Heap.get?_push_size _ rfl,rfl⟩)))) (by size_fits))
end
theorem src_tup {prog:Program}{w:World}(it l:Addr):Src prog w it l (fun k h=>h.IsTupleIter it l k) (fun xs h=>h.IsTuple l xs) where
 item:=fun A E s k xs x Q j c e q=>next_tup j c e q
 stop:=fun A E s k xs Q hh j c e q=>next_tup_end hh j c e q
 keep:=fun k h h' ⟨o,g,r⟩ f=>⟨o,f o g,r⟩
 seq:=fun xs h h' ⟨o,g,r⟩ f=>⟨o,f o g,r⟩
 obj:=fun k h ⟨o,g,_,r⟩=>⟨o,_,g,r⟩
end L2
namespace L2
open PySem PySem.Spec PyProof.Rows
section
variable {prog:Program} {w:World} {A:Around} {E:Value->Shared->Prop} {s:Shared}
variable {z TI TO i1 i2 l1 l2:Addr} {J1 J2:Nat->Heap->Prop} {C1 C2:Array Value->Heap->Prop} {k1 k2:Nat} {xs ys:Array Value} {x y a b:Value}
theorem zipg_item {Q:Value->Shared->Prop}(D:ZipApart z TI TO i1 i2 l1 l2)(S1:Src prog w i1 l1 J1 C1)(S2:Src prog w i2 l2 J2 C2)(gz:IsZip s.heap z TI TO .none)(gI:IsPair s.heap TI (.ref i1) (.ref i2))(gO:IsPair s.heap TO a b)
  (j1:J1 k1 s.heap) (j2:J2 k2 s.heap) (c1:C1 xs s.heap) (c2:C2 ys s.heap) (hx:xs[k1]?=some x) (hy:ys[k2]?=some y)
  (q:∀h',IsZip h' z TI TO (rawInt s.heap.objs.size)->IsPair h' TO x y->J1 (k1+1) h'->J2 (k2+1) h'->IsPair h' s.heap.objs.size x y->h'.objs.size=s.heap.objs.size+1→
   (∀c o,c≠z->c≠TO->c≠i1->c≠i2->s.heap.get? c=some o->h'.get? c=some o)->Q (.ref s.heap.objs.size) { s with heap:=h' }):
  wpAny (model prog w) A (Builtin.«zip.__next__» ⟨[.ref z],[]⟩) (fun fin s'=>∃v,fin=.done (.ret v)/\Q v s') E s:=by
 show wpAny _ _ (field (.ref z) 2 >>= _) _ _ s
 refine wpAny_bind (wpAny_field gz rfl (x:=.bool false) rfl ?_)
 show wpAny _ _ (field (.ref z) 3 >>= _) _ _ s
 refine wpAny_bind (wpAny_field gz rfl (x:=.ref TI) rfl (wpAny_bind (wpAny_seqItems gI rfl ?_)))
 show wpAny _ _ (Builtin.SmallTypes.ownedTupleIsFree (.ref z) >>= _) _ _ s
 refine wpAny_bind ?_
 unfold Builtin.SmallTypes.ownedTupleIsFree
 refine wpAny_bind (wpAny_field gz rfl (x:=.none) rfl (wpAny_pure ?_))
 simp only[if_true]
 refine wpAny_bind (wpAny_rule (wpAny_bind (wpAny_field gz rfl (x:=.ref TO) rfl ?_)))
 refine wpAny_bind (wpAny_setField_rec gz (by simp) fun hA zA sA=>?_)
 replace zA:IsZip hA z TI TO .ellipsis:=zA
 refine wpAny_bind ?_
 simp only[List.zipIdx_cons,List.zipIdx_nil,List.forIn_cons,List.forIn_nil]
 refine wpAny_bind (wpAny_bind (wpAny_onRaise ?_))
 show wpAny _ _ (Builtin.SmallTypes.nextOf (.ref i1) >>= _) _ _ (_)
 refine wpAny_bind (S1.item A _ _ k1 xs x _ (S1.keep _ _ _ j1 fun o e=>sA.extBut _ _ D.i1z e) (S1.seq _ _ _ c1 fun o e=>sA.extBut _ _ D.l1z e) hx fun hB jB sB=>wpAny_pure ?_)
 have oB:IsPair hB TO a b:=sB.extBut _ _ D.TOi1 (sA.extBut _ _ D.TOz gO)
 refine wpAny_bind (wpAny_seqItems oB rfl (wpAny_bind (wpAny_updateSeq_pair oB fun hC oC sC=>?_)))
 replace oC:IsPair hC TO x b:=oC
 refine wpAny_bind (wpAny_letGo (wpAny_pure (wpAny_bind (wpAny_bind (wpAny_onRaise ?_)))))
 show wpAny _ _ (Builtin.SmallTypes.nextOf (.ref i2) >>= _) _ _ (_)
 have up2:∀c o,c≠z->c≠i1->c≠TO->s.heap.get? c=some o->hC.get? c=some o:=fun c o n1 n2 n3 e=>sC.extBut _ _ n3 (sB.extBut _ _ n2 (sA.extBut _ _ n1 e))
 refine wpAny_bind (S2.item A _ _ k2 ys y _ (S2.keep _ _ _ j2 fun o e=>up2 _ o D.i2z D.i12.symm D.TOi2.symm e) (S2.seq _ _ _ c2 fun o e=>up2 _ o D.l2z D.l2i1 D.l2TO e) hy fun hD jD sD=>wpAny_pure ?_)
 have oD:IsPair hD TO x b:=sD.extBut _ _ D.TOi2 oC
 refine wpAny_bind (wpAny_seqItems oD rfl (wpAny_bind (wpAny_updateSeq_pair oD fun hE oE sE=>?_)))
 replace oE:IsPair hE TO x y:=oE
 refine wpAny_bind (wpAny_letGo (wpAny_pure (wpAny_pure ?_)))
 refine wpAny_bind (wpAny_seqItems oE rfl (wpAny_bind (wpAny_newTuple ?_)))
 have ez:hE.objs.size=s.heap.objs.size:=by rw[sE.1,sD.1,sC.1,sB.1,sA.1]
 have zE:IsZip hE z TI TO .ellipsis:=sE.extBut _ _ D.TOz.symm (sD.extBut _ _ D.i2z.symm (sC.extBut _ _ D.TOz.symm (sB.extBut _ _ D.i1z.symm zA)))
 have kE:∀c o,c≠z->c≠TO->c≠i1->c≠i2->s.heap.get? c=some o->hE.get? c=some o:=fun c o n1 n2 n3 n4 e=>sE.extBut _ _ n2 (sD.extBut _ _ n4 (up2 c o n1 n3 n2 e))
 have j1E:J1 (k1+1) hE:=S1.keep _ _ _ jB fun o e=>sE.extBut _ _ D.TOi1.symm (sD.extBut _ _ D.i12 (sC.extBut _ _ D.TOi1.symm e))
 have j2E:J2 (k2+1) hE:=S2.keep _ _ _ jD fun o e=>sE.extBut _ _ D.TOi2.symm e
 have zlt:z<hE.objs.size:=Heap.lt_size zE
 show wpAny _ _ (Builtin.SmallTypes.ownedTupleHandOut (.ref z) (.ref hE.objs.size) >>= _) _ _ (_)
 refine wpAny_bind ?_
 unfold Builtin.SmallTypes.ownedTupleHandOut
 have zF:IsZip (hE.push { cls:=.type "tuple",data:=.seq #[x,y] }) z TI TO .ellipsis:=Heap.get?_push_of_some _ zE
 refine wpAny_bind (wpAny_setField_rec zF (by simp) fun hG zG sG=>?_)
 replace zG:IsZip hG z TI TO (rawInt hE.objs.size):=zG
 refine wpAny_setField_rec zG (by simp) fun hK zK sK=>?_
 replace zK:IsZip hK z TI TO (rawInt hE.objs.size):=zK
 have up:∀c o,c≠z->hE.get? c=some o->hK.get? c=some o:=fun c o n1 e=>sK.extBut _ _ n1 (sG.extBut _ _ n1 (Heap.get?_push_of_some _ e))
 have tK:IsPair hK hE.objs.size x y:=sK.extBut _ _ (Nat.ne_of_gt zlt) (sG.extBut _ _ (Nat.ne_of_gt zlt) (Heap.get?_push_size _ rfl))
 have eK:hK.objs.size=hE.objs.size+1:=by rw[sK.1,sG.1,Heap.size_push]
 rw[ez] at zK tK eK
 refine wpAny_pure ⟨_,rfl,?_⟩
 show Q (.ref hE.objs.size) _
 rw[ez]
 exact q hK zK (up _ _ D.TOz oE) (S1.keep _ _ _ j1E fun o e=>up _ o D.i1z e) (S2.keep _ _ _ j2E fun o e=>up _ o D.i2z e) tK eK fun c o n1 n2 n3 n4 e=>up c o n1 (kE c o n1 n2 n3 n4 e)
theorem zipg_stop {Q:Fin->Shared->Prop}(hh:A.handled=none)(D:ZipApart z TI TO i1 i2 l1 l2)(S1:Src prog w i1 l1 J1 C1)(gz:IsZip s.heap z TI TO .none)(gI:IsPair s.heap TI (.ref i1) (.ref i2))
  (j1:J1 k1 s.heap) (c1:C1 xs s.heap) (hx:xs[k1]?=none)
  (q:∀h' e,(∀c o,c≠z->c≠i1->s.heap.get? c=some o->h'.get? c=some o)->(∃o,h'.get? e=some o/\o.cls=.type "StopIteration")->E (.ref e) { s with heap:=h' }):
  wpAny (model prog w) A (Builtin.«zip.__next__» ⟨[.ref z],[]⟩) Q E s:=by
 show wpAny _ _ (field (.ref z) 2 >>= _) _ _ s
 refine wpAny_bind (wpAny_field gz rfl (x:=.bool false) rfl ?_)
 show wpAny _ _ (field (.ref z) 3 >>= _) _ _ s
 refine wpAny_bind (wpAny_field gz rfl (x:=.ref TI) rfl (wpAny_bind (wpAny_seqItems gI rfl ?_)))
 show wpAny _ _ (Builtin.SmallTypes.ownedTupleIsFree (.ref z) >>= _) _ _ s
 refine wpAny_bind ?_
 unfold Builtin.SmallTypes.ownedTupleIsFree
 refine wpAny_bind (wpAny_field gz rfl (x:=.none) rfl (wpAny_pure ?_))
 simp only[if_true]
 refine wpAny_bind (wpAny_rule (wpAny_bind (wpAny_field gz rfl (x:=.ref TO) rfl ?_)))
 refine wpAny_bind (wpAny_setField_rec gz (by simp) fun hA zA sA=>?_)
 replace zA:IsZip hA z TI TO .ellipsis:=zA
 refine wpAny_bind ?_
 simp only[List.zipIdx_cons,List.zipIdx_nil,List.forIn_cons,List.forIn_nil]
 refine wpAny_bind (wpAny_bind (wpAny_onRaise ?_))
 show wpAny _ _ (Builtin.SmallTypes.nextOf (.ref i1) >>= _) _ _ (_)
 refine wpAny_bind (S1.stop A _ _ k1 xs _ hh (S1.keep _ _ _ j1 fun o e=>sA.extBut _ _ D.i1z e) (S1.seq _ _ _ c1 fun o e=>sA.extBut _ _ D.l1z e) hx fun hB e sB he=>?_)
 obtain⟨oe,ge,ce⟩:=he
 have zB:IsZip hB z TI TO .ellipsis:=sB _ _ D.i1z.symm zA
 have ne:e≠z:=fun u=>by subst u;rw[zB] at ge;cases ge;simp at ce
 exact wpAny_setField_rec zB (by simp) fun hC _ sC=>q hC e (fun c o n1 n3 u=>sC.extBut _ _ n1 (sB _ _ n3 (sA.extBut _ _ n1 u))) ⟨oe,sC.extBut _ _ ne ge,ce⟩
theorem zipg_next {Q:Option Value->Shared->Prop}(D:ZipApart z TI TO i1 i2 l1 l2)(S1:Src prog w i1 l1 J1 C1)(S2:Src prog w i2 l2 J2 C2)(gz:IsZip s.heap z TI TO .none)(gI:IsPair s.heap TI (.ref i1) (.ref i2))(gO:IsPair s.heap TO a b)
  (j1:J1 k1 s.heap) (j2:J2 k2 s.heap) (c1:C1 xs s.heap) (c2:C2 ys s.heap) (hx:xs[k1]?=some x) (hy:ys[k2]?=some y)
  (q:∀h',IsZip h' z TI TO (rawInt s.heap.objs.size)->IsPair h' TO x y->J1 (k1+1) h'->J2 (k2+1) h'->IsPair h' s.heap.objs.size x y->h'.objs.size=s.heap.objs.size+1→
   (∀c o,c≠z->c≠TO->c≠i1->c≠i2->s.heap.get? c=some o->h'.get? c=some o)->Q (some (.ref s.heap.objs.size)) { s with heap:=h' }):wpAny (model prog w) A (pyNext (.ref z)) Q E s:=by
 have tZ:s.TypeIs (.ref z) "zip":=⟨_,gz,rfl⟩
 unfold pyNext
 exact wpAny_bind (wpAny_attempt (wpAny_callSpecial?_slot (name:=Str.ofString "__next__") tZ PySem.F.slot_zip_next (wpAny_call_entry PySem.F.slot_zip_next tZ PySem.F.entry_zip_next
   (zipg_item D S1 S2 gz gI gO j1 j2 c1 c2 hx hy fun h' a1 a2 a3 a4 a5 a6 a7=>wpAny_pure (q h' a1 a2 a3 a4 a5 a6 a7)) (PySem.F.args_zip_next_1 _))))
theorem zipg_end {Q:Option Value->Shared->Prop}(hh:A.handled=none)(D:ZipApart z TI TO i1 i2 l1 l2)(S1:Src prog w i1 l1 J1 C1)(gz:IsZip s.heap z TI TO .none)(gI:IsPair s.heap TI (.ref i1) (.ref i2))(j1:J1 k1 s.heap)(c1:C1 xs s.heap)(hx:xs[k1]?=none)
  (q:∀h',(∀c o,c≠z->c≠i1->s.heap.get? c=some o->h'.get? c=some o)->Q none { s with heap:=h' }):wpAny (model prog w) A (pyNext (.ref z)) Q E s:=by
 have tZ:s.TypeIs (.ref z) "zip":=⟨_,gz,rfl⟩
 unfold pyNext
 refine wpAny_bind (wpAny_attempt (wpAny_callSpecial?_slot (name:=Str.ofString "__next__") tZ PySem.F.slot_zip_next (wpAny_call_entry PySem.F.slot_zip_next tZ PySem.F.entry_zip_next (zipg_stop (A:=A.in1) hh D S1 gz gI j1 c1 hx fun h' e hk he=>?_) (PySem.F.args_zip_next_1 _))))
 obtain⟨o,ho,hc⟩:=he
 exact wpAny_bind (wpAny_isInstance (T:="StopIteration") (b:=true) ⟨o,ho,hc⟩ isSubtype_stop (wpAny_pure (q _ hk)))
end
abbrev zgA (h:Heap)(t1:String)(l1:Addr):Heap:=h.push { cls:=.type t1,data:=.fields #[.ref l1,.int 0 0] }
abbrev zgB (h:Heap)(t1 t2:String)(l1 l2:Addr):Heap:=(zgA h t1 l1).push { cls:=.type t2,data:=.fields #[.ref l2,.int 0 0] }
abbrev zgC (h:Heap)(t1 t2:String)(l1 l2:Addr):Heap:=(zgB h t1 t2 l1 l2).push { cls:=.type "tuple",data:=.seq #[.ref h.objs.size,.ref (zgA h t1 l1).objs.size] }
abbrev zgD (h:Heap)(t1 t2:String)(l1 l2:Addr):Heap:=(zgC h t1 t2 l1 l2).push { cls:=.type "tuple",data:=.seq #[.none,.none] }
abbrev zgE (h:Heap)(t1 t2:String)(l1 l2:Addr):Heap:=(zgD h t1 t2 l1 l2).push { cls:=.type "zip",data:=.fields #[.none,.bool false,.bool false,.ref (zgB h t1 t2 l1 l2).objs.size,.ref (zgC h t1 t2 l1 l2).objs.size] }
def Gives1 (t:String)(l:Addr)(h:Heap):Prop:=∀(prog:Program) (w:World) (A:Around) (E:Value->Shared->Prop) (s:Shared) (Q:Value->Shared->Prop),s.heap=h->Q (.ref s.heap.objs.size) { s with heap:=s.heap.push { cls:=.type t,data:=.fields #[.ref l,.int 0 0] } }->wpAny (model prog w) A (pyIter (.ref l)) Q E s
theorem meets_zipg (t1 t2:String)(l1 l2:Addr):
  Meets (Builtin.«zip.__new__» ⟨[.type "zip",.ref l1,.ref l2],[]⟩) (fun _ R s=>Gives1 t1 l1 s.heap/\Gives1 t2 l2 (zgA s.heap t1 l1)/\R (.ok (.ret (.ref (zgD s.heap t1 t2 l1 l2).objs.size))) { s with heap:=zgE s.heap t1 t2 l1 l2 }):=
 .of_wp fun prog w A R s h=>by
  obtain⟨hp,g,d,tk,os⟩:=s;obtain⟨hl1,hl2,h⟩:=h
  have hsub:=sub_zip
  have G1:∀{A:Around} {E:Value->Shared->Prop} {Q:Value->Shared->Prop},Q (.ref hp.objs.size) ⟨hp.push { cls:=.type t1,data:=.fields #[.ref l1,.int 0 0] },g,d,tk,os⟩->wpAny (model prog w) A (pyIter (.ref l1)) Q E ⟨hp,g,d,tk,os⟩:=fun {A E Q} q=>hl1 prog w A E ⟨hp,g,d,tk,os⟩ Q rfl q
  have G2:∀{A:Around} {E:Value->Shared->Prop} {Q:Value->Shared->Prop},Q (.ref (zgA hp t1 l1).objs.size) ⟨(zgA hp t1 l1).push { cls:=.type t2,data:=.fields #[.ref l2,.int 0 0] },g,d,tk,os⟩->wpAny (model prog w) A (pyIter (.ref l2)) Q E ⟨zgA hp t1 l1,g,d,tk,os⟩:=fun {A E Q} q=>hl2 prog w A E ⟨zgA hp t1 l1,g,d,tk,os⟩ Q rfl q
  wp_walk using G1,G2
  exact⟨_,rfl,h⟩
section
variable {prog:Program} {w:World} {A:Around} {E:Value->Shared->Prop} {s:Shared}
theorem call_zipg (t1 t2:String){l1 l2:Addr}{Q:Value->Shared->Prop}(hl1:Gives1 t1 l1 s.heap)(hl2:Gives1 t2 l2 (zgA s.heap t1 l1))
  (h:∀h',IsZip h' (s.heap.objs.size+4) (s.heap.objs.size+2) (s.heap.objs.size+3) .none->IsPair h' (s.heap.objs.size+2) (.ref s.heap.objs.size) (.ref (s.heap.objs.size+1))->IsPair h' (s.heap.objs.size+3) .none .none→
   h'.get? s.heap.objs.size=some { cls:=.type t1,data:=.fields #[.ref l1,.int 0 0] }->h'.get? (s.heap.objs.size+1)=some { cls:=.type t2,data:=.fields #[.ref l2,.int 0 0] }→
   (∀c o,s.heap.get? c=some o->h'.get? c=some o)->Q (.ref (s.heap.objs.size+4)) { s with heap:=h' }):
  wpAny (model prog w) A (call (.type "zip") [.ref l1,.ref l2]) Q E s:=by
 refine callType_new PySem.F.called_zip (by decide) (PySem.F.typeCall_zip_2 _ _) (PySem.F.newCall_zip_2 _ _) (fun obj=>PySem.F.args_object_init_3 obj _ _) PySem.F.entry_zip_new (meets_zipg t1 t2 l1 l2) ⟨hl1,hl2,?_⟩
 have z1:(zgA s.heap t1 l1).objs.size=s.heap.objs.size+1:=Heap.size_push ..
 have z2:(zgB s.heap t1 t2 l1 l2).objs.size=s.heap.objs.size+2:=by rw[Heap.size_push,z1]
 have z3:(zgC s.heap t1 t2 l1 l2).objs.size=s.heap.objs.size+3:=by rw[Heap.size_push,z2]
 have z4:(zgD s.heap t1 t2 l1 l2).objs.size=s.heap.objs.size+4:=by rw[Heap.size_push,z3]
 have g5:(zgE s.heap t1 t2 l1 l2).get? (zgD s.heap t1 t2 l1 l2).objs.size=some _:=Heap.get?_push_size _ rfl
 have g4:(zgE s.heap t1 t2 l1 l2).get? (zgC s.heap t1 t2 l1 l2).objs.size=some _:=Heap.get?_push_of_some _ (Heap.get?_push_size _ rfl)
 have g3:(zgE s.heap t1 t2 l1 l2).get? (zgB s.heap t1 t2 l1 l2).objs.size=some _:=Heap.get?_push_of_some _ (Heap.get?_push_of_some _ (Heap.get?_push_size _ rfl))
 have g2:(zgE s.heap t1 t2 l1 l2).get? (zgA s.heap t1 l1).objs.size=some _:=Heap.get?_push_of_some _ (Heap.get?_push_of_some _ (Heap.get?_push_of_some _ (Heap.get?_push_size _ rfl)))
 have g1:(zgE s.heap t1 t2 l1 l2).get? s.heap.objs.size=some _:=Heap.get?_push_of_some _ (Heap.get?_push_of_some _ (Heap.get?_push_of_some _ (Heap.get?_push_of_some _ (Heap.get?_push_size _ rfl))))
 show _/\_
 rw[z2,z3,z4] at g5
 rw[z1,z2] at g3
 rw[z3] at g4
 rw[z1] at g2
 rw[z4]
 exact⟨⟨_,g5,rfl⟩,h _ g5 g3 g4 g1 g2 fun c o x=>Heap.get?_push_of_some _ (Heap.get?_push_of_some _ (Heap.get?_push_of_some _ (Heap.get?_push_of_some _ (Heap.get?_push_of_some _ x))))⟩
end
theorem gives_list {l:Addr}{h:Heap}{xs:Array Value}(g:h.IsList l xs):Gives1 "list_iterator" l h:=fun prog w A E s Q e q=>by subst e;exact wpAny_pyIter_list g q
theorem gives_tup {l:Addr}{h:Heap}{xs:Array Value}(g:h.IsTuple l xs):Gives1 "tuple_iterator" l h:=fun prog w A E s Q e q=>by subst e;exact wpAny_pyIter_tuple g q
end L2
namespace L2
open PySem PySem.Spec PyProof.Rows
def SqX (K:W.Frag)(t:Bool)(H:Hp)(a:Addr)(xs:List V):Prop:=if t=true then SqT K H a xs else SqL K H a xs
def cX (t:Bool)(l:Addr)(xs:Array Value)(h:Heap):Prop:=if t=true then h.IsTuple l xs else h.IsList l xs
def jX (t:Bool)(it l:Addr)(k:Nat)(h:Heap):Prop:=if t=true then h.IsTupleIter it l k else h.IsListIter it l k
def tX (t:Bool):String:=if t=true then "tuple_iterator" else "list_iterator"
theorem src_x {prog:Program}{w:World}(t:Bool)(it l:Addr):Src prog w it l (jX t it l) (cX t l):=by
 cases t
 ·exact src_list it l
 ·exact src_tup it l
theorem gives_x {t:Bool}{l:Addr}{h:Heap}{xs:Array Value}(g:cX t l xs h):Gives1 (tX t) l h:=by
 cases t
 ·exact gives_list (show h.IsList l xs from g)
 ·exact gives_tup (show h.IsTuple l xs from g)
theorem jX_new {t:Bool}{it l:Addr}{h:Heap}(g:h.get? it=some { cls:=.type (tX t),data:=.fields #[.ref l,.int 0 0] }):jX t it l 0 h:=by
 cases t
 ·exact⟨_,g,rfl,rfl⟩
 ·exact⟨_,g,rfl,rfl⟩
theorem cX_lt {t:Bool}{l:Addr}{h:Heap}{xs:Array Value}(g:cX t l xs h):l<h.objs.size:=by
 cases t
 ·obtain⟨o,g,_⟩:=(show h.IsList l xs from g);exact Heap.lt_size g
 ·obtain⟨o,g,_⟩:=(show h.IsTuple l xs from g);exact Heap.lt_size g
theorem cX_push {t:Bool}{l:Addr}{h:Heap}{xs:Array Value}(g:cX t l xs h)(o:Obj):cX t l xs (h.push o):=by
 cases t
 ·exact Heap.IsList.push (show h.IsList l xs from g) o
 ·exact Heap.IsTuple.push (show h.IsTuple l xs from g) o
section
variable {X:Cx} {pins:List (Addr×Obj)} {σ:St} {H:Hp} {s:Shared} {a:Addr} {xs ys:List V} {t:Bool}
theorem Inv.seqX (I:Inv X pins σ H s)(h:SqX X.K t H a xs):∃its:List Value,Vals xs its/\cX t a its.toArray s.heap/\xs.length<=sizeLine:=by
 cases t
 ·obtain⟨its,r,p,z⟩:=I.list (show SqL X.K H a xs from h)
  exact⟨its,r,p.isList,z⟩
 ·obtain⟨its,r,p,z⟩:=I.tuple (show SqT X.K H a xs from h)
  exact⟨its,r,p,z⟩
theorem Inv.seqX_inj (I:Inv X pins σ H s)(h:SqX X.K t H a xs)(h':SqX X.K t H a ys):xs=ys:=by
 cases t
 ·exact I.list_inj (show SqL X.K H a xs from h) h'
 ·exact I.tuple_inj (show SqT X.K H a xs from h) h'
end
def Itg (K:W.Frag)(t u:Bool)(a b:Addr):It:=
 ⟨fun i H=>∃xs ys x y,SqX K t H a xs/\SqX K u H b ys/\xs[i]?=some x/\ys[i]?=some y,fun i H v H'=>∃p x y,v=.ref p/\H p=none/\H'=upd H p (.tup [x,y])/\(∀xs,SqX K t H a xs->xs[i]?=some x)/\∀ys,SqX K u H b ys->ys[i]?=some y,
  fun i H=>∃xs,SqX K t H a xs/\xs.length<=i⟩
theorem turn_zipg {P:Program}{w:World}{K:W.Frag}{elts:List Expr}{k:Nat}{pos:Pos}(t u:Bool)(a b z TI TO i1 i2:Addr)(N:ZipApart z TI TO i1 i2 a b):
  Turn P w K (.Tuple elts k pos) (Itg K t u a b) [z,TI,TO,i1,i2] z (fun i h=>IsZip h z TI TO .none/\IsPair h TI (.ref i1) (.ref i2)/\(∃c d,IsPair h TO c d)/\jX t i1 a i h/\jX u i2 b i h) where
 mem:=by simp
 obj:=fun i h st c hc=>by
  obtain⟨g1,g2,⟨e,v,g3⟩,g4,g5⟩:=st
  obtain⟨o4,v4,g4,d4⟩:=(src_x (prog:=P) (w:=w) t i1 a).obj _ _ g4
  obtain⟨o5,v5,g5,d5⟩:=(src_x (prog:=P) (w:=w) u i2 b).obj _ _ g5
  simp only[List.mem_cons,List.not_mem_nil,or_false] at hc
  rcases hc with rfl|rfl|rfl|rfl|rfl
  ·exact⟨_,g1,fun v q=>by cases q⟩
  ·exact⟨_,g2,fun v q=>by cases q⟩
  ·exact⟨_,g3,fun v q=>by cases q⟩
  ·exact⟨_,g4,fun v q=>by rw[d4] at q;cases q⟩
  ·exact⟨_,g5,fun v q=>by rw[d5] at q;cases q⟩
 keep:=fun i h h' st kk=>by
  obtain⟨g1,g2,⟨e,v,g3⟩,g4,g5⟩:=st
  exact⟨kk z (by simp) _ g1,kk TI (by simp) _ g2,⟨e,v,kk TO (by simp) _ g3⟩,(src_x (prog:=P) (w:=w) t i1 a).keep _ _ _ g4 fun o q=>kk i1 (by simp) o q,(src_x (prog:=P) (w:=w) u i2 b).keep _ _ _ g5 fun o q=>kk i2 (by simp) o q⟩
 item:=by
  intro X hP hw hK hc i pins s σ H E I hf st hg
  subst hP hw hK
  obtain⟨xs,ys,x,y,hq,hq',hx,hy⟩:=hg
  obtain⟨its,rv,p,_⟩:=I.seqX hq
  obtain⟨jts,rv',p',_⟩:=I.seqX hq'
  obtain⟨v,hu,ru⟩:=rv.get hx
  obtain⟨v',hu',ru'⟩:=rv'.get hy
  obtain⟨g1,g2,⟨c,d,g3⟩,g4,g5⟩:=st
  obtain⟨o4,v4,k4,d4⟩:=(src_x (prog:=X.prog) (w:=X.w) t i1 a).obj _ _ g4
  obtain⟨o5,v5,k5,d5⟩:=(src_x (prog:=X.prog) (w:=X.w) u i2 b).obj _ _ g5
  refine zipg_next (xs:=its.toArray) (ys:=jts.toArray) N (src_x t i1 a) (src_x u i2 b) g1 g2 g3 g4 g5 p p' (by simpa using hu) (by simpa using hu') fun h' b1 b2 b3 b4 b5 b6 b7=>?_
  refine⟨_,rfl,wpAny_letOwnedTupleGo_zip b1 fun h'' e1 e2=>?_⟩
  have zlt:z<s.heap.objs.size:=Heap.lt_size g1
  have kk:∀e o,e∉[z,TI,TO,i1,i2]->s.heap.get? e=some o->h''.get? e=some o:=fun e o he q=>by
   simp only[List.mem_cons,List.not_mem_nil,or_false,not_or] at he
   exact(e2.2 e he.1).trans (b7 e o he.1 he.2.2.1 he.2.2.2.1 he.2.2.2.2 q)
  have up:∀e o,e≠z->h'.get? e=some o->h''.get? e=some o:=fun e o he q=>(e2.2 e he).trans q
  have hno:H s.heap.objs.size=none:=I.hok.fresh (Nat.le_refl _)
  have hT:h''.get? s.heap.objs.size=some { cls:=.type "tuple",data:=.seq #[v,v'] }:=up _ _ (Nat.ne_of_gt zlt) b5
  have I1:Inv X pins σ (upd H s.heap.objs.size (.tup [x,y])) { s with heap:=h'',toks:=s.toks }:=by
   refine I.turnedT (ch:=[z,TI,TO,i1,i2]) hf kk (Nat.le_refl _) ⟨(by show 2<=sizeLine;decide),[v,v'],?_,⟨_,hT,rfl,_,rfl⟩⟩
   exact .cons ru (.cons ru' .nil)
  refine⟨.ref s.heap.objs.size,_,I1,rfl,⟨_,x,y,rfl,hno,rfl,fun zs hz=>by rw[I.seqX_inj hz hq];exact hx,fun zs hz=>by rw[I.seqX_inj hz hq'];exact hy⟩,⟨e1,?_,⟨v,v',up _ _ N.TOz b2⟩,?_,?_⟩,fun e he=>?_⟩
  ·exact up _ _ N.TIz (b7 _ _ N.TIz N.TITO N.TIi1 N.TIi2 g2)
  ·exact(src_x (prog:=X.prog) (w:=X.w) t i1 a).keep _ _ _ b3 fun o q=>up _ o N.i1z q
  ·exact(src_x (prog:=X.prog) (w:=X.w) u i2 b).keep _ _ _ b4 fun o q=>up _ o N.i2z q
  ·have hb':=(hf e he).1
   rw[upd_ne]
   ·exact hb'
   ·intro q
    subst q
    have lt:∀{c:Addr} {o:Obj},s.heap.get? c=some o->s.heap.objs.size≠c:=fun q=>Nat.ne_of_gt (Heap.lt_size q)
    simp only[List.mem_cons,List.not_mem_nil,or_false] at he
    rcases he with q|q|q|q|q
    ·exact lt g1 q
    ·exact lt g2 q
    ·exact lt g3 q
    ·exact lt k4 q
    ·exact lt k5 q
 done:=by
  intro X hP hw hK hc i pins s σ H E I hf st hg
  subst hP hw hK
  obtain⟨xs,hq,hx⟩:=hg
  obtain⟨its,rv,p,_⟩:=I.seqX hq
  have hl:=rv.length
  obtain⟨g1,g2,⟨c,d,g3⟩,g4,g5⟩:=st
  refine zipg_end (xs:=its.toArray) (I.ok.hd hc) N (src_x t i1 a) g1 g2 g4 p (by simp;omega) fun h' hk=>?_
  exact⟨rfl,I.turnedL (t':=s.toks) (ch:=[z,TI,TO,i1,i2]) hf fun e o he q=>by
   simp only[List.mem_cons,List.not_mem_nil,or_false,not_or] at he
   exact hk e o he.1 he.2.2.2.1 q⟩
 self:=fun A i s Q E st h=>wpAny_pyIter_zip st.1 h
def iZipg (K:W.Frag)(t u:Bool)(ta:TA):TI:=fun σ H R=>ta σ H fun vs H1=>∃a b,vs=[.ref a,.ref b]/\(∃xs,SqX K t H1 a xs)/\(∃ys,SqX K u H1 b ys)/\R (Itg K t u a b) H1
theorem pi_zipg (t u:Bool){X:Cx}{elts:List Expr}{k:Nat}{tpos:Pos}{a b:Expr}{ta:TA}{p pos:Pos}(hg:Gl X "zip")(hm:X.mg "zip"=none)(ha:PA X [a,b] ta)(hs:starEach [a,b] X.env=(false,eval a X.env)::starEach [b] X.env:=by rfl)(hpl:(backTo pos (starEach [b] X.env)).any (·.1)=false:=by rfl):
  PI X (.Tuple elts k tpos) (.Call (.Name "zip" p) [a,b] [] pos) (iZipg X.K t u ta):=by
 intro pins s σ H R I h
 refine Call_ (ld_blt I hg hm boot_zip (PyProof.Rows.callWith_type1 (thn (ha pos pins s σ H _ I h) fun us s1 ⟨vs,H1,I1,r1,q1⟩=>?_) hs hpl))
 obtain⟨l,m,e,⟨xs,hq⟩,⟨ys,hq'⟩,q⟩:=q1
 subst e
 obtain⟨v,v',rfl,ru,ru'⟩:=vals2 r1
 cases ru
 cases ru'
 obtain⟨its,rv,pt,hz⟩:=I1.seqX hq
 obtain⟨jts,rv',pt',hz'⟩:=I1.seqX hq'
 refine call_zipg (tX t) (tX u) (gives_x pt) (gives_x (cX_push pt' _)) fun h' c1 c2 c3 c4 c5 c7=>?_
 refine wpAny_pyIter_zip c1 ?_
 have I2:=I1.kept (h':=h') (t':=s1.toks) c7
 refine⟨s1.heap.objs.size+4,[s1.heap.objs.size+4,s1.heap.objs.size+2,s1.heap.objs.size+3,s1.heap.objs.size,s1.heap.objs.size+1],_,Itg X.K t u l m,H1,rfl,I2,turn_zipg t u l m _ _ _ _ _ ?_,⟨c1,c2,⟨_,_,c3⟩,jX_new c4,jX_new c5⟩,fun c hc'=>?_,q⟩
 ·exact zip_apart _ _ _ (cX_lt pt) (cX_lt pt')
 ·have hle:s1.heap.objs.size<=c:=by
   simp only[List.mem_cons,List.not_mem_nil,or_false] at hc'
   rcases hc' with rfl|rfl|rfl|rfl|rfl<;>omega
  exact I1.fpOk hle (I1.hok.fresh hle)
theorem for_zipg {K:W.Frag}{t u:Bool}{a b:Addr}{xs ys:List V}{g:TG}{tb:TS}{D:Ends}{σ:St}{H:Hp}(hn:xs.length=ys.length)(Pv:Nat->St->Hp->Prop)(h0:Pv 0 σ H)(hl:∀i σ H,i<=xs.length->Pv i σ H->SqX K t H a xs/\SqX K u H b ys)
  (hs:∀i x y σ H p,xs[i]?=some x->ys[i]?=some y->Pv i σ H->H p=none->g (.ref p) σ (upd H p (.tup [x,y])) fun σ2 H2=>tb { D with nx:=Pv (i+1),ct:=Pv (i+1),bk:=D.nx } σ2 H2) (hd:∀σ H,Pv xs.length σ H->D.nx σ H):
  ∃W:Nat->Nat->St->Hp->Prop,(∃m,W 0 m σ H)/\∀i m σ H,W i m σ H→
   ((Itg K t u a b).stop i H/\D.nx σ H)\/((Itg K t u a b).go i H/\∃N:St->Hp->Prop,(∀σ' H',N σ' H'->∃m',m'<m/\W (i+1) m' σ' H')/\∀x H',(Itg K t u a b).yld i H x H'->g x σ H' fun σ2 H2=>tb { D with nx:=N,ct:=N,bk:=D.nx } σ2 H2):=by
 refine⟨fun i m σ H=>m=xs.length-i/\i<=xs.length/\Pv i σ H,⟨xs.length,by simp,Nat.zero_le _,h0⟩,?_⟩
 rintro i m σ H ⟨rfl,hi,p⟩
 obtain⟨q,q'⟩:=hl i σ H hi p
 by_cases hlt:i<xs.length
 ·have hlt':i<ys.length:=by omega
  refine .inr ⟨⟨xs,ys,xs[i],ys[i],q,q',by simp[hlt],by simp[hlt']⟩,Pv (i+1),fun σ' H' p'=>⟨xs.length-(i+1),by omega,rfl,hlt,p'⟩,fun x H' y=>?_⟩
  obtain⟨c,x1,y1,e1,e2,e3,e4,e5⟩:=y
  subst e1 e3
  exact hs i x1 y1 σ H c (e4 xs q) (e5 ys q') p e2
 ·have e:i=xs.length:=by omega
  subst e
  exact .inl ⟨⟨xs,q,Nat.le_refl _⟩,hd σ H p⟩
end L2
namespace K21
open K20
theorem filter_len:∀(l:List Int) (x:Int),l.Nodup->l.length<=(l.filter fun y=>decide (y≠x)).length+1
 | [],_,_=>Nat.zero_le _
 |a::l,x,h=>by
  obtain⟨h1,h2⟩:=List.nodup_cons.mp h
  by_cases e:a=x
  ·subst e
   have q:(l.filter fun y=>decide (y≠a))=l:=List.filter_eq_self.mpr fun y hy=>decide_eq_true fun z=>h1 (z▸hy)
   rw[List.filter_cons_of_neg (by simp),q]
   simp
  ·rw[List.filter_cons_of_pos (by simpa using e)]
   have:=filter_len l x h2
   simp only[List.length_cons]
   omega
theorem nodup_le:∀(n:Nat) (l:List Int),l.Nodup->(∀x∈l,0<=x/\x<(n:Int))->l.length<=n
 |0,l,_,h=>by
  cases l with
  |nil=>exact Nat.le_refl _
  |cons a l=>
   have:=h a List.mem_cons_self
   omega
 |n+1,l,nd,h=>by
  have q:=filter_len l n nd
  have r:=nodup_le n (l.filter fun y=>decide (y≠(n:Int))) (nd.sublist List.filter_sublist) fun x hx=>by
   obtain⟨h1,h2⟩:=List.mem_filter.mp hx
   have h3:=h x h1
   have h4:x≠(n:Int):=of_decide_eq_true h2
   omega
  omega
end K21
namespace K60
open K20 K21
def gd (rs:Rms)(n:Int):Bool:=(rs.getD n.toNat (false,[])).1
def Lts (many:Int)(run:List Int):Prop:=∀l∈run,0<=l/\l<many
theorem Lts.nil {many:Int}:Lts many []:=fun l hl=>by simp at hl
theorem Lts.cons {many l:Int}{run:List Int}(l0:0<=l)(l1:l<many)(h:Lts many run):Lts many (l::run):=fun x hx=>by
 rcases List.mem_cons.mp hx with hx|hx
 ·subst hx
  exact⟨l0,l1⟩
 ·exact h x hx
theorem Lts.head {many l:Int}{run:List Int}(h:Lts many (l::run)):0<=l/\l<many:=h l List.mem_cons_self
theorem Lts.tail {many l:Int}{run:List Int}(h:Lts many (l::run)):Lts many run:=fun x hx=>h x (List.mem_cons_of_mem _ hx)
theorem walk_app (rs:Rms)(h:Int)(a b:List Int):walkM rs h (a++b)=walkM rs (walkM rs h a) b:=by
 unfold walkM
 rw[List.foldl_append]
end K60
namespace K23
open PySem L2 K20 K21 K60
def Eqk (rs:Rms)(many:Int)(k:Nat)(x y:Int):Prop:=∀run:List Int,run.length<=k->Lts many run->gd rs (walkM rs x run)=gd rs (walkM rs y run)
def Bi (r1 r2:Rms)(many x y:Int):Prop:=∀run:List Int,Lts many run->gd r1 (walkM r1 x run)=gd r2 (walkM r2 y run)
theorem eqk_zero {rs:Rms}{many x y:Int}:Eqk rs many 0 x y↔gd rs x=gd rs y:=by
 constructor
 ·intro h
  exact h [] (Nat.le_refl _) Lts.nil
 ·intro h run hl _
  have:run=[]:=List.length_eq_zero_iff.mp (by omega)
  subst this
  exact h
theorem eqk_succ {rs:Rms}{many x y:Int}{k:Nat}:Eqk rs many (k+1) x y↔Eqk rs many k x y/\∀l,0<=l->l<many->Eqk rs many k (nextOf rs x l) (nextOf rs y l):=by
 constructor
 ·intro h
  exact⟨fun run hl hr=>h run (by omega) hr,fun l l0 l1 run hl hr=>h (l::run) (by simp;omega) (hr.cons l0 l1)⟩
 ·rintro⟨h1,h2⟩ run hl hr
  cases run with
  |nil=>exact h1 [] (Nat.zero_le _) Lts.nil
  |cons l run=>exact h2 l hr.head.1 hr.head.2 run (by simp at hl;omega) hr.tail
def kn (ns:List Int)(t:Int):Int:=ns.getD t.toNat 0
def nx (rs:Rms)(x:Int):List Int:=(rs.getD x.toNat (false,[])).2
theorem nextOf_nx (rs:Rms)(x l:Int):nextOf rs x l=(nx rs x).getD l.toNat 0:=rfl
def mark (rs:Rms)(ns:List Int)(x:Int):Int×List Int:=(kn ns x,(nx rs x).map (kn ns))
def Inr (rs:Rms)(x:Int):Prop:=0<=x/\x<(rs.length:Int)
structure Lev (rs:Rms)(many:Int)(k:Nat)(ns:List Int):Prop where
 len:ns.length=rs.length
 iff:∀x y,Inr rs x->Inr rs y->(kn ns x=kn ns y↔Eqk rs many k x y)
structure Fine (rs:Rms)(ns ms:List Int):Prop where
 len:ms.length=rs.length
 iff:∀x y,Inr rs x->Inr rs y->(kn ms x=kn ms y↔mark rs ns x=mark rs ns y)
theorem nx_len {many:Int}{rs:Rms}(G:Good many rs){x:Int}(h:Inr rs x):((nx rs x).length:Int)=many:=by
 obtain⟨r,er⟩:=some_at rs x h.1 h.2
 unfold nx
 rw[getD_of er]
 exact(G.row r (List.mem_of_getElem? er)).1
theorem nx_in {many:Int}{rs:Rms}(G:Good many rs){x t:Int}(h:Inr rs x)(ht:t∈nx rs x):Inr rs t:=by
 obtain⟨r,er⟩:=some_at rs x h.1 h.2
 unfold nx at ht
 rw[getD_of er] at ht
 exact(G.row r (List.mem_of_getElem? er)).2 t ht
theorem map_eq_of {α:Type}(f:Int->α):∀(a b:List Int),a.length=b.length->(a.map f=b.map f↔∀i:Nat,i<a.length->f (a.getD i 0)=f (b.getD i 0))
 | [],[],_=>⟨fun _ i hi=>absurd hi (Nat.not_lt_zero _),fun _=>rfl⟩
 | [],_::_,h=>by simp at h
 |_::_,[],h=>by simp at h
 |x::a,y::b,h=>by
  have ih:=map_eq_of f a b (by simpa using h)
  constructor
  ·intro e i hi
   rw[List.map_cons,List.map_cons] at e
   injection e with e1 e2
   cases i with
   |zero=>exact e1
   |succ i=>exact(ih.mp e2) i (by simpa using hi)
  ·intro e
   rw[List.map_cons,List.map_cons]
   have e1:=e 0 (by simp)
   have e2:=ih.mpr fun i hi=>e (i+1) (by simpa using hi)
   rw[e2]
   have:f x=f y:=e1
   rw[this]
theorem Fine.lev {many:Int}{rs:Rms}{k:Nat}{ns ms:List Int}(G:Good many rs)(L:Lev rs many k ns)(F:Fine rs ns ms):Lev rs many (k+1) ms:=by
 refine⟨F.len,fun x y hx hy=>?_⟩
 rw[F.iff x y hx hy,eqk_succ]
 have lx:=nx_len G hx
 have ly:=nx_len G hy
 unfold mark
 rw[Prod.mk.injEq,L.iff x y hx hy,map_eq_of (kn ns) _ _ (by omega)]
 refine and_congr_right fun _=>?_
 constructor
 ·intro h l l0 l1
  have hx':=next_in G hx.1 hx.2 l0 l1
  have hy':=next_in G hy.1 hy.2 l0 l1
  rw[<- L.iff _ _ hx' hy',nextOf_nx,nextOf_nx]
  exact h l.toNat (by omega)
 ·intro h i hi
  have q:=h (i:Int) (by omega) (by omega)
  have hx':=next_in G hx.1 hx.2 (l:=(i:Int)) (by omega) (by omega)
  have hy':=next_in G hy.1 hy.2 (l:=(i:Int)) (by omega) (by omega)
  rw[<- L.iff _ _ hx' hy',nextOf_nx,nextOf_nx] at q
  exact q
theorem sub_len:∀(b c:List Int),b.Nodup->(∀x∈b,x∈c)->b.length<=c.length
 | [],c,_,_=>Nat.zero_le _
 |x::b,c,nd,h=>by
  obtain⟨h1,h2⟩:=List.nodup_cons.mp nd
  have hx:=h x List.mem_cons_self
  have ih:=sub_len b (c.erase x) h2 fun y hy=>by
   have ne:y≠x:=fun e=>h1 (e▸hy)
   exact(List.mem_erase_of_ne ne).mpr (h y (List.mem_cons_of_mem _ hy))
  rw[List.length_erase_of_mem hx] at ih
  have:0<c.length:=List.length_pos_of_mem hx
  simp only[List.length_cons]
  omega
theorem many_spec (ns:List Int):∃l:List Int,l.Nodup/\(∀k,k∈l↔k∈ns)/\manyI ns=l.length:=by
 refine⟨PyProof.Rows.firstMet (fun i=>ns.getD i 0) ns.length,?_,fun k=>?_,rfl⟩
 ·unfold PyProof.Rows.firstMet
  exact first_nodup _ _ List.nodup_nil
 ·rw[<- inI_iff ns k]
  unfold inI
  rw[List.any_eq_true]
  exact⟨fun h=>⟨k,h,by simp⟩,fun⟨x,hx,e⟩=>by rw[beq_iff_eq] at e;rwa [<- e]⟩
theorem many_le (ns:List Int):manyI ns<=ns.length:=by
 obtain⟨l,nd,mem,e⟩:=many_spec ns
 rw[e]
 exact sub_len l ns nd fun x hx=>(mem x).mp hx
theorem mem_kn {ns:List Int}{v:Int}(h:v∈ns):∃t:Int,0<=t/\t<(ns.length:Int)/\kn ns t=v:=by
 obtain⟨i,hi,e⟩:=List.getElem_of_mem h
 exact⟨i,by omega,by omega,by unfold kn;rw[Int.toNat_natCast];simp[List.getD,hi,e]⟩
theorem kn_mem {ns:List Int}{t:Int}(h0:0<=t)(h1:t<(ns.length:Int)):kn ns t∈ns:=by
 obtain⟨v,e⟩:=some_at ns t h0 h1
 unfold kn
 rw[getD_of e]
 exact List.mem_of_getElem? e
theorem stays {many:Int}{rs:Rms}{k:Nat}{ns ms:List Int}(L:Lev rs many k ns)(L':Lev rs many (k+1) ms)(h:manyI ms<=manyI ns){x y:Int}(hx:Inr rs x)(hy:Inr rs y)(e:Eqk rs many k x y):Eqk rs many (k+1) x y:=by
 refine Classical.byContradiction fun hn=>?_
 have e1:kn ns x=kn ns y:=(L.iff x y hx hy).mpr e
 have e2:¬kn ms x=kn ms y:=fun z=>hn ((L'.iff x y hx hy).mp z)
 obtain⟨la,na,ma,ea⟩:=many_spec ms
 obtain⟨lb,nb,mb,eb⟩:=many_spec ns
 have up:∀{u v:Int},Inr rs u->Inr rs v->kn ms u=kn ms v->kn ns u=kn ns v:=fun {u v} hu hv z=>(L.iff u v hu hv).mpr (eqk_succ.mp ((L'.iff u v hu hv).mp z)).1
 have inm:∀{u:Int},Inr rs u->kn ms u∈ms:=fun {u} hu=>kn_mem hu.1 (by rw[L'.len];exact hu.2)
 have pick:∀v,∃t:Int,v∈ms->Inr rs t/\kn ms t=v:=fun v=>by
  by_cases hv:v∈ms
  ·obtain⟨t,t0,t1,et⟩:=mem_kn hv
   exact⟨t,fun _=>⟨⟨t0,by rw[<- L'.len];exact t1⟩,et⟩⟩
  ·exact⟨0,fun z=>absurd z hv⟩
 let f:Int->Int:=fun v=>kn ns (Classical.choose (pick v))
 have ff:∀{u:Int},Inr rs u->f (kn ms u)=kn ns u:=fun {u} hu=>by
  have q:=Classical.choose_spec (pick (kn ms u)) (inm hu)
  exact up q.1 hu q.2
 have hlen:lb.length<=((la.erase (kn ms x)).map f).length:=by
  refine sub_len _ _ nb fun b hb=>?_
  obtain⟨t,t0,t1,et⟩:=mem_kn ((mb b).mp hb)
  have ht:Inr rs t:=⟨t0,by rw[<- L.len];exact t1⟩
  by_cases hc:kn ms t=kn ms x
  ·refine List.mem_map.mpr ⟨kn ms y,(List.mem_erase_of_ne (Ne.symm e2)).mpr ((ma _).mpr (inm hy)),?_⟩
   rw[ff hy,<- e1,<- et]
   exact(up ht hx hc).symm
  ·refine List.mem_map.mpr ⟨kn ms t,(List.mem_erase_of_ne hc).mpr ((ma _).mpr (inm ht)),?_⟩
   rw[ff ht,et]
 have hxm:kn ms x∈la:=(ma _).mpr (inm hx)
 rw[List.length_map,List.length_erase_of_mem hxm] at hlen
 have:0<la.length:=List.length_pos_of_mem hxm
 omega
structure Cls (rs:Rms)(many:Int)(ns:List Int):Prop where
 len:ns.length=rs.length
 iff:∀x y,Inr rs x->Inr rs y->(kn ns x=kn ns y↔Bi rs rs many x y)
theorem Lev.cls {many:Int}{rs:Rms}{k:Nat}{ns:List Int}(G:Good many rs)(L:Lev rs many k ns)(st:∀x y,Inr rs x->Inr rs y->Eqk rs many k x y->Eqk rs many (k+1) x y):Cls rs many ns:=by
 refine⟨L.len,fun x y hx hy=>?_⟩
 rw[L.iff x y hx hy]
 constructor
 ·intro h run hr
  induction run generalizing x y with
  |nil=>exact h [] (Nat.zero_le _) Lts.nil
  |cons l run ih=>
   have q:=(eqk_succ.mp (st x y hx hy h)).2 l hr.head.1 hr.head.2
   exact ih _ _ (next_in G hx.1 hx.2 hr.head.1 hr.head.2) (next_in G hy.1 hy.2 hr.head.1 hr.head.2) q hr.tail
 ·intro h run _ hr
  exact h run hr
theorem Bi.next {r1 r2:Rms}{many x y l:Int}(h:Bi r1 r2 many x y)(l0:0<=l)(l1:l<many):Bi r1 r2 many (nextOf r1 x l) (nextOf r2 y l):=fun run hr=>h (l::run) (hr.cons l0 l1)
def cl (ns:List Int)(ch:List Int):List Int:=ch.map (kn ns)
def ix (ns:List Int)(ch:List Int)(t:Int):Int:=((cl ns ch).idxOf (kn ns t):Int)
def minM (rs:Rms)(ns ch:List Int):Rms:=ch.map fun c=>(gd rs c,(nx rs c).map (ix ns ch))
def stepT (n:Option Nat)(t:Int):Option Nat:=n.bind fun n=>if t<(n:Int) then some n else if t=(n:Int) then some (n+1) else none
def rowN (n:Option Nat)(r:List Int):Option Nat:=r.foldl stepT n
def rowsN (rows:List (List Int)):Option Nat:=rows.foldl rowN (some 1)
theorem rowN_snoc (n:Option Nat)(r:List Int)(t:Int):rowN n (r++[t])=stepT (rowN n r) t:=by unfold rowN;rw[List.foldl_append];rfl
theorem rowsN_snoc (rows:List (List Int))(r:List Int):rowsN (rows++[r])=rowN (rowsN rows) r:=by unfold rowsN;rw[List.foldl_append];rfl
theorem ix_app {ns ch:List Int}{t x:Int}(h:kn ns t∈cl ns ch):ix ns (ch++[x]) t=ix ns ch t:=by
 unfold ix cl at *
 rw[List.map_append,List.idxOf_append,if_pos h]
theorem ix_lt {ns ch:List Int}{t:Int}(h:kn ns t∈cl ns ch):ix ns ch t<(ch.length:Int):=by
 unfold ix
 have:=List.idxOf_lt_length_of_mem h
 unfold cl at *
 rw[List.length_map] at this
 omega
theorem ix_at {ns ch:List Int}{t:Int}(h:kn ns t∈cl ns ch):∃c,ch[(ix ns ch t).toNat]?=some c/\kn ns c=kn ns t:=by
 have q:=List.idxOf_lt_length_of_mem h
 have hl:(cl ns ch).idxOf (kn ns t)<ch.length:=by unfold cl at q ⊢;rwa [List.length_map] at q
 refine⟨ch[(cl ns ch).idxOf (kn ns t)],?_,?_⟩
 ·unfold ix
  rw[Int.toNat_natCast]
  simp[hl]
 ·have e:(cl ns ch)[(cl ns ch).idxOf (kn ns t)]?=some (kn ns t):=by rw[List.getElem?_eq_getElem q,List.getElem_idxOf q]
  generalize (cl ns ch).idxOf (kn ns t)=k at e hl ⊢
  unfold cl at e
  rw[List.getElem?_map,List.getElem?_eq_getElem hl] at e
  exact Option.some.inj e
theorem ix_new {ns ch:List Int}{x:Int}(h:kn ns x∉cl ns ch):ix ns (ch++[x]) x=(ch.length:Int):=by
 unfold ix cl at *
 rw[List.map_append,List.idxOf_append,if_neg h,List.length_map]
 simp
structure LB (rs:Rms)(many:Int)(ns ch:List Int)(d:Nat):Prop where
 hd:ch[0]?=some 0
 nd:(cl ns ch).Nodup
 ok:∀c∈ch,Inr rs c
 dl:d<=ch.length
 cov:∀(i:Nat) (c:Int),i<d->ch[i]?=some c->∀t∈nx rs c,kn ns t∈cl ns ch
 ord:rowsN ((ch.take d).map fun c=>(nx rs c).map (ix ns ch))=some ch.length
 pre:∀i,i<d->∃n,rowsN ((ch.take i).map fun c=>(nx rs c).map (ix ns ch))=some n/\i<n
structure LV (rs:Rms)(many:Int)(ns ch:List Int)(d:Nat)(x0:Int)(j:Nat):Prop where
 pl:ch[d]?=some x0
 hd:ch[0]?=some 0
 nd:(cl ns ch).Nodup
 ok:∀c∈ch,Inr rs c
 cov:∀(i:Nat) (c:Int),i<d->ch[i]?=some c->∀t∈nx rs c,kn ns t∈cl ns ch
 cov2:∀t∈(nx rs x0).take j,kn ns t∈cl ns ch
 ord:rowN (rowsN ((ch.take d).map fun c=>(nx rs c).map (ix ns ch))) (((nx rs x0).take j).map (ix ns ch))=some ch.length
 pre:∀i,i<=d->∃n,rowsN ((ch.take i).map fun c=>(nx rs c).map (ix ns ch))=some n/\i<n
theorem LB.start {rs:Rms}{many:Int}{ns ch:List Int}{d:Nat}{x0:Int}(B:LB rs many ns ch d)(h:ch[d]?=some x0):LV rs many ns ch d x0 0:=by
 have hd:d<ch.length:=(List.getElem?_eq_some_iff.mp h).1
 refine⟨h,B.hd,B.nd,B.ok,B.cov,fun t ht=>by simp at ht,?_,fun i hi=>?_⟩
 ·exact B.ord
 ·by_cases e:i=d
  ·subst e
   exact⟨_,B.ord,hd⟩
  ·exact B.pre i (by omega)
theorem LV.done {rs:Rms}{many:Int}{ns ch:List Int}{d:Nat}{x0:Int}{j:Nat}(V:LV rs many ns ch d x0 j)(h:(nx rs x0).length<=j):LB rs many ns ch (d+1):=by
 have hd:d<ch.length:=(List.getElem?_eq_some_iff.mp V.pl).1
 have c2:=V.cov2
 have o2:=V.ord
 rw[List.take_of_length_le h] at c2 o2
 refine⟨V.hd,V.nd,V.ok,hd,fun i c hi hc=>?_,?_,fun i hi=>V.pre i (by omega)⟩
 ·by_cases e:i=d
  ·subst e
   rw[V.pl] at hc
   cases hc
   exact c2
  ·exact V.cov i c (by omega) hc
 ·rw[List.take_add_one,V.pl,List.map_append,Option.toList_some,List.map_singleton,rowsN_snoc]
  exact o2
theorem LV.old {rs:Rms}{many:Int}{ns ch:List Int}{d:Nat}{x0 t:Int}{j:Nat}(V:LV rs many ns ch d x0 j)(h:(nx rs x0)[j]?=some t)(m:kn ns t∈cl ns ch):LV rs many ns ch d x0 (j+1):=by
 refine⟨V.pl,V.hd,V.nd,V.ok,V.cov,fun u hu=>?_,?_,V.pre⟩
 ·rw[List.take_add_one,h,Option.toList_some,List.mem_append,List.mem_singleton] at hu
  rcases hu with hu|rfl
  ·exact V.cov2 u hu
  ·exact m
 ·rw[List.take_add_one,h,Option.toList_some,List.map_append,List.map_singleton,rowN_snoc,V.ord]
  unfold stepT
  rw[Option.bind_some,if_pos (ix_lt m)]
theorem rows_app {rs:Rms}{ns ch:List Int}{x:Int}{d:Nat}(dl:d<=ch.length)(cov:∀(i:Nat) (c:Int),i<d->ch[i]?=some c->∀t∈nx rs c,kn ns t∈cl ns ch):
  (((ch++[x]).take d).map fun c=>(nx rs c).map (ix ns (ch++[x])))=(ch.take d).map fun c=>(nx rs c).map (ix ns ch):=by
 rw[List.take_append_of_le_length dl]
 refine List.map_congr_left fun c hc=>List.map_congr_left fun t ht=>ix_app ?_
 obtain⟨i,hi,e⟩:=List.getElem_of_mem hc
 rw[List.length_take] at hi
 rw[List.getElem_take] at e
 exact cov i c (by omega) (by rw[<- e];simp) t ht
theorem LV.new {rs:Rms}{many:Int}{ns ch:List Int}{d:Nat}{x0 t:Int}{j:Nat}(G:Good many rs)(V:LV rs many ns ch d x0 j)(h:(nx rs x0)[j]?=some t)(m:kn ns t∉cl ns ch):LV rs many ns (ch++[t]) d x0 (j+1):=by
 have hd:d<ch.length:=(List.getElem?_eq_some_iff.mp V.pl).1
 have lt:∀{i:Nat} {e:Int},ch[i]?=some e->(ch++[t])[i]?=some e:=fun {i e} h=>by
  rw[List.getElem?_append_left (List.getElem?_eq_some_iff.mp h).1]
  exact h
 have mem:∀{v:Int},v∈cl ns ch->v∈cl ns (ch++[t]):=fun {v} hv=>by unfold cl at *;rw[List.map_append];exact List.mem_append_left _ hv
 have x0r:=V.ok x0 (List.mem_of_getElem? V.pl)
 have tr:=nx_in G x0r (List.mem_of_getElem? h)
 refine⟨lt V.pl,lt V.hd,?_,fun c hc=>?_,fun i c hi hc u hu=>?_,fun u hu=>?_,?_,fun i hi=>?_⟩
 ·unfold cl at *
  rw[List.map_append,List.nodup_append]
  refine⟨V.nd,by simp,fun a ha b hb=>?_⟩
  have:b=kn ns t:=by simpa using hb
  subst this
  intro z
  subst z
  exact m ha
 ·rcases List.mem_append.mp hc with hc|hc
  ·exact V.ok c hc
  ·rw[List.mem_singleton] at hc
   subst hc
   exact tr
 ·rw[List.getElem?_append_left (by omega)] at hc
  exact mem (V.cov i c hi hc u hu)
 ·rw[List.take_add_one,h,Option.toList_some,List.mem_append,List.mem_singleton] at hu
  rcases hu with hu|rfl
  ·exact mem (V.cov2 u hu)
  ·unfold cl
   rw[List.map_append]
   exact List.mem_append_right _ (by simp)
 ·rw[rows_app (by omega) V.cov,List.take_add_one,h,Option.toList_some,List.map_append,List.map_singleton,rowN_snoc,ix_new m]
  have e:((nx rs x0).take j).map (ix ns (ch++[t]))=((nx rs x0).take j).map (ix ns ch):=List.map_congr_left fun u hu=>ix_app (V.cov2 u hu)
  rw[e,V.ord]
  unfold stepT
  rw[Option.bind_some,if_neg (by omega),if_pos rfl,List.length_append]
  rfl
 ·rw[rows_app (by omega) fun i' c hi' hc=>V.cov i' c (by omega) hc]
  exact V.pre i hi
theorem LB.init {rs:Rms}{many:Int}{ns:List Int}(G:Good many rs):LB rs many ns [0] 0:=by
 have:=G.pos
 refine⟨rfl,by simp[cl],fun c hc=>?_,by simp,fun i c hi=>by omega,rfl,fun i hi=>by omega⟩
 rw[List.mem_singleton] at hc
 subst hc
 exact⟨Int.le_refl 0,by omega⟩
theorem ch_len {rs:Rms}{ns ch:List Int}(nd:(cl ns ch).Nodup)(ok:∀c∈ch,Inr rs c):ch.length<=rs.length:=by
 have n2:ch.Nodup:=by
  unfold cl at nd
  exact List.Pairwise.of_map (kn ns) (fun a b h z=>h (by rw[z])) nd
 exact nodup_le rs.length ch n2 fun x hx=>ok x hx
section
variable {rs:Rms} {many:Int} {ns ch:List Int}
theorem min_at {i:Nat}{c:Int}(h:ch[i]?=some c):(minM rs ns ch)[i]?=some (gd rs c,(nx rs c).map (ix ns ch)):=by
 unfold minM
 rw[List.getElem?_map,h]
 rfl
theorem min_good (G:Good many rs)(B:LB rs many ns ch ch.length):Good many (minM rs ns ch):=by
 have l0:0<ch.length:=(List.getElem?_eq_some_iff.mp B.hd).1
 have hl:(minM rs ns ch).length=ch.length:=by unfold minM;rw[List.length_map]
 have l1:=ch_len B.nd B.ok
 have gle:=G.le
 refine⟨G.mn,by omega,by omega,fun r hr=>?_⟩
 unfold minM at hr
 obtain⟨c,hc,e⟩:=List.mem_map.mp hr
 subst e
 have cr:=B.ok c hc
 refine⟨by rw[List.length_map];exact nx_len G cr,fun n hn=>?_⟩
 obtain⟨t,ht,e⟩:=List.mem_map.mp hn
 subst e
 obtain⟨i,hi,ei⟩:=List.getElem_of_mem hc
 have q:=B.cov i c hi (by rw[<- ei];simp[hi]) t ht
 rw[hl]
 exact⟨by unfold ix;omega,ix_lt q⟩
theorem min_bi (G:Good many rs)(C:Cls rs many ns)(B:LB rs many ns ch ch.length):∀(run:List Int) (x:Int) (i:Nat) (c:Int),Inr rs x->ch[i]?=some c->kn ns x=kn ns c->Lts many run->gd rs (walkM rs x run)=gd (minM rs ns ch) (walkM (minM rs ns ch) i run)
 | [],x,i,c,hx,hc,e,_=>by
  have cr:=B.ok c (List.mem_of_getElem? hc)
  have q:=(C.iff x c hx cr).mp e [] Lts.nil
  show gd rs x=gd (minM rs ns ch) (i:Int)
  unfold gd
  rw[Int.toNat_natCast,getD_of (min_at hc)]
  exact q
 |l::run,x,i,c,hx,hc,e,hl=>by
  have cr:=B.ok c (List.mem_of_getElem? hc)
  have l0:=hl.head.1
  have l1:=hl.head.2
  have nxl:=nx_len G cr
  have q:=((C.iff x c hx cr).mp e).next l0 l1
  have hx':=next_in G hx.1 hx.2 l0 l1
  have hc':=next_in G cr.1 cr.2 l0 l1
  have e':kn ns (nextOf rs x l)=kn ns (nextOf rs c l):=(C.iff _ _ hx' hc').mpr q
  have hin:i<ch.length:=(List.getElem?_eq_some_iff.mp hc).1
  obtain⟨t,et⟩:=some_at (nx rs c) l l0 (by omega)
  have ent:nextOf rs c l=t:=by rw[nextOf_nx,getD_of et]
  have hm:=B.cov i c hin hc t (List.mem_of_getElem? et)
  have en:nextOf (minM rs ns ch) i l=ix ns ch t:=by
   rw[nextOf_nx]
   unfold nx
   rw[Int.toNat_natCast,getD_of (min_at hc)]
   exact getD_of (by rw[List.getElem?_map,et];rfl)
  obtain⟨c2,g1,g2⟩:=ix_at hm
  have ih:=min_bi G C B run (nextOf rs x l) (ix ns ch t).toNat c2 hx' g1 (by rw[e',ent,g2]) hl.tail
  show gd rs (walkM rs (nextOf rs x l) run)=gd (minM rs ns ch) (walkM (minM rs ns ch) (nextOf (minM rs ns ch) i l) run)
  rw[en,ih]
  have:(((ix ns ch t).toNat:Nat):Int)=ix ns ch t:=by unfold ix;omega
  rw[this]
theorem min_whole (G:Good many rs)(C:Cls rs many ns)(B:LB rs many ns ch ch.length):Bi rs (minM rs ns ch) many 0 0:=fun run hr=>by
 have:=G.pos
 exact min_bi G C B run 0 0 0 ⟨Int.le_refl 0,by omega⟩ B.hd rfl hr
end
end K23
namespace K23
open PySem L2 K20 K21 K60
abbrev Pr:=Int×Int
def sc (r1 r2:Rms)(p:Pr)(l:Int):Pr:=(nextOf r1 p.1 l,nextOf r2 p.2 l)
end K23
namespace K23
open PySem L2 K20 K21 K60
structure FI (rs:Rms)(ns:List Int)(i:Nat)(xs:List (KP×Addr×V))(ms:List Int):Prop where
 ml:ms.length=i
 xl:xs.length<=i
 vl:∀(k:Nat) (x:KP×Addr×V),xs[k]?=some x->x.2.2=.int (k:Int)
 nd:(xs.map (·.1)).Nodup
 at':∀a:Nat,a<i->∃(k:Nat) (x:KP×Addr×V),xs[k]?=some x/\x.1=mark rs ns (a:Int)/\ms[a]?=some (k:Int)
theorem atP_some {k:KP}{u:V}:∀{xs:List (KP×Addr×V)},atP xs k=some u->∃(j:Nat) (x:KP×Addr×V),xs[j]?=some x/\x.1=k/\u=x.2.2
 | [],h=>by cases h
 |p::ps,h=>by
  by_cases e:p.1=k
  ·have c:atP (p::ps) k=some p.2.2:=by simp[atP,List.find?_cons,e]
   rw[c] at h
   cases h
   exact⟨0,p,rfl,e,rfl⟩
  ·have c:atP (p::ps) k=atP ps k:=by simp[atP,List.find?_cons,e]
   rw[c] at h
   obtain⟨j,x,h1,h2⟩:=atP_some h
   exact⟨j+1,x,by simpa using h1,h2⟩
theorem atP_none {k:KP}:∀{xs:List (KP×Addr×V)},atP xs k=none->k∉xs.map (·.1)
 | [],_=>by simp
 |p::ps,h=>by
  by_cases e:p.1=k
  ·have c:atP (p::ps) k=some p.2.2:=by simp[atP,List.find?_cons,e]
   rw[c] at h
   cases h
  ·have c:atP (p::ps) k=atP ps k:=by simp[atP,List.find?_cons,e]
   rw[c] at h
   have:=atP_none h
   rw[List.map_cons,List.mem_cons,not_or]
   exact⟨fun z=>e z.symm,this⟩
theorem FI.old {rs:Rms}{ns:List Int}{i:Nat}{xs:List (KP×Addr×V)}{ms:List Int}{j:Nat}{x:KP×Addr×V}(F:FI rs ns i xs ms)(h:xs[j]?=some x)(e:x.1=mark rs ns i):FI rs ns (i+1) xs (ms++[(j:Int)]):=by
 refine⟨by rw[List.length_append,F.ml];rfl,by have:=F.xl;omega,F.vl,F.nd,fun a ha=>?_⟩
 by_cases hl:a<i
 ·obtain⟨k,x,h1,h2,h3⟩:=F.at' a hl
  exact⟨k,x,h1,h2,by rw[List.getElem?_append_left (by rw[F.ml];exact hl)];exact h3⟩
 ·have ea:a=i:=by omega
  subst ea
  refine⟨j,x,h,e,?_⟩
  rw[List.getElem?_append_right (by rw[F.ml];exact Nat.le_refl _),F.ml,Nat.sub_self]
  rfl
theorem FI.new {rs:Rms}{ns:List Int}{i:Nat}{xs:List (KP×Addr×V)}{ms:List Int}{b:Addr}(F:FI rs ns i xs ms)(h:mark rs ns i∉xs.map (·.1)):FI rs ns (i+1) (xs++[(mark rs ns i,b,.int xs.length)]) (ms++[(xs.length:Int)]):=by
 have lt:∀{k:Nat} {x:KP×Addr×V},xs[k]?=some x->(xs++[(mark rs ns i,b,V.int xs.length)])[k]?=some x:=fun {k x} h=>by
  rw[List.getElem?_append_left (List.getElem?_eq_some_iff.mp h).1]
  exact h
 have last:(xs++[(mark rs ns i,b,V.int xs.length)])[xs.length]?=some (mark rs ns i,b,V.int xs.length):=by
  rw[List.getElem?_append_right (Nat.le_refl _),Nat.sub_self]
  rfl
 refine⟨by rw[List.length_append,F.ml];rfl,by have:=F.xl;rw[List.length_append,List.length_singleton];omega,fun k x hk=>?_,?_,fun a ha=>?_⟩
 ·by_cases hl:k<xs.length
  ·rw[List.getElem?_append_left hl] at hk
   exact F.vl k x hk
  ·have hk2:=(List.getElem?_eq_some_iff.mp hk).1
   rw[List.length_append,List.length_singleton] at hk2
   have ek:k=xs.length:=by omega
   subst ek
   rw[last] at hk
   cases hk
   rfl
 ·rw[List.map_append,List.nodup_append]
  refine⟨F.nd,by simp,fun p hp q hq=>?_⟩
  have:q=mark rs ns i:=by simpa using hq
  subst this
  intro z
  subst z
  exact h hp
 ·by_cases hl:a<i
  ·obtain⟨k,x,h1,h2,h3⟩:=F.at' a hl
   exact⟨k,x,lt h1,h2,by rw[List.getElem?_append_left (by rw[F.ml];exact hl)];exact h3⟩
  ·have ea:a=i:=by omega
   subst ea
   refine⟨xs.length,_,last,rfl,?_⟩
   rw[List.getElem?_append_right (by rw[F.ml];exact Nat.le_refl _),F.ml,Nat.sub_self]
   rfl
theorem FI.fine {rs:Rms}{ns:List Int}{xs:List (KP×Addr×V)}{ms:List Int}(F:FI rs ns rs.length xs ms):Fine rs ns ms:=by
 refine⟨F.ml,fun x y hx hy=>?_⟩
 obtain⟨k,p,h1,h2,h3⟩:=F.at' x.toNat (by have:=hx.1;have:=hx.2;omega)
 obtain⟨j,q,g1,g2,g3⟩:=F.at' y.toNat (by have:=hy.1;have:=hy.2;omega)
 have ex:((x.toNat:Nat):Int)=x:=by have:=hx.1;omega
 have ey:((y.toNat:Nat):Int)=y:=by have:=hy.1;omega
 rw[ex] at h2
 rw[ey] at g2
 have e1:kn ms x=(k:Int):=getD_of h3
 have e2:kn ms y=(j:Int):=getD_of g3
 rw[e1,e2,<- h2,<- g2]
 constructor
 ·intro e
  have:k=j:=by omega
  subst this
  rw[h1] at g1
  cases g1
  rfl
 ·intro e
  obtain⟨a1,b1⟩:=List.getElem?_eq_some_iff.mp h1
  obtain⟨a2,b2⟩:=List.getElem?_eq_some_iff.mp g1
  have:k=j:=(List.getElem_inj (xs:=xs.map (·.1)) (h₀:=by rw[List.length_map];exact a1) (h₁:=by rw[List.length_map];exact a2) F.nd).mp (by rw[List.getElem_map,List.getElem_map,b1,b2,e])
  rw[this]
def spFk:Sp:=fun vs H Q _=>∃(p c:Addr) (qs:List Addr) (many:Int) (rs:Rms) (ks:List V) (ns:List Int),vs=[.ref p,.ref c]/\H p=some (.tup (qs.map V.ref))/\RowsAt H qs rs/\Good many rs/\H c=some (.lst ks)/\Nums ks ns/\ns.length=rs.length∧
 ∀(l:Addr) (ms:List Int) (H':Hp),Same H H'->H l=none->H' l=some (.lst (ms.map V.int))->Fine rs ns ms->Q (.ref l) H'
section
variable {P:Program} {w:World} {K:W.Frag} {mg:Str->Option Value} {base:Heap}
theorem scFk:FnScope ["rooms","kinds","numbers","found","room","kind","mark"] ["rooms","kinds"] (defScope sFk):=.of (by decide +kernel)
def scopeFk:Scope:=⟨.function,[(".0",.local),("there",.local),("kinds",.free)],false,false,[]⟩
theorem scFk1:BlkScope (defScope sFk) ["rooms","kinds","numbers","found","room","kind","mark"] ["there"] ["kinds"] [1] scopeFk:=.of (by decide +kernel)
theorem ok_fk (F:Fun K "finer_kinds" "finer_kinds" sFk f fd)(T:Txt mg):FnOk P w K mg base CX0 1 f fd ["rooms","kinds"] spFk:=by
 refine F.ok scFk (fun vs H Q E h=>?_) (fun cdv A outer s H vs Q E hr h=>?_)
 ·obtain⟨p,c,qs,many,rs,ks,ns,rfl,_⟩:=h
  rfl
 ·obtain⟨p,c,qs,many,rs,ks,ns,rfl,hp,hR,G,hc,hN,hnl,k⟩:=h
  have gle:=G.le
  refine⟨_,pss_cons (ps_set (i:=2) scFk.nd rfl (Or.inl rfl) pe_pnew)
   (pss_cons (ps_set (i:=3) scFk.nd rfl (Or.inl rfl) (pe_lst pa_nil))
   (pss_cons (ps_for PassesOwn.never rfl (pi_zipg true false rfl T.zip (pa_cons (pv 0) (pa_cons (pv 1) pa_nil))) (pg_tup (n:=2) rfl (pgs_cons (pg_name (i:=4) scFk.nd rfl (Or.inl rfl)) (pgs_cons (pg_name (i:=5) scFk.nd rfl (Or.inl rfl)) pgs_nil)))
    (pss_cons (ps_set (i:=6) scFk.nd rfl (Or.inl rfl) (pe_tup (pa_cons (pv 5) (pa_cons (pe_callTy call_tuple_of (by rfl) T.tuple PyProof.Rows.boot_tuple (pa_cons (pe_lc scFk1 rfl rfl rfl (pi_tup (pe_ix ix_tup (pv 4) pe_int (fun _ _=>rfl))) (fun fp C s1 H1=>pg_name (i:=0) scFk1.nd rfl (Or.inl rfl)) (fun fp C s1 H1=>pts_nil) (fun fp C s1 H1=>pe_ix (r:=rIxL K) ix_list (pv 1) (pv 0) (fun _ _=>rfl))) pa_nil)) pa_nil))))
    (pss_one (ps_expr (pe_bm PySem.F.plainAttrs_list PySem.F.slot_list_append PySem.F.type_list_append mt_append (pv 3) (pa_cons (pe_setdef (Nat.lt_of_le_of_lt (Nat.add_le_add_left (by decide:2<=64) _) hr.units) (pv 2) (pv 6) (pe_callB call_lenP (by rfl) T.len PySem.boot_len (pa_cons (pv 2) pa_nil)) ⟨rfl,rfl,rfl,rfl⟩) pa_nil))))))
   (pss_one (ps_ret (pv 3))))),?_⟩
  intro dn hdn
  refine⟨Nat.zero_le _,fun l hl=>?_⟩
  have ndl:dn≠l:=fun e=>by rw[e,upd_same] at hl;cases hl
  have hlH:H l=none:=by rw[upd_ne (Ne.symm ndl)] at hl;exact hl
  have s0:Same H (upd (upd H dn (PD P w dn [])) l (.lst [])):=((Same.refl H).upd_free hdn).upd_free hlH
  refine⟨_,rfl,_,rfl,p,c,rfl,⟨_,SqT.of (s0 _ _ hp)⟩,⟨_,SqL.of (s0 _ _ hc)⟩,?_⟩
  have hql:(qs.map V.ref).length=rs.length:=by rw[List.length_map];exact hR.1
  have hkl:ks.length=rs.length:=by rw[hN.length,hnl]
  refine for_zipg (K:=K) (t:=true) (u:=false) (a:=p) (b:=c) (xs:=qs.map V.ref) (ys:=ks) (by omega) (fun i σ H2=>∃(xs:List (KP×Addr×V)) (ms:List Int) (v4 v5 v6:Option V),σ=[some (.ref p),some (.ref c),some (.ref dn),some (.ref l),v4,v5,v6]/\Same H H2/\H2 dn=some (PD P w dn xs)/\PKs H2 xs/\H2 l=some (.lst (ms.map V.int))/\FI rs ns i xs ms)
   ⟨[],[],none,none,none,rfl,s0,by rw[upd_ne ndl,upd_same];rfl,fun x hx=>(by cases hx),upd_same,⟨rfl,Nat.le_refl _,fun k x h=>by simp at h,by simp,fun a ha=>by omega⟩⟩ (fun i σ H2 _ ⟨_,_,_,_,_,_,s2,_⟩=>⟨SqT.of (s2 _ _ hp),SqL.of (s2 _ _ hc)⟩) ?_ ?_
  ·rintro i x y σ H2 pt hx hy ⟨xs,ms,v4,v5,v6,rfl,s2,hD,hPK,hL,FIi⟩ hpt
   have hi:i<rs.length:=by
    have:=(List.getElem?_eq_some_iff.mp hx).1
    omega
   obtain⟨r,er⟩:∃r,rs[i]?=some r:=⟨rs[i],by simp[hi]⟩
   obtain⟨q,z,e1,e2,e3⟩:=hR.2 i r er
   rw[List.getElem?_map,e1] at hx
   cases hx
   obtain⟨n,en⟩:∃n,ns[i]?=some n:=⟨ns[i]'(by omega),by simp⟩
   obtain⟨y',ey,ny⟩:=hN.get en
   rw[ey] at hy
   cases hy
   have sp:Same H2 (upd H2 pt (.tup [.ref q,y])):=(Same.refl H2).upd_free hpt
   have t2:Same H (upd H2 pt (.tup [.ref q,y])):=s2.trans sp
   have hrow:=G.row r (List.mem_of_getElem? er)
   have gmn:=G.mn
   refine⟨pt,_,rfl,SqT.of upd_same,rfl,_,_,rfl,_,_,rfl,rfl,?_⟩
   refine⟨_,rfl,_,rfl,q,_,_,_,rfl,rfl,SqT.of (t2 _ _ e2),rfl,z,rfl,⟨_,SqT.of (t2 _ _ e3)⟩,fun D hD0=>?_⟩
   have sD:Same (upd H2 pt (.tup [.ref q,y])) (upd (upd H2 pt (.tup [.ref q,y])) D (.lst [])):=(Same.refl _).upd_free hD0
   refine lc_tup (K:=K) (a:=z) (xs:=r.2.map V.int) (fun j ys H3=>Same (upd H2 pt (.tup [.ref q,y])) H3/\H3 D=some (.lst ys)/\ys.length=j/\Nums ys ((r.2.take j).map (kn ns))) (Nat.le_of_lt (small1000 (by rw[List.length_map];omega)))
    ⟨sD,upd_same,rfl,rfl⟩ (fun j ys H3 h=>Nat.le_of_eq h.2.2.1) (fun j ys H3 h=>SqT.of (h.1 _ _ (t2 _ _ e3))) ?_ ?_
   ·rintro j ys H3 x N M hx ⟨u1,u2,u3,u4⟩ hN' hM
    rw[List.getElem?_map] at hx
    cases et:r.2[j]? with
    |none=>rw[et] at hx;cases hx
    |some t=>
     rw[et] at hx
     cases hx
     have ht:=hrow.2 t (List.mem_of_getElem? et)
     obtain⟨nt,ent⟩:=some_at ns t ht.1 (by rw[hnl];exact ht.2)
     obtain⟨kt,ekt,nkt⟩:=hN.get ent
     refine⟨_,rfl,_,rfl,c,_,_,_,rfl,rfl,SqL.of (u1 _ _ (t2 _ _ hc)),atI_int ht.1 ekt,?_⟩
     refine hN' _ H3 u2 ⟨u1.upd_free hD0,upd_same,by rw[List.length_append,List.length_singleton,u3],?_⟩
     rw[List.take_add_one,et,List.map_append]
     refine u4.snoc ?_
     rw[nkt]
     exact congrArg some (getD_of ent).symm
   ·rintro ys H3 ⟨u1,u2,u3,u4⟩
    rw[List.length_map,List.take_of_length_le (Nat.le_refl _)] at u4
    refine⟨D,_,rfl,.inl ⟨SqL.of u2,fun zt hzt=>?_⟩⟩
    refine⟨(by show 2<=sizeLine;decide),fun mq hmq=>?_⟩
    have nzm:zt≠mq:=fun e=>by rw[e,upd_same] at hmq;cases hmq
    have hmq3:H3 mq=none:=by rw[upd_ne (Ne.symm nzm)] at hmq;exact hmq
    generalize hH4:upd (upd H3 zt (.tup ys)) mq (.tup [y,.ref zt])=H4
    have s34:Same H3 H4:=by rw[<- hH4];exact((Same.refl H3).upd_free hzt).upd_free hmq3
    have s24:Same H2 H4:=(sp.trans u1).trans s34
    have kP:PKy H4 (mark rs ns i) mq:=by
     refine⟨y,zt,ys,by rw[<- hH4];exact upd_same,?_,by rw[<- hH4,upd_ne nzm];exact upd_same,?_⟩
     ·rw[ny]
      show some n=some (ns.getD ((i:Int)).toNat 0)
      rw[Int.toNat_natCast,getD_of en]
     ·show Nums ys ((nx rs i).map (kn ns))
      unfold nx
      rw[Int.toNat_natCast,getD_of er]
      exact u4
    have hPK4:PKs H4 xs:=fun x hx=>(hPK x hx).same s24.tups
    have hxl:=FIi.xl
    refine⟨_,rfl,.inl ⟨rfl,_,SqL.of (s24 _ _ hL)⟩,_,rfl,dn,xs,rfl,s24 _ _ hD,hPK4,_,rfl,_,rfl,dn,xs,rfl,s24 _ _ hD,hPK4,xs,mq,mark rs ns i,rfl,s24 _ _ hD,hPK4,kP,small1000 (by omega),fun u hu=>?_,fun hn=>?_⟩
    ·obtain⟨j,x,g1,g2,g3⟩:=atP_some hu
     have gv:=FIi.vl j x g1
     refine⟨l,_,_,rfl,rfl,s24 _ _ hL,small1000 (by rw[List.length_map,FIi.ml];omega),?_⟩
     refine⟨xs,ms++[(j:Int)],_,_,_,rfl,(s2.trans s24).upd_free hlH,?_,fun x hx=>(hPK4 x hx).same fun c' ys' ec=>?_,?_,FIi.old g1 g2⟩
     ·rw[upd_ne ndl]
      exact s24 _ _ hD
     ·rw[upd_ne (ne_of ec (s24 _ _ hL) (fun z=>nomatch z))]
      exact ec
     ·rw[upd_same,g3,gv,List.map_append]
      rfl
    ·have hno:=atP_none hn
     have hL4:(upd H4 dn (PD P w dn (xs++[(mark rs ns i,mq,V.int xs.length)]))) l=some (.lst (ms.map V.int)):=by
      rw[upd_ne (Ne.symm ndl)]
      exact s24 _ _ hL
     refine⟨l,_,_,rfl,rfl,hL4,small1000 (by rw[List.length_map,FIi.ml];omega),?_⟩
     refine⟨_,ms++[(xs.length:Int)],_,_,_,rfl,((s2.trans s24).upd_free hdn).upd_free hlH,by rw[upd_ne ndl,upd_same];rfl,?_,by rw[upd_same,List.map_append];rfl,FIi.new (b:=mq) hno⟩
     have tt:∀c' ys',H4 c'=some (.tup ys')->(upd (upd H4 dn (PD P w dn (xs++[(mark rs ns i,mq,V.int xs.length)]))) l (.lst (ms.map V.int++[V.int xs.length]))) c'=some (.tup ys'):=fun c' ys' ec=>by
      rw[upd_ne (ne_of ec (s24 _ _ hL) (fun z=>nomatch z)),upd_ne (ne_of ec (s24 _ _ hD) (fun z=>nomatch z))]
      exact ec
     intro x hx
     rcases List.mem_append.mp hx with hx|hx
     ·exact(hPK4 x hx).same tt
     ·rw[List.mem_singleton] at hx
      subst hx
      exact kP.same tt
  ·rintro σ H2 ⟨xs,ms,v4,v5,v6,rfl,s2,hD,hPK,hL,FIi⟩
   rw[hql] at FIi
   exact⟨_,rfl,k l ms H2 s2 hlH hL FIi.fine⟩
end
end K23
namespace K23
open PySem L2 K20 K21 K60
theorem atI_last {xs:List V}{x:V}(h:xs[xs.length-1]?=some x):atI xs (-1)=some x:=by
 have hl:=(List.getElem?_eq_some_iff.mp h).1
 unfold atI ixN
 rw[if_neg (by omega),if_pos (by omega)]
 rw[show(-1+(xs.length:Int)).toNat=xs.length-1 by omega]
 exact h
theorem call_setNP {X:Cx}(P:Program)(w:World)(hP:X.prog=P)(hw:X.w=w)(hc:X.calm=true):CallR X (.type "set") (fun xs H Q=>∃p vs ns,xs=[.ref p]/\SqL X.K H p vs/\Nums vs ns/\ns.length<=1000/\∀a,H a=none->Q (.ref a) (upd H a (NS P w a (inI ns) (manyI ns)))):=by
 subst hP hw
 exact call_setN hc
theorem call_lenNSP {X:Cx}(P:Program)(w:World)(hP:X.prog=P)(hw:X.w=w):CallR X (.builtin "len") (fun xs H Q=>∃a S n,xs=[V.ref a]/\H a=some (NS P w a S n)/\Q (.int n) H):=by
 subst hP hw
 exact call_lenNS
def Uni (ks:List V):Prop:=(∀x∈ks,∃b,x=V.bl b)\/∀x∈ks,∃i,x=V.int i
theorem ints_uni (ms:List Int):Uni (ms.map V.int):=.inr fun x hx=>by
 obtain⟨i,_,e⟩:=List.mem_map.mp hx
 exact⟨i,e.symm⟩
def Lvs (H:Hp)(rs:Rms)(many:Int)(cs:List Addr):Prop:=∀(i:Nat) (c:Addr),cs[i]?=some c->∃ks ns,H c=some (.lst ks)/\Nums ks ns/\Lev rs many i ns/\Uni ks
theorem Lvs.same {H H':Hp}{rs:Rms}{many:Int}{cs:List Addr}(h:Lvs H rs many cs)(s:Same H H'):Lvs H' rs many cs:=fun i c e=>by
 obtain⟨ks,ns,h1,h2,h3⟩:=h i c e
 exact⟨ks,ns,s _ _ h1,h2,h3⟩
def spKl:Sp:=fun vs H Q _=>∃(p:Addr) (qs:List Addr) (many:Int) (rs:Rms),vs=[.ref p]/\H p=some (.tup (qs.map V.ref))/\RowsAt H qs rs/\Good many rs∧
 ∀(l:Addr) (cs:List Addr) (H':Hp),Same H H'->H' l=some (.lst (cs.map V.ref))->Lvs H' rs many cs->(0<cs.length/\cs.length<=rs.length)->(∀x y,Inr rs x->Inr rs y->Eqk rs many (cs.length-1) x y->Eqk rs many (cs.length-1+1) x y)->Q (.ref l) H'
theorem truths_lev {rs:Rms}{many:Int}:Lev rs many 0 (rs.map fun r=>if r.1 then(1:Int) else 0):=by
 refine⟨List.length_map _,fun x y hx hy=>?_⟩
 rw[eqk_zero]
 obtain⟨r,er⟩:=some_at rs x hx.1 hx.2
 obtain⟨r',er'⟩:=some_at rs y hy.1 hy.2
 unfold kn gd
 rw[getD_of (x:=if r.1 then(1:Int) else 0) (by rw[List.getElem?_map,er];rfl),getD_of (x:=if r'.1 then(1:Int) else 0) (by rw[List.getElem?_map,er'];rfl),getD_of er,getD_of er']
 cases r.1<;>cases r'.1<;>decide
section
variable {P:Program} {w:World} {K:W.Frag} {mg:Str->Option Value} {base:Heap}
theorem scKl:FnScope ["rooms","found","kinds"] ["rooms"] (defScope sKl):=.of (by decide +kernel)
def scopeKl:Scope:=⟨.function,[(".0",.local),("room",.local)],false,false,[]⟩
theorem scKl1:BlkScope (defScope sKl) ["rooms","found","kinds"] ["room"] [] [] scopeKl:=.of (by decide +kernel)
theorem ok_kl (F:Fun K "kinds_by_length" "kinds_by_length" sKl f fd)(T:Txt mg)(FF:Fun K "finer_kinds" "finer_kinds" sFk fF fdF)(bF:Binds K fdF ["rooms","kinds"] [])(gF:mg "finer_kinds"=some (.ref fF)):FnOk P w K mg base CX0 2 f fd ["rooms"] spKl:=by
 have GF:FnOk P w K mg base CX0 1 fF fdF ["rooms","kinds"] spFk:=ok_fk FF T
 refine F.ok scKl (fun vs H Q E h=>?_) (fun cdv A outer s H vs Q E hr h=>?_)
 ·obtain⟨p,qs,many,rs,rfl,_⟩:=h
  rfl
 ·obtain⟨p,qs,many,rs,rfl,hp,hR,G,k⟩:=h
  have gle:=G.le
  refine⟨_,pss_cons (ps_set (i:=1) scKl.nd rfl (Or.inl rfl) (pe_lst (pa_cons (pe_lc scKl1 rfl rfl rfl (pi_tup (pv 0)) (fun fp C s1 H1=>pg_name (i:=0) scKl1.nd rfl (Or.inl rfl)) (fun fp C s1 H1=>pts_nil) (fun fp C s1 H1=>pe_ix (r:=rIxT K) ix_tup (pv 0) pe_int (fun _ _=>rfl))) pa_nil)))
   (pss_cons (ps_set (i:=2) scKl.nd rfl (Or.inl rfl) (pe_call GF hr rfl gF FF.kp bF .nil pass0 (pa_cons (pv 0) (pa_cons (pe_ix ix_list (pv 1) pe_int (fun _ _=>rfl)) pa_nil))))
   (pss_cons (ps_while PassesOwn.never (pt_cmpR op_gt (pe_callB (call_lenNSP P w rfl rfl) (by rfl) T.len PySem.boot_len (pa_cons (pe_callTy (call_setNP P w rfl rfl rfl) (by rfl) T.set PyProof.Rows.boot_set (pa_cons (pv 2) pa_nil)) pa_nil))
     (pe_callB (call_lenNSP P w rfl rfl) (by rfl) T.len PySem.boot_len (pa_cons (pe_callTy (call_setNP P w rfl rfl rfl) (by rfl) T.set PyProof.Rows.boot_set (pa_cons (pe_ix ix_list (pv 1) (pe_un un_neg pe_int) (fun _ _=>rfl)) pa_nil)) pa_nil)) (nomark _))
    (pss_cons (ps_expr (pe_bm PySem.F.plainAttrs_list PySem.F.slot_list_append PySem.F.type_list_append mt_append (pv 1) (pa_cons (pv 2) pa_nil)))
    (pss_one (ps_set (i:=2) scKl.nd rfl (Or.inl rfl) (pe_call GF hr rfl gF FF.kp bF .nil pass0 (pa_cons (pv 0) (pa_cons (pv 2) pa_nil)))))))
   (pss_one (ps_ret (pv 1))))),?_⟩
  have hql:(qs.map V.ref).length=rs.length:=by rw[List.length_map];exact hR.1
  refine⟨_,rfl,p,rfl,⟨_,SqT.of hp⟩,fun D hD=>?_⟩
  refine lc_tup (K:=K) (a:=p) (xs:=qs.map V.ref) (fun j ys H3=>Same H H3/\H3 D=some (.lst ys)/\ys.length=j/\Nums ys ((rs.take j).map fun r=>if r.1 then(1:Int) else 0)/\∀x∈ys,∃b,x=V.bl b) (Nat.le_of_lt (small1000 (by omega)))
   ⟨(Same.refl H).upd_free hD,upd_same,rfl,rfl,fun x hx=>by cases hx⟩ (fun j ys H3 h=>Nat.le_of_eq h.2.2.1) (fun j ys H3 h=>SqT.of (h.1 _ _ hp)) ?_ ?_
  ·rintro j ys H3 x N M hx ⟨u1,u2,u3,u4,u5⟩ hN' hM
   have hj:j<rs.length:=by
    have:=(List.getElem?_eq_some_iff.mp hx).1
    omega
   obtain⟨r,er⟩:∃r,rs[j]?=some r:=⟨rs[j],by simp[hj]⟩
   obtain⟨q,z,e1,e2,e3⟩:=hR.2 j r er
   rw[List.getElem?_map,e1] at hx
   cases hx
   refine⟨_,rfl,q,_,_,_,rfl,rfl,SqT.of (u1 _ _ e2),rfl,?_⟩
   refine hN' _ H3 u2 ⟨u1.upd_free hD,upd_same,by rw[List.length_append,List.length_singleton,u3],?_,fun v hv=>?_⟩
   ·rw[List.take_add_one,er,List.map_append]
    exact u4.snoc rfl
   ·rcases List.mem_append.mp hv with hv|hv
    ·exact u5 v hv
    ·exact⟨_,List.mem_singleton.mp hv⟩
  rintro ks0 H1 ⟨s1,hD1,hl0,hN0,hU0⟩
  rw[hql,List.take_of_length_le (Nat.le_refl _)] at hN0
  have L0:Lev rs many 0 (rs.map fun r=>if r.1 then(1:Int) else 0):=truths_lev
  refine⟨(by show 1<=sizeLine;decide),fun l hl=>?_⟩
  have nDl:D≠l:=ne_of_none hD1 hl
  have hlH:H l=none:=s1.free hl
  have s2:Same H (upd H1 l (.lst [.ref D])):=s1.upd_free hlH
  have hD2:(upd H1 l (.lst [.ref D])) D=some (.lst ks0):=by rw[upd_ne nDl];exact hD1
  refine⟨_,rfl,_,rfl,l,_,_,_,rfl,rfl,SqL.of upd_same,rfl,?_⟩
  refine⟨p,D,qs,many,rs,ks0,_,rfl,s2 _ _ hp,hR.same s2,G,hD2,hN0,List.length_map _,fun kr ms H2 s3 hkr hK FN=>?_⟩
  have nkl:l≠kr:=fun e=>by rw[<- e,upd_same] at hkr;cases hkr
  refine⟨fun mm σ H3=>∃(cs:List Addr) (kr c:Addr) (ms ns:List Int) (ks:List V),σ=[some (.ref p),some (.ref l),some (.ref kr)]/\mm=rs.length+1-manyI ns/\Same H H3/\H3 l=some (.lst (cs.map V.ref))/\Lvs H3 rs many cs/\(∀(i:Nat) (c:Addr),cs[i]?=some c->c≠l)/\l≠kr∧
    cs[cs.length-1]?=some c/\cs.length<=manyI ns/\H3 c=some (.lst ks)/\Nums ks ns/\Lev rs many (cs.length-1) ns/\H3 kr=some (.lst (ms.map V.int))/\Lev rs many (cs.length-1+1) ms,
   ⟨_,[D],kr,D,ms,_,ks0,rfl,rfl,s2.trans s3,s3 _ _ upd_same,fun i c e=>?_,fun i c e=>?_,nkl,rfl,?_,s3 _ _ hD2,hN0,L0,hK,FN.lev G L0⟩,?_⟩
  ·cases i with
   |zero=>cases e;exact⟨ks0,_,s3 _ _ hD2,hN0,L0,.inl hU0⟩
   |succ i=>simp at e
  ·cases i with
   |zero=>cases e;exact nDl
   |succ i=>simp at e
  ·show 1<=_
   obtain⟨la,_,ma,ea⟩:=many_spec (rs.map fun r=>if r.1 then(1:Int) else 0)
   rw[ea]
   have hp0:=G.pos
   obtain⟨r,er⟩:∃r,rs[0]?=some r:=⟨rs[0],by simp[hp0]⟩
   exact List.length_pos_of_mem ((ma (if r.1 then(1:Int) else 0)).mpr (List.mem_of_getElem? (i:=0) (by rw[List.getElem?_map,er];rfl)))
  rintro mm σ H3 ⟨cs,kr,c,ms,ns,ks,rfl,rfl,t3,hL,LV,nl,nk,hc,cl0,hC,hN,Lc,hK,Lm⟩
  have nlen:=Lc.len
  have mlen:=Lm.len
  have mle:=many_le ns
  have cpos:0<cs.length:=by have:=(List.getElem?_eq_some_iff.mp hc).1;omega
  refine⟨_,rfl,kr,_,ms,rfl,SqL.of hK,nums_ints ms,by omega,fun a1 h1=>?_⟩
  have w1:Same H3 (upd H3 a1 (NS P w a1 (inI ms) (manyI ms))):=(Same.refl H3).upd_free h1
  refine⟨a1,_,_,rfl,upd_same,_,rfl,_,rfl,l,_,_,_,rfl,rfl,SqL.of (w1 _ _ hL),atI_last (by rw[List.length_map,List.getElem?_map,hc];rfl),c,ks,ns,rfl,SqL.of (w1 _ _ hC),hN,by omega,fun a2 h2=>?_⟩
  have w2:Same H3 (upd (upd H3 a1 (NS P w a1 (inI ms) (manyI ms))) a2 (NS P w a2 (inI ns) (manyI ns))):=w1.upd_free (w1.free h2)
  refine⟨a2,_,_,rfl,upd_same,_,_,rfl,rfl,_,rfl,?_⟩
  generalize hH4:upd (upd H3 a1 (NS P w a1 (inI ms) (manyI ms))) a2 (NS P w a2 (inI ns) (manyI ns))=H4 at w2
  refine ite2 (fun hgt=>?_) (fun hle=>?_)
  ·have hgt':manyI ns<manyI ms:=by have:=of_decide_eq_true hgt;omega
   refine⟨fun σ' H'=>∃m',m'<rs.length+1-manyI ns/\∃(cs:List Addr) (kr c:Addr) (ms ns:List Int) (ks:List V),σ'=[some (.ref p),some (.ref l),some (.ref kr)]/\m'=rs.length+1-manyI ns/\Same H H'/\H' l=some (.lst (cs.map V.ref))/\Lvs H' rs many cs/\(∀(i:Nat) (c:Addr),cs[i]?=some c->c≠l)/\l≠kr∧
    cs[cs.length-1]?=some c/\cs.length<=manyI ns/\H' c=some (.lst ks)/\Nums ks ns/\Lev rs many (cs.length-1) ns/\H' kr=some (.lst (ms.map V.int))/\Lev rs many (cs.length-1+1) ms,fun σ' H' z=>z,?_⟩
   refine⟨_,rfl,.inl ⟨rfl,_,SqL.of (w2 _ _ hL)⟩,_,rfl,l,_,_,rfl,rfl,w2 _ _ hL,small1000 (by rw[List.length_map];omega),?_⟩
   generalize hH5:upd H4 l (.lst (cs.map V.ref++[.ref kr]))=H5
   have t5:Same H H5:=by rw[<- hH5];exact(t3.trans w2).upd_free hlH
   have hL5:H5 l=some (.lst ((cs++[kr]).map V.ref)):=by rw[<- hH5,upd_same,List.map_append];rfl
   have hK5:H5 kr=some (.lst (ms.map V.int)):=by rw[<- hH5,upd_ne (Ne.symm nk)];exact w2 _ _ hK
   have mle2:=many_le ms
   refine⟨_,rfl,_,rfl,p,kr,qs,many,rs,_,ms,rfl,t5 _ _ hp,hR.same t5,G,hK5,nums_ints ms,mlen,fun kr' ms' H6 s6 hkr' hK' FN'=>?_⟩
   have el:(cs++[kr]).length-1=cs.length:=by rw[List.length_append,List.length_singleton];omega
   have el2:cs.length-1+1=cs.length:=by omega
   rw[el2] at Lm
   refine⟨rs.length+1-manyI ms,by omega,cs++[kr],kr',kr,ms',ms,_,rfl,rfl,t5.trans s6,s6 _ _ hL5,fun i c' e=>?_,fun i c' e=>?_,(fun e=>by rw[<- e,hL5] at hkr';cases hkr'),?_,by rw[List.length_append,List.length_singleton];omega,s6 _ _ hK5,nums_ints ms,by rw[el];exact Lm,hK',by rw[el];exact FN'.lev G Lm⟩
   ·by_cases hi:i<cs.length
    ·rw[List.getElem?_append_left hi] at e
     obtain⟨ks',ns',g1,g2,g3⟩:=LV i c' e
     refine⟨ks',ns',s6 _ _ ?_,g2,g3⟩
     rw[<- hH5,upd_ne (nl i c' e)]
     exact w2 _ _ g1
    ·have hi2:=(List.getElem?_eq_some_iff.mp e).1
     rw[List.length_append,List.length_singleton] at hi2
     have ei:i=cs.length:=by omega
     subst ei
     rw[List.getElem?_append_right (Nat.le_refl _),Nat.sub_self] at e
     cases e
     exact⟨_,ms,s6 _ _ hK5,nums_ints ms,Lm,ints_uni ms⟩
   ·by_cases hi:i<cs.length
    ·rw[List.getElem?_append_left hi] at e
     exact nl i c' e
    ·have hi2:=(List.getElem?_eq_some_iff.mp e).1
     rw[List.length_append,List.length_singleton] at hi2
     have ei:i=cs.length:=by omega
     subst ei
     rw[List.getElem?_append_right (Nat.le_refl _),Nat.sub_self] at e
     cases e
     exact Ne.symm nk
   ·rw[el,List.getElem?_append_right (Nat.le_refl _),Nat.sub_self]
    rfl
  ·have hle':manyI ms<=manyI ns:=by
    have:¬(manyI ns:Int)<manyI ms:=fun z=>hle (decide_eq_true z)
    omega
   refine⟨_,rfl,k l cs H4 (t3.trans w2) (w2 _ _ hL) (LV.same w2) ⟨cpos,by omega⟩ fun x y hx hy e=>?_⟩
   exact stays Lc Lm hle' hx hy e
end
end K23
namespace K23
open PySem L2 K20 K21 K60
section
variable {X:Cx} {o i value:Expr} {pos pos':Pos} {td ty tv:TE}
theorem pe_ngetP (P:Program)(w:World)(hP:X.prog=P)(hw:X.w=w)(ho:PE X o td)(hi:PE X i ty)(hs:NoSl i):PE X (.Subscript o i pos) (tNGet P w td ty):=by
 subst hP hw
 exact pe_nget ho hi hs
theorem pc_nnotinP (P:Program)(w:World)(hP:X.prog=P)(hw:X.w=w)(hi:PE X i ty)(ho:PE X o td):PC X .NotIn i o (tNNotIn P w ty td):=by
 subst hP hw
 exact pc_nnotin hi ho
theorem ps_nputP (P:Program)(w:World)(hP:X.prog=P)(hw:X.w=w)(ho:PE X o td)(hi:PE X i ty)(hv:PE X value tv)(hs:swapsWith value (some (.Subscript o i pos')) pos.line X.env=pure false):PS X (.Assign [.Subscript o i pos'] value pos) (sNPut P w td ty tv):=by
 subst hP hw
 exact ps_nput ho hi hv hs
theorem pe_ndispP (P:Program)(w:World)(hP:X.prog=P)(hw:X.w=w){ke ve:Expr}(h:PE X ke ty)(hv:PE X ve tv):PE X (.Dict [some ke] [ve] pos) (tNDisp P w ty tv):=by
 subst hP hw
 exact pe_ndisp h hv
end
def kvF:Nat->List Int->List (Int×V)
 |_,[]=>[]
 |n,k::l=>(k,V.int (n:Int))::kvF (n+1) l
theorem kvF_len:∀(l:List Int) (n:Nat),(kvF n l).length=l.length
 | [],_=>rfl
 |k::l,n=>by simp only[kvF,List.length_cons,kvF_len l (n+1)]
theorem kvF_none (k:Int):∀(l:List Int) (n:Nat),k∉l->valV (kvF n l) k=none
 | [],_,_=>rfl
 |x::l,n,h=>by
  rw[List.mem_cons,not_or] at h
  show valV ((x,V.int (n:Int))::kvF (n+1) l) k=none
  rw[valV_neg (fun z=>h.1 z.symm)]
  exact kvF_none k l (n+1) h.2
theorem kvF_some (k:Int):∀(l:List Int) (n:Nat),k∈l->valV (kvF n l) k=some (.int ((n+l.idxOf k:Nat):Int))
 | [],_,h=>by cases h
 |x::l,n,h=>by
  show valV ((x,V.int (n:Int))::kvF (n+1) l) k=_
  by_cases e:x=k
  ·rw[valV_pos e,e]
   simp
  ·have hk:k∈l:=(List.mem_cons.mp h).resolve_left fun z=>e z.symm
   rw[valV_neg e,kvF_some k l (n+1) hk,List.idxOf_cons]
   have:(x==k)=false:=by simpa using e
   rw[this]
   simp only[cond_false]
   rw[show n+1+l.idxOf k=n+(l.idxOf k+1) by omega]
theorem kvF_snoc (x:Int):∀(l:List Int) (n:Nat),kvF n (l++[x])=kvF n l++[(x,.int ((n+l.length:Nat):Int))]
 | [],n=>rfl
 |y::l,n=>by
  show(y,V.int (n:Int))::kvF (n+1) (l++[x])=_
  rw[kvF_snoc x l (n+1)]
  simp only[kvF,List.cons_append,List.length_cons]
  rw[show n+1+l.length=n+(l.length+1) by omega]
theorem rows_snoc {H:Hp}{qs:List Addr}{rs:Rms}{r:Bool×List Int}{q z:Addr}(h:RowsAt H qs rs)(h1:H q=some (.tup [.bl r.1,.ref z]))(h2:H z=some (.tup (r.2.map V.int))):RowsAt H (qs++[q]) (rs++[r]):=by
 refine⟨by rw[List.length_append,List.length_append,h.1];rfl,fun i r' er=>?_⟩
 by_cases hlt:i<rs.length
 ·rw[List.getElem?_append_left hlt] at er
  obtain⟨q',z',g1,g2,g3⟩:=h.2 i r' er
  exact⟨q',z',by rw[List.getElem?_append_left (by rw[h.1];exact hlt)];exact g1,g2,g3⟩
 ·have hi2:=(List.getElem?_eq_some_iff.mp er).1
  rw[List.length_append,List.length_singleton] at hi2
  have ei:i=rs.length:=by omega
  subst ei
  rw[List.getElem?_append_right (Nat.le_refl _),Nat.sub_self] at er
  cases er
  refine⟨q,z,?_,h1,h2⟩
  rw[List.getElem?_append_right (by rw[h.1];exact Nat.le_refl _),h.1,Nat.sub_self]
  rfl
theorem rows_tsame {H H':Hp}{qs:List Addr}{rs:Rms}(h:RowsAt H qs rs)(s:TSame H H'):RowsAt H' qs rs:=⟨h.1,fun i r e=>by
 obtain⟨q,z,h1,h2,h3⟩:=h.2 i r e
 exact⟨q,z,h1,s _ _ h2,s _ _ h3⟩⟩
def spMr (P:Program)(w:World):Sp:=fun vs H Q _=>∃(q c dn z:Addr) (b:Bool) (ts:List Int) (ks:List V) (ns:List Int) (kvs:List (Int×V)) (g:Int->Int),vs=[.ref q,.ref c,.ref dn]/\H q=some (.tup [.bl b,.ref z])/\H z=some (.tup (ts.map V.int))/\H c=some (.lst ks)/\Nums ks ns∧
 H dn=some (ND P w dn kvs)/\ts.length<=8/\(∀t∈ts,0<=t/\t<(ns.length:Int)/\valV kvs (kn ns t)=some (.int (g t)))∧
 ∀(m zt:Addr) (H':Hp),Same H H'->H' m=some (.tup [.bl b,.ref zt])->H' zt=some (.tup ((ts.map g).map V.int))->Q (.ref m) H'
def spLs:Sp:=fun vs H Q _=>∃(a:Addr) (many:Int) (rs:Rms),vs=[.ref a]/\MAt H a many rs/\Good many rs∧
 ∀(m:Addr) (ns ch:List Int) (H':Hp),Same H H'->MAt H' m many (minM rs ns ch)->Cls rs many ns->LB rs many ns ch ch.length->Q (.ref m) H'
section
variable {P:Program} {w:World} {K:W.Frag} {mg:Str->Option Value} {base:Heap}
theorem scMr:FnScope ["room","kinds","numbers"] ["room","kinds","numbers"] (defScope sMr):=.of (by decide +kernel)
def scopeMr:Scope:=⟨.function,[(".0",.local),("there",.local),("kinds",.free),("numbers",.free)],false,false,[]⟩
theorem scMr1:BlkScope (defScope sMr) ["room","kinds","numbers"] ["there"] ["kinds","numbers"] [1,2] scopeMr:=.of (by decide +kernel)
theorem ok_mr (F:Fun K "merged_room" "merged_room" sMr f fd)(T:Txt mg):FnOk P w K mg base CX0 1 f fd ["room","kinds","numbers"] (spMr P w):=by
 refine F.ok scMr (fun vs H Q E h=>?_) (fun cdv A outer s H vs Q E hr h=>?_)
 ·obtain⟨q,c,dn,z,b,ts,ks,ns,kvs,g,rfl,_⟩:=h
  rfl
 ·obtain⟨q,c,dn,z,b,ts,ks,ns,kvs,g,rfl,hq,hz,hc,hN,hdn,h8,hv,k⟩:=h
  refine⟨_,pss_one (ps_ret (pe_tup (pa_cons (pe_ix ix_tup (pv 0) pe_int (fun _ _=>rfl)) (pa_cons (pe_callTy call_tuple_of (by rfl) T.tuple PyProof.Rows.boot_tuple (pa_cons
   (pe_lc scMr1 rfl rfl rfl (pi_tup (pe_ix ix_tup (pv 0) pe_int (fun _ _=>rfl))) (fun fp C s1 H1=>pg_name (i:=0) scMr1.nd rfl (Or.inl rfl)) (fun fp C s1 H1=>pts_nil) (fun fp C s1 H1=>pe_ngetP P w rfl rfl (pv 2) (pe_ix (r:=rIxL K) ix_list (pv 1) (pv 0) (fun _ _=>rfl)) (fun _ _=>rfl))) pa_nil)) pa_nil)))),?_⟩
  refine⟨_,rfl,q,_,_,_,rfl,rfl,SqT.of hq,rfl,_,rfl,q,_,_,_,rfl,rfl,SqT.of hq,rfl,z,rfl,⟨_,SqT.of hz⟩,fun D hD=>?_⟩
  refine lc_tup (K:=K) (a:=z) (xs:=ts.map V.int) (fun j ys H3=>Same H H3/\H3 D=some (.lst ys)/\ys.length=j/\ys=((ts.take j).map g).map V.int) (Nat.le_of_lt (small1000 (by rw[List.length_map];omega)))
   ⟨(Same.refl H).upd_free hD,upd_same,rfl,rfl⟩ (fun j ys H3 h=>Nat.le_of_eq h.2.2.1) (fun j ys H3 h=>SqT.of (h.1 _ _ hz)) ?_ ?_
  ·rintro j ys H3 x N M hx ⟨u1,u2,u3,u4⟩ hN' hM
   rw[List.getElem?_map] at hx
   cases et:ts[j]? with
   |none=>rw[et] at hx;cases hx
   |some t=>
    rw[et] at hx
    cases hx
    have ht:=hv t (List.mem_of_getElem? et)
    obtain⟨nt,ent⟩:=some_at ns t ht.1 ht.2.1
    obtain⟨kt,ekt,nkt⟩:=hN.get ent
    have e2:kn ns t=nt:=getD_of ent
    refine⟨_,rfl,_,rfl,_,rfl,c,_,_,_,rfl,rfl,SqL.of (u1 _ _ hc),atI_int ht.1 ekt,dn,kvs,nt,_,rfl,u1 _ _ hdn,nkt,by rw[<- e2];exact ht.2.2,?_⟩
    refine hN' _ H3 u2 ⟨u1.upd_free hD,upd_same,by rw[List.length_append,List.length_singleton,u3],?_⟩
    rw[List.take_add_one,et,List.map_append,List.map_append,u4]
    rfl
  ·rintro ys H3 ⟨u1,u2,u3,u4⟩
   rw[List.length_map,List.take_of_length_le (Nat.le_refl _)] at u4
   refine⟨D,_,rfl,.inl ⟨SqL.of u2,fun zt hzt=>?_⟩⟩
   refine⟨(by show 2<=sizeLine;decide),fun m hm=>?_⟩
   have nzm:zt≠m:=fun e=>by rw[e,upd_same] at hm;cases hm
   have hm3:H3 m=none:=by rw[upd_ne (Ne.symm nzm)] at hm;exact hm
   exact k m zt _ (u1.trans (((Same.refl H3).upd_free hzt).upd_free hm3)) upd_same (by rw[upd_ne nzm,upd_same,u4])
theorem scLs:FnScope ["machine","rooms","kinds","chosen","numbers","done","here","there"] ["machine"] (defScope sLs):=.of (by decide +kernel)
def scopeLs:Scope:=⟨.function,[(".0",.local),("room",.local),("merged_room",.globalImplicit),("kinds",.free),("numbers",.free),("rooms",.free)],false,false,[]⟩
theorem scLs1:BlkScope (defScope sLs) ["machine","rooms","kinds","chosen","numbers","done","here","there"] ["room"] ["kinds","numbers","rooms"] [2,4,1] scopeLs:=.of (by decide +kernel)
theorem ok_ls (F:Fun K "least" "least" sLs f fd)(T:Txt mg)
  (FF:Fun K "finer_kinds" "finer_kinds" sFk fF fdF) (bF:Binds K fdF ["rooms","kinds"] []) (gF:mg "finer_kinds"=some (.ref fF))
  (FK:Fun K "kinds_by_length" "kinds_by_length" sKl fK fdK) (bK:Binds K fdK ["rooms"] []) (gK:mg "kinds_by_length"=some (.ref fK))
  (FM:Fun K "merged_room" "merged_room" sMr fM fdM) (bM:Binds K fdM ["room","kinds","numbers"] []) (gM:mg "merged_room"=some (.ref fM)):FnOk P w K mg base CX0 3 f fd ["machine"] spLs:=by
 have GK:FnOk P w K mg base CX0 2 fK fdK ["rooms"] spKl:=ok_kl FK T FF bF gF
 have GM:FnOk P w K mg base CX0 1 fM fdM ["room","kinds","numbers"] (spMr P w):=ok_mr FM T
 refine F.ok scLs (fun vs H Q E h=>?_) (fun cdv A outer s H vs Q E hr h=>?_)
 ·obtain⟨a,many,rs,rfl,_⟩:=h
  rfl
 ·obtain⟨a,many,rs,rfl,M,G,k⟩:=h
  obtain⟨p,qs,m1,m2,m3⟩:=id M
  have gle:=G.le
  have gmn:=G.mn
  have hr1:Room 1 _:=hr.mono (by decide)
  refine⟨_,pss_cons (ps_set (i:=1) scLs.nd rfl (Or.inr rfl) (pe_ix ix_tup (pv 0) pe_int (fun _ _=>rfl)))
   (pss_cons (ps_set (i:=2) scLs.nd rfl (Or.inr rfl) (pe_ix ix_list (pe_call GK hr rfl gK FK.kp bK .nil pass0 (pa_cons (pv 1) pa_nil)) (pe_un un_neg pe_int) (fun _ _=>rfl)))
   (pss_cons (ps_set (i:=3) scLs.nd rfl (Or.inl rfl) (pe_lst (pa_cons pe_int pa_nil)))
   (pss_cons (ps_set (i:=4) scLs.nd rfl (Or.inr rfl) (pe_ndispP P w rfl rfl (pe_ix ix_list (pv 2) pe_int (fun _ _=>rfl)) pe_int))
   (pss_cons (ps_set (i:=5) scLs.nd rfl (Or.inl rfl) pe_int)
   (pss_cons (ps_while PassesOwn.never (pt_cmpR op_lt (pv 5) (pe_callB call_len_seq (by rfl) T.len PySem.boot_len (pa_cons (pv 3) pa_nil)) (nomark _))
    (pss_cons (ps_set (i:=6) scLs.nd rfl (Or.inl rfl) (pe_ix ix_list (pv 3) (pv 5) (fun _ _=>rfl)))
    (pss_cons (ps_for PassesOwn.never rfl (pi_tup (pe_ix ix_tup (pe_ix ix_tup (pv 1) (pv 6) (fun _ _=>rfl)) pe_int (fun _ _=>rfl))) (pg_name (i:=7) scLs.nd rfl (Or.inl rfl))
     (pss_one (ps_if (pt_cmp (pc_nnotinP P w rfl rfl (pe_ix ix_list (pv 2) (pv 7) (fun _ _=>rfl)) (pv 4)))
      (pss_cons (ps_nputP P w rfl rfl (pv 4) (pe_ix ix_list (pv 2) (pv 7) (fun _ _=>rfl)) (pe_callB call_len_seq (by rfl) T.len PySem.boot_len (pa_cons (pv 3) pa_nil)) rfl)
      (pss_one (ps_expr (pe_bm PySem.F.plainAttrs_list PySem.F.slot_list_append PySem.F.type_list_append mt_append (pv 3) (pa_cons (pv 7) pa_nil)))))
      pss_nil)))
    (pss_one (ps_set (i:=5) scLs.nd rfl (Or.inl rfl) (pe_op op_add (pv 5) pe_int))))))
   (pss_one (ps_ret (pe_tup (pa_cons (pe_ix ix_tup (pv 0) pe_int (fun _ _=>rfl)) (pa_cons (pe_callTy call_tuple_of (by rfl) T.tuple PyProof.Rows.boot_tuple (pa_cons
    (pe_lc scLs1 rfl rfl rfl (pi_list (pv 3)) (fun fp C s1 H1=>pg_name (i:=0) scLs1.nd rfl (Or.inl rfl)) (fun fp C s1 H1=>pts_nil)
     (fun fp C s1 H1=>pe_call GM hr1 rfl gM FM.kp bM .nil pass0 (pa_cons (pe_ix (r:=rIxT K) ix_tup (pv 3) (pv 0) (fun _ _=>rfl)) (pa_cons (pv 1) (pa_cons (pv 2) pa_nil))))) pa_nil)) pa_nil)))))))))),?_⟩
  refine⟨_,rfl,a,_,_,_,rfl,rfl,SqT.of m1,rfl,?_⟩
  refine⟨_,rfl,p,qs,many,rs,rfl,m2,m3,G,fun lv cs H1 s1 hLv LW ⟨cpos,_⟩ st=>?_⟩
  obtain⟨c,ec⟩:∃c,cs[cs.length-1]?=some c:=⟨cs[cs.length-1],by simp[cpos]⟩
  obtain⟨ks,ns,hc,hN,Lc,_⟩:=LW _ c ec
  have C:Cls rs many ns:=Lc.cls G st
  have nlen:=C.len
  refine⟨_,rfl,lv,_,_,_,rfl,rfl,SqL.of hLv,atI_last (by rw[List.length_map,List.getElem?_map,ec];rfl),?_⟩
  refine⟨(by show 1<=sizeLine;decide),fun lc hlc=>?_⟩
  intro dn hdn
  have nld:lc≠dn:=fun e=>by rw[<- e,upd_same] at hdn;cases hdn
  have hdn1:H1 dn=none:=by rw[upd_ne (Ne.symm nld)] at hdn;exact hdn
  have s2:Same H1 (upd (upd H1 lc (.lst [.int 0])) dn (ND P w dn [])):=((Same.refl H1).upd_free hlc).upd_free hdn1
  have hp0:=G.pos
  obtain⟨n0,en0⟩:=some_at ns 0 (Int.le_refl 0) (by omega)
  obtain⟨k0,ek0,nk0⟩:=hN.get en0
  refine⟨_,rfl,c,_,_,_,rfl,rfl,SqL.of (s2 _ _ hc),atI_int (Int.le_refl 0) ek0,upd_same,k0,.int 0,n0,rfl,nk0,?_⟩
  have e0:kn ns 0=n0:=getD_of en0
  have hlcH:H lc=none:=s1.free hlc
  have hdnH:H dn=none:=s1.free hdn1
  refine⟨fun mm σ H2=>∃(ch:List Int) (d:Nat) (v6 v7:Option V),σ=[some (.ref a),some (.ref p),some (.ref c),some (.ref lc),some (.ref dn),some (.int (d:Int)),v6,v7]/\mm=rs.length+1-d/\Same H1 H2/\H2 lc=some (.lst (ch.map V.int))/\H2 dn=some (ND P w dn (kvF 0 (cl ns ch)))/\LB rs many ns ch d,
   ⟨_,[0],0,none,none,rfl,rfl,?_,?_,?_,LB.init G⟩,?_⟩
  ·rw[upd_upd]
   exact((Same.refl H1).upd_free hlc).upd_free hdn1
  ·rw[upd_ne nld,upd_ne nld,upd_same]
   rfl
  ·rw[upd_same,<- e0]
   rfl
  rintro mm σ H2 ⟨ch,d,v6,v7,rfl,rfl,t2,hL,hD,B⟩
  have hchl:=ch_len B.nd B.ok
  have hdl:=B.dl
  refine⟨_,rfl,_,rfl,lc,_,rfl,.inl (SqL.of hL),_,_,rfl,rfl,_,rfl,?_⟩
  rw[List.length_map]
  refine ite2 (fun hlt=>?_) (fun hge=>?_)
  ·have hlt':d<ch.length:=by
    have:=of_decide_eq_true hlt
    omega
   obtain⟨x0,hx0⟩:∃x0,ch[d]?=some x0:=⟨ch[d],by simp[hlt']⟩
   have ok0:=B.ok x0 (List.mem_of_getElem? hx0)
   refine⟨fun σ' H'=>∃m',m'<rs.length+1-d/\∃(ch:List Int) (d:Nat) (v6 v7:Option V),σ'=[some (.ref a),some (.ref p),some (.ref c),some (.ref lc),some (.ref dn),some (.int (d:Int)),v6,v7]/\m'=rs.length+1-d/\Same H1 H'/\H' lc=some (.lst (ch.map V.int))/\H' dn=some (ND P w dn (kvF 0 (cl ns ch)))/\LB rs many ns ch d,fun σ' H' z=>z,?_⟩
   obtain⟨r,er⟩:=some_at rs x0 ok0.1 ok0.2
   obtain⟨rq,rz,r1,r2,r3⟩:=(m3.same s1).2 _ _ er
   have hrow:=G.row r (List.mem_of_getElem? er)
   have enx:nx rs x0=r.2:=by unfold nx;rw[getD_of er]
   refine⟨_,rfl,_,rfl,lc,_,_,_,rfl,rfl,SqL.of hL,atI_nat (by rw[List.getElem?_map,hx0];rfl),?_⟩
   refine⟨_,rfl,_,rfl,p,_,_,_,rfl,rfl,SqT.of (t2 _ _ (s1 _ _ m2)),atI_int ok0.1 (by rw[List.getElem?_map,r1];rfl),rq,_,_,_,rfl,rfl,SqT.of (t2 _ _ r2),rfl,rz,rfl,⟨_,SqT.of (t2 _ _ r3)⟩,?_⟩
   refine for_tup (K:=K) (a:=rz) (xs:=r.2.map V.int) (fun j σ H3=>∃(ch':List Int) (v7:Option V),σ=[some (.ref a),some (.ref p),some (.ref c),some (.ref lc),some (.ref dn),some (.int (d:Int)),some (.int x0),v7]/\Same H1 H3/\H3 lc=some (.lst (ch'.map V.int))/\H3 dn=some (ND P w dn (kvF 0 (cl ns ch')))/\LV rs many ns ch' d x0 j)
    ⟨ch,v7,rfl,t2,hL,hD,B.start hx0⟩ (fun j σ H3 _ ⟨_,_,_,t3,_⟩=>SqT.of (t3 _ _ r3)) ?_ ?_
   ·rintro j x σ H3 hx ⟨ch',v7,rfl,t3,hL3,hD3,VI⟩
    rw[List.getElem?_map] at hx
    cases et:r.2[j]? with
    |none=>rw[et] at hx;cases hx
    |some t=>
     rw[et] at hx
     cases hx
     have ht:=hrow.2 t (List.mem_of_getElem? et)
     obtain⟨nt,ent⟩:=some_at ns t ht.1 (by rw[nlen];exact ht.2)
     obtain⟨kt,ekt,nkt⟩:=hN.get ent
     have ekn:kn ns t=nt:=getD_of ent
     have hch':=ch_len VI.nd VI.ok
     refine⟨_,rfl,_,rfl,c,_,_,_,rfl,rfl,SqL.of (t3 _ _ hc),atI_int ht.1 ekt,_,rfl,dn,_,nt,rfl,hD3,nkt,_,rfl,?_⟩
     by_cases hm:kn ns t∈cl ns ch'
     ·rw[show valV (kvF 0 (cl ns ch')) nt=some (.int ((0+(cl ns ch').idxOf (kn ns t):Nat):Int)) by rw[<- ekn];exact kvF_some _ _ 0 hm]
      refine iteF ?_
      exact⟨ch',_,rfl,t3,hL3,hD3,VI.old (by rw[enx];exact et) hm⟩
     ·have hv:valV (kvF 0 (cl ns ch')) nt=none:=by rw[<- ekn];exact kvF_none _ _ 0 hm
      rw[hv]
      refine iteT ?_
      refine⟨_,rfl,lc,_,rfl,.inl (SqL.of hL3),_,rfl,_,rfl,_,rfl,c,_,_,_,rfl,rfl,SqL.of (t3 _ _ hc),atI_int ht.1 ekt,dn,_,nt,rfl,hD3,nkt,small1000 (by rw[kvF_len];unfold cl;rw[List.length_map];omega),?_⟩
      have hL4:(upd H3 dn (ND P w dn (putK (kvF 0 (cl ns ch')) nt (.int ((ch'.map V.int).length:Int))))) lc=some (.lst (ch'.map V.int)):=by rw[upd_ne nld];exact hL3
      refine⟨_,rfl,.inl ⟨rfl,_,SqL.of hL4⟩,_,rfl,lc,_,_,rfl,rfl,hL4,small1000 (by rw[List.length_map];omega),?_⟩
      refine⟨ch'++[t],_,rfl,(t3.upd_free hdn1).upd_free hlc,by rw[upd_same,List.map_append];rfl,?_,VI.new G (by rw[enx];exact et) hm⟩
      rw[upd_ne (Ne.symm nld),upd_same,putK_new _ hv]
      have e1:cl ns (ch'++[t])=cl ns ch'++[nt]:=by unfold cl;rw[List.map_append,<- ekn];rfl
      rw[e1,kvF_snoc,List.length_map]
      unfold cl
      rw[List.length_map,Nat.zero_add]
   ·rintro σ H3 ⟨ch',v7,rfl,t3,hL3,hD3,VI⟩
    rw[List.length_map] at VI
    refine⟨_,rfl,_,_,rfl,rfl,?_⟩
    exact⟨rs.length+1-(d+1),by omega,ch',d+1,_,_,rfl,rfl,t3,hL3,hD3,VI.done (by rw[enx];exact Nat.le_refl _)⟩
  ·have hge':¬(d:Int)<(ch.length:Int):=fun z=>hge (decide_eq_true z)
   have ed:d=ch.length:=by omega
   subst ed
   have tt:=s1.trans t2
   refine⟨_,rfl,a,_,_,_,rfl,rfl,SqT.of (tt _ _ m1),rfl,_,rfl,lc,rfl,⟨_,SqL.of hL⟩,fun D hD0=>?_⟩
   refine lc_list (K:=K) (a:=lc) (xs:=ch.map V.int) (fun j ys H3=>∃ps:List Addr,ys=ps.map V.ref/\Same H2 H3/\H3 D=some (.lst ys)/\ys.length=j/\RowsAt H3 ps ((ch.take j).map fun c=>(gd rs c,(nx rs c).map (ix ns ch)))) (Nat.le_of_lt (small1000 (by rw[List.length_map];omega)))
    ⟨[],rfl,(Same.refl H2).upd_free hD0,upd_same,rfl,rfl,fun i r e=>by simp at e⟩ (fun j ys H3 ⟨_,_,_,_,h,_⟩=>Nat.le_of_eq h) (fun j ys H3 ⟨_,_,h,_⟩=>SqL.of (h _ _ hL)) ?_ ?_
   ·rintro j ys H3 x N MM hx ⟨ps,rfl,u1,u2,u3,u4⟩ hN' hM
    rw[List.getElem?_map] at hx
    cases et:ch[j]? with
    |none=>rw[et] at hx;cases hx
    |some t=>
     rw[et] at hx
     cases hx
     have hj:j<ch.length:=(List.getElem?_eq_some_iff.mp et).1
     have tr:=B.ok t (List.mem_of_getElem? et)
     obtain⟨r,er⟩:=some_at rs t tr.1 tr.2
     have t3:=tt.trans u1
     obtain⟨rq,rz,r1,r2,r3⟩:=(m3.same t3).2 _ _ er
     have hrow:=G.row r (List.mem_of_getElem? er)
     have enx:nx rs t=r.2:=by unfold nx;rw[getD_of er]
     have egd:gd rs t=r.1:=by unfold gd;rw[getD_of er]
     refine⟨_,rfl,_,rfl,p,_,_,_,rfl,rfl,SqT.of (t3 _ _ m2),atI_int tr.1 (by rw[List.getElem?_map,r1];rfl),_,rfl,_,rfl,rq,c,dn,rz,r.1,r.2,ks,ns,_,ix ns ch,rfl,r2,r3,u1 _ _ (t2 _ _ hc),hN,u1 _ _ hD,by omega,fun u hu=>?_,fun mq zt H4 s4 h1 h2=>?_⟩
     ·have hu':=hrow.2 u hu
      refine⟨hu'.1,by rw[nlen];exact hu'.2,?_⟩
      have hm:=B.cov j t hj et u (by rw[enx];exact hu)
      rw[kvF_some _ _ 0 hm,Nat.zero_add]
      rfl
     ·have nD:∀c ys,H4 c=some (.tup ys)->(upd H4 D (.lst (ps.map V.ref++[.ref mq]))) c=some (.tup ys):=fun c ys e=>by
       rw[upd_ne (ne_of e (s4 _ _ u2) (fun z=>nomatch z))]
       exact e
      refine hN' _ H4 (s4 _ _ u2) ⟨ps++[mq],by rw[List.map_append];rfl,(u1.trans s4).upd_free hD0,upd_same,by rw[List.length_append,List.length_singleton,u3],?_⟩
      rw[List.take_add_one,et,List.map_append]
      refine rows_snoc (rows_tsame (u4.same s4) nD) (z:=zt) ?_ ?_
      ·rw[nD _ _ h1,<- egd]
      ·rw[nD _ _ h2]
       show _=some (HO.tup (((nx rs t).map (ix ns ch)).map V.int))
       rw[enx]
   ·rintro ys H3 ⟨ps,rfl,u1,u2,u3,u4⟩
    rw[List.length_map,List.take_of_length_le (Nat.le_refl _)] at u4
    refine⟨D,_,rfl,.inl ⟨SqL.of u2,fun zt hzt=>?_⟩⟩
    refine⟨(by show 2<=sizeLine;decide),fun m hm=>?_⟩
    have nzm:zt≠m:=fun e=>by rw[e,upd_same] at hm;cases hm
    have hm3:H3 m=none:=by rw[upd_ne (Ne.symm nzm)] at hm;exact hm
    have sw:Same H3 (upd (upd H3 zt (.tup (ps.map V.ref))) m (.tup [.int many,.ref zt])):=((Same.refl H3).upd_free hzt).upd_free hm3
    exact k m ns ch _ ((tt.trans u1).trans sw) ⟨zt,ps,upd_same,by rw[upd_ne nzm,upd_same],u4.same sw⟩ C B
end
end K23
namespace BG
open PySem L2 SO K20
structure Txt (mg:Str->Option Value):Prop where
 len:mg "len"=none
 range:mg "range"=none
 tuple:mg "tuple"=none
 list:mg "list"=none
 sorted:mg "sorted"=none
 isin:mg "isinstance"=none
 int:mg "int"=none
 bool:mg "bool"=none
 max:mg "max"=none
 min:mg "min"=none
theorem atI_some {α:Type}(l:List α)(i:Int)(h0:0<=i)(h:i<(l.length:Int)):∃x,x∈l/\atI l i=some x/\l[i.toNat]?=some x:=by
 obtain⟨x,e⟩:=some_at l i h0 h
 refine⟨x,List.mem_of_getElem? e,?_,e⟩
 have z:i=((i.toNat:Nat):Int):=by omega
 rw[z]
 exact atI_nat e
abbrev RA (H:Hp)(t:Addr)(ns:List Int):Prop:=H t=some (.tup (ns.map V.int))
def cellM (ns:List Int)(k:Int):Int:=if k<ns.length then ns.getD k.toNat 0 else((ns++[0]).getD 0 0%1000003+17)*(k*k+30011)%2147483647
def RwS (H:Hp)(qs:List Addr)(rs:Rms):Prop:=qs.length=rs.length/\∀(i:Nat) (r:Bool×List Int),rs[i]?=some r->∃q z,qs[i]?=some q/\H q=some (.tup [.bl r.1,.ref z])/\(H z=some (.lst (r.2.map V.int))\/H z=some (.tup (r.2.map V.int)))
def RmS (H:Hp)(r:Addr)(rs:Rms):Prop:=∃qs,(H r=some (.lst (qs.map V.ref))\/H r=some (.tup (qs.map V.ref)))/\RwS H qs rs
theorem RwS.same {H H':Hp}{qs:List Addr}{rs:Rms}(h:RwS H qs rs)(s:Same H H'):RwS H' qs rs:=⟨h.1,fun i r e=>by
 obtain⟨q,z,h1,h2,h3⟩:=h.2 i r e
 exact⟨q,z,h1,s _ _ h2,h3.imp (s _ _) (s _ _)⟩⟩
theorem RmS.same {H H':Hp}{r:Addr}{rs:Rms}(h:RmS H r rs)(s:Same H H'):RmS H' r rs:=by
 obtain⟨qs,h1,h2⟩:=h
 exact⟨qs,h1.imp (s _ _) (s _ _),h2.same s⟩
theorem sq_or {K:W.Frag}{H:Hp}{a:Addr}{xs:List V}(h:H a=some (.lst xs)\/H a=some (.tup xs)):SqL K H a xs\/SqT K H a xs:=h.imp SqL.of SqT.of
def gdw (rs:Rms)(ns:List Int):Bool:=(rs.getD (walkM rs 0 ns).toNat (false,[])).1
section
variable {P:Program} {w:World} {K:W.Frag} {mg:Str->Option Value} {base:Heap}
def spRo:Sp:=fun vs H Q _=>∃(t:Addr) (ns:List Int),vs=[.ref t]/\RA H t ns/\ns.length<=1000/\∀(q:Addr) (H':Hp),Same H H'->PrA H' (q,((ns.length:Int),ns))->Q (.ref q) H'
theorem scRo:FnScope ["run"] ["run"] (defScope sRo):=.of (by decide +kernel)
theorem ok_ro (F:Fun K "run_order" "run_order" sRo f fd)(T:Txt mg):FnOk P w K mg base CX0 1 f fd ["run"] spRo:=by
 refine F.ok scRo (fun vs H Q E h=>?_) (fun cdv A outer s H vs Q E hr h=>?_)
 ·obtain⟨t,ns,rfl,_⟩:=h
  rfl
 ·obtain⟨t,ns,rfl,ht,hn,k⟩:=h
  refine⟨_,pss_one (ps_ret (pe_tup (pa_cons (pe_callB call_len_seq (by rfl) T.len PySem.boot_len (pa_cons (pv 0) pa_nil)) (pa_cons (pv 0) pa_nil)))),?_⟩
  refine⟨_,rfl,t,_,rfl,.inr (SqT.of ht),?_⟩
  refine⟨_,rfl,(by show 2<=sizeLine;decide),fun p hp=>?_⟩
  have s1:Same H (upd H p (.tup [.int ((ns.map V.int).length:Int),.ref t])):=(Same.refl H).upd_free hp
  refine k p _ s1 ⟨t,?_,s1 _ _ ht⟩
  show upd H p _ p=_
  rw[upd_same,List.length_map]
def spCe (K:W.Frag):Sp:=fun vs H Q _=>∃(a:Addr) (ns:List Int) (k:Int),vs=[.ref a,.int k]/\SqL K H a (ns.map V.int)/\ns.length<=1000/\0<=k/\k<=2000/\∀(H':Hp),Same H H'->Q (.int (cellM ns k)) H'
theorem scCe:FnScope ["_law_script","_law_k"] ["_law_script","_law_k"] (defScope sCe):=.of (by decide +kernel)
theorem ok_ce (F:Fun K "_law_cell_at" "_law_cell_at" sCe f fd)(T:Txt mg):FnOk P w K mg base CX0 1 f fd ["_law_script","_law_k"] (spCe K):=by
 refine F.ok scCe (fun vs H Q E h=>?_) (fun cdv A outer s H vs Q E hr h=>?_)
 ·obtain⟨a,ns,k,rfl,_⟩:=h
  rfl
 ·obtain⟨a,ns,k,rfl,hS,hln,k0,k1,kk⟩:=h
  refine⟨_,pss_cons (ps_if (pt_cmpR op_lt (pv 1) (pe_callB call_len_seq (by rfl) T.len PySem.boot_len (pa_cons (pv 0) pa_nil)) (nomark _)) (pss_one (ps_ret (pe_ix ix_list (pv 0) (pv 1) (fun _ _=>rfl)))) pss_nil)
   (pss_one (ps_ret (pe_op op_mod (pe_op op_mul (pe_op op_add (pe_op op_mod (pe_ix ix_list (pe_op op_catL (pv 0) (pe_lst (pa_cons pe_int pa_nil))) pe_int (fun _ _=>rfl)) pe_int) pe_int) (pe_op op_add (pe_op op_mul (pv 1) (pv 1)) pe_int)) pe_int))),?_⟩
  refine⟨_,rfl,_,rfl,a,_,rfl,.inl hS,_,_,rfl,rfl,_,rfl,?_⟩
  refine ite2 (fun hlt=>?_) (fun hge=>?_)
  ·have hlt':k<((ns.map V.int).length:Int):=of_decide_eq_true hlt
   rw[List.length_map] at hlt'
   obtain⟨x,hx,_,ex⟩:=atI_some ns k k0 hlt'
   have ec:cellM ns k=x:=by
    unfold cellM
    rw[if_pos hlt',getD_of ex]
   refine⟨_,rfl,_,rfl,a,_,_,.int x,rfl,rfl,hS,atI_int k0 (by rw[List.getElem?_map,ex];rfl),?_⟩
   have:=kk H (Same.refl H)
   rw[ec] at this
   exact this
  ·have hge':¬k<(ns.length:Int):=fun q=>hge (decide_eq_true (by rw[List.length_map];exact q))
   refine⟨_,rfl,(by show 1<=sizeLine;decide),fun l hl=>?_⟩
   have s1:Same H (upd H l (.lst [.int 0])):=(Same.refl H).upd_free hl
   refine⟨a,l,_,_,rfl,rfl,s1.seq hS,SqL.of upd_same,?_,fun p hp=>?_⟩
   ·rw[List.length_map]
    exact Nat.le_of_lt (small9 (by show ns.length+1<=100000;omega))
   have s2:Same H (upd (upd H l (.lst [.int 0])) p (.lst (ns.map V.int++[.int 0]))):=s1.upd_free (s1.free hp)
   obtain⟨x,hx,_,ex⟩:=atI_some (ns++[0]) 0 (Int.le_refl 0) (by simp)
   have e0:ns.map V.int++[V.int 0]=(ns++[0]).map V.int:=by simp
   have ec:cellM ns k=(x%1000003+17)*(k*k+30011)%2147483647:=by
    unfold cellM
    rw[if_neg hge',getD_of (show(ns++[0])[0]?=some x from ex)]
   have fin:=kk _ s2
   rw[ec] at fin
   refine⟨p,_,_,.int x,rfl,rfl,SqL.of upd_same,?_,_,_,rfl,rfl,(by show(0:Int)<1000003;decide),_,_,rfl,rfl,_,rfl,_,rfl,_,_,rfl,rfl,.inl ⟨by omega,by omega⟩,_,_,rfl,rfl,_,_,rfl,rfl,.inl ⟨by omega,by omega⟩,_,_,rfl,rfl,(by show(0:Int)<2147483647;decide),fin⟩
   rw[e0]
   exact atI_int (Int.le_refl 0) (by rw[List.getElem?_map,ex];rfl)
def spPk:Sp:=fun vs H Q _=>∃c k many:Int,vs=[.int c,.int k,.int many]/\0<=k/\k<=2000/\0<many/\∀z:Int,0<=z->z<many->Q (.int z) H
theorem scPk:FnScope ["_law_cell","_law_k","_law_many"] ["_law_cell","_law_k","_law_many"] (defScope sPk):=.of (by decide +kernel)
theorem ok_pk (F:Fun K "_law_pick" "_law_pick" sPk f fd):FnOk P w K mg base CX0 1 f fd ["_law_cell","_law_k","_law_many"] spPk:=by
 refine F.ok scPk (fun vs H Q E h=>?_) (fun cdv A outer s H vs Q E hr h=>?_)
 ·obtain⟨c,k,many,rfl,_⟩:=h
  rfl
 ·obtain⟨c,k,many,rfl,k0,k1,m0,kk⟩:=h
  have p0:0<=k*k:=Int.mul_nonneg k0 k0
  have p1:k*k<=2000*2000:=Int.mul_le_mul k1 k1 k0 (by decide)
  have p2:0<=k*k*k:=Int.mul_nonneg p0 k0
  have p3:k*k*k<=2000*2000*2000:=Int.mul_le_mul p1 k1 k0 (by decide)
  refine⟨_,pss_one (ps_ret (pe_op op_mod (pe_op op_mod (pe_op op_mul (pe_op op_add (pe_op op_mod (pv 0) pe_int) pe_int) (pe_op op_add (pe_op op_mul (pe_op op_mul (pv 1) (pv 1)) (pv 1)) pe_int)) pe_int) (pv 2))),?_⟩
  refine⟨_,rfl,_,_,rfl,rfl,(by show(0:Int)<1000003;decide),_,_,rfl,rfl,_,rfl,_,rfl,_,_,rfl,rfl,.inl ⟨by omega,by omega⟩,_,rfl,_,_,rfl,rfl,.inl ⟨by omega,by omega⟩,_,_,rfl,rfl,_,_,rfl,rfl,.inl ⟨by omega,by omega⟩,_,_,rfl,rfl,(by show(0:Int)<65537;decide),_,rfl,_,_,rfl,rfl,m0,?_⟩
  exact kk _ (Int.emod_nonneg _ (by omega)) (Int.emod_lt_of_pos _ m0)
def spHi:Sp:=fun vs H Q _=>∃c many size:Int,vs=[.int c,.int many,.int size]/\0<=many/\many<=8/\1<=size/\size<=5/\∀(r:Addr) (rs:Rms) (H':Hp),Same H H'->RmS H' r rs->Good many rs->(rs.length:Int)=size->Q (.ref r) H'
abbrev nHi:List Str:=["_law_cell","_law_many","_law_size","_law_rooms","_law_room","_law_nexts"]
theorem scHi:FnScope nHi ["_law_cell","_law_many","_law_size"] (defScope sHi):=.of (by decide +kernel)
def scopeHi:Scope:=⟨.function,[(".0",.local),("_law_letter",.local),("_law_pick",.globalImplicit),("_law_cell",.free),("_law_room",.free),("_law_size",.free)],false,false,[]⟩
theorem scHb:BlkScope (defScope sHi) nHi ["_law_letter"] ["_law_cell","_law_room","_law_size"] [0,4,2] scopeHi:=.of (by decide +kernel)
theorem ok_hi (F:Fun K "_law_hidden" "_law_hidden" sHi f fd)(T:Txt mg)(FP:Fun K "_law_pick" "_law_pick" sPk fP fdP)(bP:Binds K fdP ["_law_cell","_law_k","_law_many"] [])(gP:mg "_law_pick"=some (.ref fP)):
  FnOk P w K mg base CX0 2 f fd ["_law_cell","_law_many","_law_size"] spHi:=by
 have GP:FnOk P w K mg base CX0 1 fP fdP ["_law_cell","_law_k","_law_many"] spPk:=ok_pk FP
 refine F.ok scHi (fun vs H Q E h=>?_) (fun cdv A outer s H vs Q E hr h=>?_)
 ·obtain⟨c,many,size,rfl,_⟩:=h
  rfl
 ·obtain⟨c,many,size,rfl,m0,m1,z0,z1,k⟩:=h
  refine⟨_,pss_cons (ps_set (i:=3) scHi.nd rfl (Or.inl rfl) (pe_lst pa_nil))
   (pss_cons (ps_for PassesOwn.never rfl (pi_range1 rfl T.range (pa_cons (pv 2) pa_nil)) (pg_name (i:=4) scHi.nd rfl (Or.inr rfl))
    (pss_cons (ps_setlc (i:=5) scHb rfl rfl rfl (pi_range1 rfl T.range (pa_cons (pv 1) pa_nil)) (fun fp C s1 H1=>pg_name (i:=0) scHb.nd rfl (Or.inl rfl)) (fun fp C s1 H1=>pts_nil)
     (fun fp C s1 H1=>pe_call GP hr rfl gP FP.kp bP .nil pass0 (pa_cons (pv 1) (pa_cons (pe_op op_add (pe_op op_mul pe_int (pv 2)) (pv 0)) (pa_cons (pv 3) pa_nil)))) scHi.nd rfl rfl rfl)
    (pss_one (ps_expr (pe_bm PySem.F.plainAttrs_list PySem.F.slot_list_append PySem.F.type_list_append mt_append (pv 3) (pa_cons (pe_tup (pa_cons (pe_cmpR op_eq (pe_call GP hr rfl gP FP.kp bP .nil pass0 (pa_cons (pv 0) (pa_cons (pe_op op_add pe_int (pv 4)) (pa_cons pe_int pa_nil)))) pe_int (nomark _)) (pa_cons (pv 5) pa_nil))) pa_nil))))))
   (pss_one (ps_ret (pv 3)))),?_⟩
  refine⟨Nat.zero_le _,fun l hl=>?_⟩
  have s2:Same H (upd H l (.lst [])):=(Same.refl H).upd_free hl
  refine⟨_,rfl,_,rfl,by omega,by omega,?_⟩
  refine for_range (n:=size.toNat) (fun i σ H2=>∃(qs:List Addr) (rs:Rms) (v4 v5:Option V),σ=[some (.int c),some (.int many),some (.int size),some (.ref l),v4,v5]∧
    Same H H2/\H2 l=some (.lst (qs.map V.ref))/\RwS H2 qs rs/\(∀q∈qs,∀xs,H2 q=some (.tup xs)->V.ref l∉xs)/\rs.length=i/\∀r∈rs,(r.2.length:Int)=many/\∀n∈r.2,0<=n/\n<size)
   ⟨[],[],none,none,rfl,s2,upd_same,⟨rfl,fun i r e=>by simp at e⟩,fun q hq=>by(cases hq),rfl,fun r hr=>by simp at hr⟩ ?_ ?_
  ·rintro i σ H2 hi ⟨qs,rs,v4,v5,rfl,t2,hL,hR,hno,hlen,hrow⟩
   have i1:(i:Int)<size:=by omega
   refine⟨_,rfl,_,rfl,by omega,by omega,fun D hD=>?_⟩
   have hDH:H D=none:=t2.free hD
   have sD:Same H2 (upd H2 D (.lst [])):=(Same.refl H2).upd_free hD
   refine lc_range (n:=many.toNat) (fun j ys H3=>Same H2 H3/\H3 D=some (.lst ys)/\ys.length=j/\∃xs:List Int,ys=xs.map V.int/\∀x∈xs,0<=x/\x<size) (Nat.le_of_lt (small1000 (by omega)))
    ⟨sD,upd_same,rfl,[],rfl,fun x hx=>by simp at hx⟩ (fun j ys H3 h=>Nat.le_of_eq h.2.2.1) ?_ ?_
   ·rintro j ys H3 N M hj ⟨u1,u2,u3,xs,rfl,u5⟩ hN hM
    refine⟨_,rfl,_,rfl,_,_,rfl,rfl,.inl ⟨by omega,by omega⟩,_,rfl,_,_,rfl,rfl,_,rfl,_,_,_,rfl,by omega,by omega,by omega,fun z z0 z1=>?_⟩
    refine hN _ H3 u2 ⟨u1.upd_free hD,upd_same,by rw[List.length_append,List.length_singleton,u3],xs++[z],by rw[List.map_append];rfl,fun x hx=>?_⟩
    rcases List.mem_append.mp hx with hx|hx
    ·exact u5 x hx
    ·rw[List.mem_singleton] at hx
     subst hx
     exact⟨z0,z1⟩
   ·rintro ys H3 ⟨u1,u2,u3,xs,rfl,u5⟩
    have xl:(xs.length:Int)=many:=by rw[List.length_map] at u3;omega
    have nlD:l≠D:=ne_of_none hL hD
    refine⟨_,rfl,.inl ⟨rfl,_,SqL.of (u1 _ _ hL)⟩,_,rfl,_,rfl,_,_,rfl,rfl,_,_,_,rfl,by omega,by omega,by decide,fun z z0 z1=>?_⟩
    refine⟨rfl,_,rfl,(by show 2<=sizeLine;decide),fun q hq=>?_⟩
    have v3:Same H2 (upd H3 q (.tup [.bl (decide (V.int z=V.int 1)),.ref D])):=u1.upd_free (u1.free hq)
    have nlq:l≠q:=ne_of_none hL (u1.free hq)
    refine⟨l,_,_,rfl,rfl,v3 _ _ hL,?_,?_⟩
    ·rw[List.length_map,hR.1,hlen]
     exact small1000 (by omega)
    have hq3:upd H3 q (.tup [.bl (decide (V.int z=V.int 1)),.ref D]) q=some (.tup [.bl (decide (V.int z=V.int 1)),.ref D]):=upd_same
    have hD3:upd H3 q (.tup [.bl (decide (V.int z=V.int 1)),.ref D]) D=some (.lst (xs.map V.int)):=by
     rw[upd_ne (fun e=>by rw[e] at u2;rw[hq] at u2;cases u2)];exact u2
    generalize upd H3 q (.tup [.bl (decide (V.int z=V.int 1)),.ref D])=H4 at v3 hq3 hD3
    have hl4:=v3 _ _ hL
    have ne:∀{a:Addr} {o:HO},H4 a=some o->a≠l->upd H4 l (.lst (qs.map V.ref++[.ref q])) a=some o:=fun h n=>by rw[upd_ne n];exact h
    refine⟨qs++[q],rs++[(decide (V.int z=V.int 1),xs)],_,_,rfl,(t2.trans v3).upd_free hl,by rw[upd_same,List.map_append];rfl,⟨?_,fun j r e=>?_⟩,fun q' hq' ys hys=>?_,by rw[List.length_append,hlen];rfl,fun r hr'=>?_⟩
    ·rw[List.length_append,List.length_append,hR.1];rfl
    ·by_cases hj:j<rs.length
     ·rw[List.getElem?_append_left hj] at e
      obtain⟨q',z',e1,e2,e3⟩:=hR.2 j r e
      have nz:z'≠l:=fun ez=>by
       have:=hno q' (List.mem_of_getElem? e1) _ e2
       rw[ez] at this
       simp at this
      refine⟨q',z',by rw[List.getElem?_append_left (by rw[hR.1];exact hj)];exact e1,ne (v3 _ _ e2) (ne_of e2 hL (fun z=>nomatch z)),e3.imp (fun h=>ne (v3 _ _ h) nz) fun h=>ne (v3 _ _ h) nz⟩
     ·rw[List.getElem?_append_right (by omega)] at e
      have ej:j-rs.length=0:=by
       have:=(List.getElem?_eq_some_iff.mp e).1
       simp at this
       omega
      rw[ej] at e
      cases e
      refine⟨q,D,by rw[List.getElem?_append_right (by rw[hR.1];omega),hR.1,ej];rfl,ne hq3 nlq.symm,.inl (ne hD3 nlD.symm)⟩
    ·rcases List.mem_append.mp hq' with h|h
     ·obtain⟨i',hi',ei'⟩:=List.getElem_of_mem h
      have hlt:i'<rs.length:=by rw[<- hR.1];exact hi'
      obtain⟨q'',z',e1,e2,e3⟩:=hR.2 i' rs[i'] (List.getElem?_eq_getElem hlt)
      rw[List.getElem?_eq_getElem hi',ei'] at e1
      cases e1
      have:=ne (v3 _ _ e2) (ne_of e2 hL (fun z=>nomatch z))
      rw[this] at hys
      cases hys
      exact hno q' h _ e2
     ·rw[List.mem_singleton.mp h] at hys
      rw[ne hq3 nlq.symm] at hys
      cases hys
      simp[nlD]
    ·rcases List.mem_append.mp hr' with h|h
     ·exact hrow r h
     ·rw[List.mem_singleton.mp h]
      exact⟨xl,u5⟩
  ·rintro σ H2 ⟨qs,rs,v4,v5,rfl,t2,hL,hR,hno,hlen,hrow⟩
   refine⟨_,rfl,k l rs H2 t2 ⟨qs,.inl hL,hR⟩ ⟨⟨m0,m1⟩,by omega,by omega,fun r hr'=>?_⟩ (by omega)⟩
   obtain⟨h1,h2⟩:=hrow r hr'
   exact⟨h1,fun n hn=>⟨(h2 n hn).1,by have:=(h2 n hn).2;omega⟩⟩
def spRu:Sp:=fun vs H Q _=>∃c many longest:Int,vs=[.int c,.int many,.int longest]/\0<=many/\many<=8/\0<=longest/\longest<=8/\∀(t:Addr) (ns:List Int) (H':Hp),Same H H'->RA H' t ns->(ns.length:Int)<=longest->(∀x∈ns,0<=x/\x<many)->Q (.ref t) H'
theorem scRu:FnScope ["_law_cell","_law_many","_law_longest","_law_run_here","_law_size","_law_k"] ["_law_cell","_law_many","_law_longest"] (defScope sRu):=.of (by decide +kernel)
theorem ok_ru (F:Fun K "_law_run" "_law_run" sRu f fd)(T:Txt mg):FnOk P w K mg base CX0 1 f fd ["_law_cell","_law_many","_law_longest"] spRu:=by
 refine F.ok scRu (fun vs H Q E h=>?_) (fun cdv A outer s H vs Q E hr h=>?_)
 ·obtain⟨c,many,lo,rfl,_⟩:=h
  rfl
 ·obtain⟨c,many,lo,rfl,m0,m1,t0,t1,k⟩:=h
  refine⟨_,pss_cons (ps_set (i:=3) scRu.nd rfl (Or.inl rfl) (pe_lst pa_nil))
   (pss_cons (ps_set (i:=4) scRu.nd rfl (Or.inl rfl) (pe_op op_mod (pv 0) (pe_op op_add (pv 2) pe_int)))
   (pss_cons (ps_set (i:=0) scRu.nd rfl (Or.inl rfl) (pe_op op_fdiv (pv 0) (pe_op op_add (pv 2) pe_int)))
   (pss_cons (ps_for PassesOwn.never rfl (pi_range1 rfl T.range (pa_cons (pv 4) pa_nil)) (pg_name (i:=5) scRu.nd rfl (Or.inl rfl))
    (pss_one (ps_if (pt_cmpR op_gt (pv 1) pe_int (nomark _))
     (pss_cons (ps_expr (pe_bm PySem.F.plainAttrs_list PySem.F.slot_list_append PySem.F.type_list_append mt_append (pv 3) (pa_cons (pe_op op_mod (pv 0) (pv 1)) pa_nil)))
     (pss_one (ps_set (i:=0) scRu.nd rfl (Or.inl rfl) (pe_op op_fdiv (pv 0) (pv 1))))) pss_nil)))
   (pss_one (ps_ret (pe_callTy call_tuple_of (by rfl) T.tuple PyProof.Rows.boot_tuple (pa_cons (pv 3) pa_nil))))))),?_⟩
  refine⟨Nat.zero_le _,fun l hl=>?_⟩
  have s1:Same H (upd H l (.lst [])):=(Same.refl H).upd_free hl
  refine⟨_,rfl,_,rfl,_,_,rfl,rfl,_,_,rfl,rfl,by omega,?_⟩
  refine⟨_,rfl,_,rfl,_,_,rfl,rfl,_,_,rfl,rfl,⟨by omega,by omega⟩,?_⟩
  have b0:0<=c%(lo+1):=Int.emod_nonneg _ (by omega)
  have b1:c%(lo+1)<lo+1:=Int.emod_lt_of_pos _ (by omega)
  refine⟨_,rfl,_,rfl,by omega,by omega,?_⟩
  refine for_range (n:=(c%(lo+1)).toNat) (fun i σ H2=>∃(n:Int) (ls:List Int) (v:Option V),σ=[some (.int n),some (.int many),some (.int lo),some (.ref l),some (.int (c%(lo+1))),v]/\Same H H2/\H2 l=some (.lst (ls.map V.int))/\ls.length<=i/\∀x∈ls,0<=x/\x<many)
   ⟨_,[],none,rfl,s1,upd_same,Nat.le_refl _,fun x hx=>by cases hx⟩ ?_ ?_
  ·rintro i σ H2 hi ⟨n,ls,v,rfl,s2,hL,hlen,hle⟩
   refine⟨_,rfl,_,_,rfl,rfl,_,rfl,?_⟩
   refine ite2 (fun hg=>?_) (fun hg=>?_)
   ·have hm:0<many:=of_decide_eq_true hg
    refine⟨_,rfl,.inl ⟨rfl,_,SqL.of hL⟩,_,rfl,_,rfl,_,_,rfl,rfl,hm,l,_,_,rfl,rfl,hL,?_,?_⟩
    ·rw[List.length_map]
     exact small1000 (by omega)
    ·refine⟨_,rfl,_,rfl,_,_,rfl,rfl,⟨by omega,by omega⟩,?_⟩
     refine⟨_,ls++[n%many],_,rfl,s2.upd_free hl,?_,?_,fun x hx=>?_⟩
     ·rw[upd_same,List.map_append]
      rfl
     ·rw[List.length_append,List.length_singleton]
      omega
     ·rcases List.mem_append.mp hx with h|h
      ·exact hle x h
      ·rw[List.mem_singleton.mp h]
       exact⟨Int.emod_nonneg _ (by omega),Int.emod_lt_of_pos _ hm⟩
   ·exact⟨n,ls,_,rfl,s2,hL,by omega,hle⟩
  ·rintro σ H2 ⟨n,ls,v,rfl,s2,hL,hlen,hle⟩
   refine⟨_,rfl,l,_,rfl,.inl ⟨SqL.of hL,fun p hp=>?_⟩⟩
   exact k p ls _ (s2.upd_free (s2.free hp)) upd_same (by omega) hle
def spRi:Sp:=fun vs H Q _=>∃(r t:Addr) (many:Int) (rs:Rms) (ns:List Int),vs=[.ref r,.ref t]/\RmS H r rs/\Good many rs/\RA H t ns/\(∀x∈ns,0<=x/\x<many)/\Q (.bl (gdw rs ns)) H
theorem scRi:FnScope ["_law_rooms","_law_run_here","_law_room","_law_letter"] ["_law_rooms","_law_run_here"] (defScope sRi):=.of (by decide +kernel)
theorem room_at {many:Int}{rs:Rms}(G:Good many rs){H:Hp}{qs:List Addr}(R:RwS H qs rs){h:Int}(h0:0<=h)(h1:h<rs.length):
  ∃(q z:Addr) (ns:List Int),atI (qs.map V.ref) h=some (.ref q)/\H q=some (.tup [.bl (rs.getD h.toNat (false,[])).1,.ref z])/\(H z=some (.lst (ns.map V.int))\/H z=some (.tup (ns.map V.int)))/\∀l,0<=l->l<many->atI (ns.map V.int) l=some (.int (nextOf rs h l)):=by
 obtain⟨r,er⟩:=some_at rs h h0 h1
 have hr:=G.row r (List.mem_of_getElem? er)
 obtain⟨q,z,e1,e2,e3⟩:=R.2 _ _ er
 refine⟨q,z,r.2,atI_int h0 (by rw[List.getElem?_map,e1];rfl),by rw[getD_of er];exact e2,e3,fun l l0 l1=>?_⟩
 obtain⟨n,en⟩:=some_at r.2 l l0 (by rw[hr.1];exact l1)
 refine atI_int l0 ?_
 unfold nextOf
 rw[getD_of er,getD_of en,List.getElem?_map,en]
 rfl
theorem ok_ri (F:Fun K "_law_right" "_law_right" sRi f fd):FnOk P w K mg base CX0 1 f fd ["_law_rooms","_law_run_here"] spRi:=by
 refine F.ok scRi (fun vs H Q E h=>?_) (fun cdv A outer s H vs Q E hr h=>?_)
 ·obtain⟨r,t,many,rs,ns,rfl,_⟩:=h
  rfl
 ·obtain⟨r,t,many,rs,ns,rfl,⟨qs,hq,hR⟩,G,ht,hx,k⟩:=h
  have gpos:=G.pos
  refine⟨_,pss_cons (ps_set (i:=2) scRi.nd rfl (Or.inl rfl) pe_int)
   (pss_cons (ps_for PassesOwn.never rfl (pi_tup (pv 1)) (pg_name (i:=3) scRi.nd rfl (Or.inl rfl))
    (pss_one (ps_set (i:=2) scRi.nd rfl (Or.inl rfl) (pe_ix ix_both (pe_ix ix_tup (pe_ix ix_both (pv 0) (pv 2) (fun _ _=>rfl)) pe_int (fun _ _=>rfl)) (pv 3) (fun _ _=>rfl)))))
   (pss_one (ps_ret (pe_ix ix_tup (pe_ix ix_both (pv 0) (pv 2) (fun _ _=>rfl)) pe_int (fun _ _=>rfl))))),?_⟩
  refine⟨_,rfl,t,rfl,⟨_,SqT.of ht⟩,?_⟩
  have hw:∀i,0<=walkM rs 0 (ns.take i)/\walkM rs 0 (ns.take i)<(rs.length:Int):=fun i=>walk_in G _ _ (Int.le_refl 0) (by omega) fun l hl=>hx l (List.mem_of_mem_take hl)
  refine for_tup (K:=K) (a:=t) (xs:=ns.map V.int) (fun i σ H2=>∃v3:Option V,σ=[some (.ref r),some (.ref t),some (.int (walkM rs 0 (ns.take i))),v3]/\H2=H) ⟨none,rfl,rfl⟩ (fun i σ H2 _ ⟨_,_,e⟩=>by rw[e];exact SqT.of ht) ?_ ?_
  ·rintro i x σ H2 ex ⟨v3,rfl,rfl⟩
   rw[List.getElem?_map] at ex
   obtain⟨l,el,rfl⟩:=Option.map_eq_some_iff.mp ex
   obtain⟨l0,l1⟩:=hx l (List.mem_of_getElem? el)
   obtain⟨q,z,zs,a1,a2,a3,a4⟩:=room_at G hR (hw i).1 (hw i).2
   refine⟨_,rfl,_,rfl,r,_,_,_,rfl,rfl,sq_or hq,a1,q,_,_,_,rfl,rfl,SqT.of a2,rfl,_,rfl,z,_,_,_,rfl,rfl,sq_or a3,a4 l l0 l1,?_⟩
   have e1:=walk_take rs 0 ns i l el
   refine⟨some (.int l),?_,rfl⟩
   rw[e1]
   rfl
  ·rintro σ H2 ⟨v3,rfl,rfl⟩
   rw[List.length_map,List.take_length]
   have hw':=hw ns.length
   rw[List.take_length] at hw'
   obtain⟨q,z,zs,a1,a2,a3,a4⟩:=room_at G hR hw'.1 hw'.2
   exact⟨_,rfl,_,rfl,r,_,_,_,rfl,rfl,sq_or hq,a1,q,_,_,_,rfl,rfl,SqT.of a2,rfl,k⟩
end
end BG
namespace BG
open PySem L2 SO HT
def isB (rs:List (List Int))(ns:List Int):Prop:=ns=[]\/∃r∈rs,∃j,j<=r.length/\ns=r.take j
def kOf (ns:List Int):SO.KP:=((ns.length:Int),ns)
def Srt (l:List (List Int)):Prop:=l.Pairwise fun a b=>prLt (kOf a) (kOf b)=true
theorem kOf_inj {a b:List Int}(h:kOf a=kOf b):a=b:=(Prod.mk.inj h).2
theorem prLt_asym {x y:SO.KP}(h1:prLt x y=true)(h2:prLt y x=true):False:=lex_asym _ _ h1 h2
theorem prLt_tot {x y:SO.KP}(h1:prLt x y=false)(h2:prLt y x=false):x=y:=prOrd.total x y h1 h2
theorem srt_eq:∀{a b:List (List Int)},Srt a->Srt b->(∀x,x∈a↔x∈b)->a=b
 | [],[],_,_,_=>rfl
 | [],y::b,_,_,h=>by have:=(h y).mpr List.mem_cons_self;cases this
 |x::a,[],_,_,h=>by have:=(h x).mp List.mem_cons_self;cases this
 |x::a,y::b,ha,hb,h=>by
  have ha':=List.pairwise_cons.mp ha
  have hb':=List.pairwise_cons.mp hb
  have hxy:x=y:=by
   rcases List.mem_cons.mp ((h x).mp List.mem_cons_self) with e|e
   ·exact e
   ·rcases List.mem_cons.mp ((h y).mpr List.mem_cons_self) with e'|e'
    ·exact e'.symm
    ·exact(prLt_asym (hb'.1 x e) (ha'.1 y e')).elim
  subst hxy
  have irr:∀z:List Int,prLt (kOf z) (kOf z)=true->False:=fun z q=>prLt_asym q q
  congr 1
  refine srt_eq ha'.2 hb'.2 fun z=>⟨fun hz=>?_,fun hz=>?_⟩
  ·rcases List.mem_cons.mp ((h z).mp (List.mem_cons_of_mem _ hz)) with e|e
   ·subst e;exact(irr _ (ha'.1 _ hz)).elim
   ·exact e
  ·rcases List.mem_cons.mp ((h z).mpr (List.mem_cons_of_mem _ hz)) with e|e
   ·subst e;exact(irr _ (hb'.1 _ hz)).elim
   ·exact e
theorem srt_of {l:List (List Int)}(h:l.Pairwise fun a b=>prLt (kOf b) (kOf a)=false)(nd:l.Nodup):Srt l:=by
 refine(h.and nd).imp fun {a b} hq9=>?_
 obtain⟨h1,h2⟩:=hq9
 cases q:prLt (kOf a) (kOf b) with
 |true=>rfl
 |false=>exact absurd (kOf_inj (prLt_tot q h1)) h2
section
structure ME (H:Hp)(xs:List (KTu×Addr×V))(S:List Int->Prop)(n:Nat):Prop where
 at':∀x∈xs,H x.2.1=some (.tup (x.1.map V.int))
 nd:(xs.map (·.1)).Nodup
 mem:∀ns,ns∈xs.map (·.1)↔S ns
 len:xs.length<=n
 sh:∀x∈xs,x.1.length<=8
theorem ME.same {H H':Hp}{xs:List (KTu×Addr×V)}{S:List Int->Prop}{n:Nat}(h:ME H xs S n)(s:TSame H H'):ME H' xs S n:=⟨fun x hx=>s _ _ (h.at' x hx),h.nd,h.mem,h.len,h.sh⟩
theorem ME.tks {H:Hp}{xs:List (KTu×Addr×V)}{S:List Int->Prop}{n:Nat}(h:ME H xs S n):TKs H xs:=fun x hx=>⟨_,h.at' x hx,nums_ints x.1⟩
theorem putV_fst {κ:Type}[DecidableEq κ](k:κ)(v:V)(x:κ×Addr×V):(putV k v x).1=x.1/\(putV k v x).2.1=x.2.1:=by
 unfold putV
 split<;>exact⟨rfl,rfl⟩
theorem ME.put {H:Hp}{xs:List (KTu×Addr×V)}{S:List Int->Prop}{n:Nat}{k:List Int}{p:Addr}{v:V}(h:ME H xs S n)(hk:H p=some (.tup (k.map V.int)))(hs:k.length<=8):ME H (putH xs k p v) (fun ns=>S ns\/ns=k) (n+1):=by
 have hlen:=putH_length xs k p v
 have hl:=h.len
 unfold putH at hlen ⊢
 by_cases c:(xs.any fun x=>decide (x.1=k))=true
 ·rw[if_pos c] at hlen ⊢
  have hm:(xs.map (putV k v)).map (·.1)=xs.map (·.1):=by
   rw[List.map_map]
   exact List.map_congr_left fun x _=>(putV_fst k v x).1
  obtain⟨x,hx,ex⟩:=List.any_eq_true.mp c
  have ex':x.1=k:=of_decide_eq_true ex
  refine⟨fun y hy=>?_,by rw[hm];exact h.nd,fun ns=>?_,by rw[List.length_map];omega,fun y hy=>?_⟩
  ·obtain⟨z,hz,rfl⟩:=List.mem_map.mp hy
   rw[(putV_fst k v z).1,(putV_fst k v z).2]
   exact h.at' z hz
  ·rw[hm,h.mem]
   refine⟨.inl,fun q=>q.elim id fun e=>?_⟩
   rw[<- h.mem,e,<- ex']
   exact List.mem_map_of_mem hx
  ·obtain⟨z,hz,rfl⟩:=List.mem_map.mp hy
   rw[(putV_fst k v z).1]
   exact h.sh z hz
 ·rw[if_neg c] at hlen ⊢
  have hno:k∉xs.map (·.1):=fun q=>by
   obtain⟨x,hx,ex⟩:=List.mem_map.mp q
   exact c (List.any_eq_true.mpr ⟨x,hx,decide_eq_true ex⟩)
  refine⟨fun y hy=>?_,?_,fun ns=>?_,by omega,fun y hy=>?_⟩
  ·rcases List.mem_append.mp hy with hy|hy
   ·exact h.at' y hy
   ·rw[List.mem_singleton.mp hy];exact hk
  ·rw[List.map_append]
   refine List.nodup_append.mpr ⟨h.nd,by simp,fun a ha b hb=>?_⟩
   have:b=k:=by simpa using hb
   rw[this]
   intro e
   exact hno (e▸ha)
  ·rw[List.map_append,List.mem_append,h.mem]
   simp
  ·rcases List.mem_append.mp hy with hy|hy
   ·exact h.sh y hy
   ·rw[List.mem_singleton.mp hy];exact hs
theorem ME.iff {H:Hp}{xs:List (KTu×Addr×V)}{S S':List Int->Prop}{n:Nat}(h:ME H xs S n)(e:∀ns,S ns↔S' ns):ME H xs S' n:=⟨h.at',h.nd,fun ns=>(h.mem ns).trans (e ns),h.len,h.sh⟩
def S2 (rs:List (List Int))(r:List Int)(j:Nat)(ns:List Int):Prop:=isB rs ns\/∃m,m<j/\ns=r.take m
theorem S2_zero {rs:List (List Int)}{r ns:List Int}:isB rs ns↔S2 rs r 0 ns:=⟨.inl,fun h=>h.elim id fun⟨m,h1,_⟩=>by omega⟩
theorem S2_succ {rs:List (List Int)}{r:List Int}{j:Nat}{ns:List Int}:(S2 rs r j ns\/ns=r.take j)↔S2 rs r (j+1) ns:=by
 unfold S2
 constructor
 ·rintro((h|⟨m,h1,h2⟩)|h)
  ·exact .inl h
  ·exact .inr ⟨m,by omega,h2⟩
  ·exact .inr ⟨j,by omega,h⟩
 ·rintro(h|⟨m,h1,h2⟩)
  ·exact .inl (.inl h)
  ·by_cases e:m=j
   ·subst e;exact .inr h2
   ·exact .inl (.inr ⟨m,by omega,h2⟩)
theorem S2_end {rs:List (List Int)}{r ns:List Int}:S2 rs r (r.length+1) ns↔isB (rs++[r]) ns:=by
 unfold S2 isB
 constructor
 ·rintro((h|⟨q,h1,h2⟩)|⟨m,h1,h2⟩)
  ·exact .inl h
  ·exact .inr ⟨q,List.mem_append_left _ h1,h2⟩
  ·exact .inr ⟨r,List.mem_append_right _ List.mem_cons_self,m,by omega,h2⟩
 ·rintro(h|⟨q,h1,j,h2,h3⟩)
  ·exact .inl (.inl h)
  ·rcases List.mem_append.mp h1 with h1|h1
   ·exact .inl (.inr ⟨q,h1,j,h2,h3⟩)
   ·rw[List.mem_singleton.mp h1] at h2 h3
    exact .inr ⟨j,by omega,h3⟩
end
end BG
namespace BG
open PySem L2 SO K20
def dRun (ns:List Int):PyData:=.tuple (ns.map PyData.int)
theorem dRun_ok (ns:List Int):DOk (dRun ns):=⟨dints_lay ns,by
 unfold dRun
 rw[PyData.depth,dints_depth]
 decide⟩
theorem dRun_eqv (a c:List Int):PyData.eqv (dRun a) (dRun c)=decide (a=c):=eqvs_ints a c
theorem run_dat {K:W.Frag}{H:Hp}{t:Addr}{ns:List Int}(h:RA H t ns):DAt K H (.ref t) (dRun ns):=.tup (SqT.of h) (dints_at ns)
theorem tups_cons {H:Hp}{t:Addr}{ts:List Addr}{g:List Int}{gs:List (List Int)}(h:TupsAt H (t::ts) (g::gs)):RA H t g/\TupsAt H ts gs:=by
 refine⟨?_,by simpa using h.1,fun i n e=>?_⟩
 ·obtain⟨t',e1,e2⟩:=h.2 0 g rfl
  cases e1
  exact e2
 ·obtain⟨t',e1,e2⟩:=h.2 (i+1) n (by simpa using e)
  exact⟨t',by simpa using e1,e2⟩
theorem runs_dat {K:W.Frag}{H:Hp}:∀{ts:List Addr} {gs:List (List Int)},TupsAt H ts gs->DsAt K H (ts.map V.ref) (gs.map dRun)
 | [],[],_=>.nil
 | [],_::_,h=>by have:=h.1;cases this
 |_::_,[],h=>by have:=h.1;cases this
 |t::ts,g::gs,h=>.cons (run_dat (tups_cons h).1) (runs_dat (tups_cons h).2)
theorem dRuns_lay:∀gs:List (List Int),PyData.canLayAll0 (gs.map dRun)=true
 | []=>rfl
 |g::gs=>by
  rw[List.map_cons,PyData.canLayAll0,(dRun_ok g).1,dRuns_lay gs]
  rfl
theorem dRuns_any (gs:List (List Int))(r:List Int):((gs.map dRun).any fun d=>PyData.eqv d (dRun r))=decide (r∈gs):=by
 rw[List.any_map]
 induction gs with
 |nil=>rfl
 |cons g gs ih=>
  rw[List.any_cons,ih]
  show(PyData.eqv (dRun g) (dRun r)||decide (r∈gs))=_
  rw[dRun_eqv]
  by_cases e:g=r
  ·subst e;simp
  ·simp[e,Ne.symm e]
theorem in_runs {K:W.Frag}{H:Hp}{t l:Addr}{ts:List Addr}{r:List Int}{gs:List (List Int)}{neg:Bool}{Q:VK}(ht:RA H t r)(hl:SqL K H l (ts.map V.ref)\/SqT K H l (ts.map V.ref))(hT:TupsAt H ts gs)(q:Q (.bl (if neg then !decide (r∈gs) else decide (r∈gs))) H):rInD K neg (.ref t) (.ref l) H Q:=by
 refine⟨l,_,dRun r,gs.map dRun,rfl,hl,runs_dat hT,run_dat ht,dRun_ok r,dRuns_lay gs,?_⟩
 rw[dRuns_any]
 exact q
theorem tups_app {H:Hp}{ts us:List Addr}{gs bs:List (List Int)}(h:TupsAt H ts gs)(h':TupsAt H us bs):TupsAt H (ts++us) (gs++bs):=by
 refine⟨by rw[List.length_append,List.length_append,h.1,h'.1],fun i n e=>?_⟩
 by_cases hi:i<gs.length
 ·rw[List.getElem?_append_left hi] at e
  obtain⟨t,e1,e2⟩:=h.2 i n e
  exact⟨t,by rw[List.getElem?_append_left (by rw[h.1];exact hi)];exact e1,e2⟩
 ·rw[List.getElem?_append_right (by omega)] at e
  obtain⟨t,e1,e2⟩:=h'.2 _ n e
  exact⟨t,by rw[List.getElem?_append_right (by rw[h.1];omega),h.1];exact e1,e2⟩
theorem tups_snoc {H:Hp}{ts:List Addr}{t:Addr}{gs:List (List Int)}{g:List Int}(h:TupsAt H ts gs)(e:RA H t g):TupsAt H (ts++[t]) (gs++[g]):=
 tups_app h ⟨rfl,fun i n q=>by
  cases i with
  |zero=>cases q;exact⟨t,rfl,e⟩
  |succ i=>simp at q⟩
theorem tups_take {H:Hp}{ts:List Addr}{gs:List (List Int)}(h:TupsAt H ts gs)(n:Nat):TupsAt H (ts.take n) (gs.take n):=⟨by rw[List.length_take,List.length_take,h.1],fun i m e=>by
 rw[List.getElem?_take] at e
 split at e
 ·rename_i hi
  obtain⟨t,e1,e2⟩:=h.2 i m e
  exact⟨t,by rw[List.getElem?_take,if_pos hi];exact e1,e2⟩
 ·cases e⟩
theorem tups_nil {H:Hp}:TupsAt H [] []:=⟨rfl,fun i n e=>by simp at e⟩
def RsB (kd:Bool)(H:Hp)(g:Addr)(gs:List (List Int)):Prop:=∃ts,H g=some (hoB kd (ts.map V.ref))/\TupsAt H ts gs
abbrev RsT (H:Hp)(g:Addr)(gs:List (List Int)):Prop:=RsB false H g gs
abbrev RsL (H:Hp)(g:Addr)(gs:List (List Int)):Prop:=RsB true H g gs
theorem RsB.same {kd:Bool}{H H':Hp}{g:Addr}{gs:List (List Int)}(h:RsB kd H g gs)(s:Same H H'):RsB kd H' g gs:=by
 obtain⟨ts,h1,h2⟩:=h
 exact⟨ts,s _ _ h1,h2.tsame s.tups⟩
structure SrA (H:Hp)(zs:List (Addr×List Int))(S:List Int->Prop):Prop where
 at':∀z∈zs,RA H z.1 z.2
 srt:Srt (zs.map (·.2))
 mem:∀ns,ns∈zs.map (·.2)↔S ns
 len:zs.length<=1000
 sh:∀z∈zs,z.2.length<=8
def S3 (S:List Int->Prop)(r:List Int)(j:Nat)(ns:List Int):Prop:=S ns\/∃m,m<j/\ns=r.take m
theorem S3_succ {S:List Int->Prop}{r:List Int}{j:Nat}{ns:List Int}:(S3 S r j ns\/ns=r.take j)↔S3 S r (j+1) ns:=by
 unfold S3
 constructor
 ·rintro((h|⟨m,h1,h2⟩)|h)
  ·exact .inl h
  ·exact .inr ⟨m,by omega,h2⟩
  ·exact .inr ⟨j,by omega,h⟩
 ·rintro(h|⟨m,h1,h2⟩)
  ·exact .inl (.inl h)
  ·by_cases e:m=j
   ·subst e;exact .inr h2
   ·exact .inl (.inr ⟨m,by omega,h2⟩)
theorem S3_one {rs:List (List Int)}{r ns:List Int}:isB rs ns↔S3 (isB rs) r 1 ns:=⟨.inl,fun h=>h.elim id fun⟨m,h1,h2⟩=>by
 have:m=0:=by omega
 subst this
 exact .inl h2⟩
theorem S3_endB {rs:List (List Int)}{r ns:List Int}:S3 (isB rs) r (r.length+1) ns↔isB (rs++[r]) ns:=by
 unfold S3 isB
 constructor
 ·rintro((h|⟨q,h1,h2⟩)|⟨m,h1,h2⟩)
  ·exact .inl h
  ·exact .inr ⟨q,List.mem_append_left _ h1,h2⟩
  ·exact .inr ⟨r,List.mem_append_right _ List.mem_cons_self,m,by omega,h2⟩
 ·rintro(h|⟨q,h1,j,h2,h3⟩)
  ·exact .inl (.inl h)
  ·rcases List.mem_append.mp h1 with h1|h1
   ·exact .inl (.inr ⟨q,h1,j,h2,h3⟩)
   ·rw[List.mem_singleton.mp h1] at h2 h3
    exact .inr ⟨j,by omega,h3⟩
theorem srt_keys {H:Hp}{us:List (Addr×L2.KP)}{S:List Int->Prop}(h1:∀u∈us,PrA H u)(h2:∀u∈us,u.2=kOf u.2.2)(h3:(us.map (·.2.2)).Nodup)(h4:∀ns,ns∈us.map (·.2.2)↔S ns)(h5:∀u∈us,u.2.2.length<=8){zs:List (Addr×L2.KP)}(hp:zs.Perm us)(hs:zs.Pairwise fun x y=>prLt y.2 x.2=false):
  (∀z∈zs,PrA H z)/\Srt (zs.map (·.2.2))/\(∀ns,ns∈zs.map (·.2.2)↔S ns)/\zs.length=us.length/\∀z∈zs,z.2.2.length<=8:=by
 have hz2:∀z∈zs,z.2=kOf z.2.2:=fun z hz=>h2 z (hp.mem_iff.mp hz)
 refine⟨fun z hz=>h1 z (hp.mem_iff.mp hz),srt_of ?_ ?_,fun ns=>?_,hp.length_eq,fun z hz=>h5 z (hp.mem_iff.mp hz)⟩
 ·rw[List.pairwise_map]
  refine hs.imp_of_mem fun {a c} ha hc hh=>?_
  rw[hz2 a ha,hz2 c hc] at hh
  exact hh
 ·exact((hp.map fun z:Addr×L2.KP=>z.2.2).nodup_iff).mpr h3
 ·exact((hp.map fun z:Addr×L2.KP=>z.2.2).mem_iff (a:=ns)).trans (h4 ns)
end BG
namespace L2
open PySem PySem.Spec PyProof.Rows
section
variable {X:Cx} {P:Program} {w:World}
theorem ps_tputW (hP:X.prog=P)(hw:X.w=w){o i value:Expr}{pos pos':Pos}{td ty tv:TE}(hu:X.A.units+1<cLine)(ho:PE X o td)(hi:PE X i ty)(hv:PE X value tv)(hs:swapsWith value (some (.Subscript o i pos')) pos.line X.env=pure false):
  PS X (.Assign [.Subscript o i pos'] value pos) (sTPutA P w td ty tv):=by subst hP hw;exact ps_tputA hu ho hi hv hs
theorem pe_dispTW (hP:X.prog=P)(hw:X.w=w){ke ve:Expr}{pos:Pos}{ty tv:TE}(hu:X.A.units<cLine)(h:PE X ke ty)(hv:PE X ve tv):PE X (.Dict [some ke] [ve] pos) (tDispTD P w ty tv):=by subst hP hw;exact pe_dispTD hu h hv
theorem call_listTW (hP:X.prog=P)(hw:X.w=w)(hc:X.calm=true):CallR X (.type "list") (fun vs H Q=>∃a xs o,vs=[V.ref a]/\H a=some (TD P w a xs o)/\∀l,H l=none->Q (.ref l) (upd H l (.lst (xs.map fun x=>V.ref x.2.1)))):=by subst hP hw;exact call_listTD hc
theorem pi_keysW {tg o:Expr}{td:TE}{apos cpos:Pos}(hP:X.prog=P)(hw:X.w=w)(ho:PE X o td)(hbase:attributeBase o "keys" X.env (eval o X.env)=eval o X.env:=by rfl)(hline:(apos.endLine==cpos.line)=true:=by rfl):
  PI X tg (.Call (.Attribute o "keys" apos) [] [] cpos) (iKeys P w td):=by subst hP hw;exact pi_keys ho hbase hline
end
end L2
namespace BG
open PySem L2 SO K20
section
variable {P:Program} {w:World} {K:W.Frag} {mg:Str->Option Value} {base:Heap}
def Few (rs:List (List Int)):Prop:=∃l:List (List Int),(∀ns,isB rs ns->ns∈l)/\l.length<=63
theorem nd_len {α:Type}[DecidableEq α]:∀{xs l:List α},xs.Nodup->(∀x∈xs,x∈l)->xs.length<=l.length
 | [],_,_,_=>Nat.zero_le _
 |x::xs,l,nd,h=>by
  have hx:=h x List.mem_cons_self
  have n:=List.nodup_cons.mp nd
  have r:=nd_len (l:=l.erase x) n.2 fun y hy=>(List.mem_erase_of_ne (fun e:y=x=>n.1 (by rw[<- e];exact hy))).mpr (h y (List.mem_cons_of_mem _ hy))
  have e:=List.length_erase_of_mem hx
  have p:=List.length_pos_of_mem hx
  rw[List.length_cons]
  omega
theorem Few.me {H:Hp}{xs:List (KTu×Addr×V)}{rs:List (List Int)}{n:Nat}(f:Few rs)(h:ME H xs (isB rs) n):xs.length<=63:=by
 obtain⟨l,h1,h2⟩:=f
 have:=nd_len h.nd fun ns q=>h1 ns ((h.mem ns).mp q)
 rw[List.length_map] at this
 omega
def spBe:Sp:=fun vs H Q _=>∃(g b:Addr) (kd:Bool) (gs bs:List (List Int)),vs=[.ref g,.ref b]/\RsB kd H g gs/\RsB kd H b bs/\gs.length<=24/\bs.length<=24/\(∀r∈gs++bs,r.length<=8)/\Few (gs++bs)∧
 ∀(l:Addr) (zs:List (Addr×List Int)) (H':Hp),Same H H'->H l=none->H' l=some (.lst (zs.map fun z=>V.ref z.1))->SrA H' zs (isB (gs++bs))->Q (.ref l) H'
theorem scBe:FnScope ["_law_good","_law_bad","_law_there","_law_run_here","_law_stop"] ["_law_good","_law_bad"] (defScope sBe):=.of (by decide +kernel)
def scopeB1:Scope:=⟨.function,[(".0",.local),("_law_run_here",.local),("len",.globalImplicit)],false,false,[]⟩
def scopeB2:Scope:=⟨.function,[(".0",.local),("_law_size",.local),("_law_run_here",.local)],false,false,[]⟩
theorem scB1:BlkScope (defScope sBe) ["_law_good","_law_bad","_law_there","_law_run_here","_law_stop"] ["_law_run_here"] [] [] scopeB1:=.of (by decide +kernel)
theorem scB2:BlkScope (defScope sBe) ["_law_good","_law_bad","_law_there","_law_run_here","_law_stop"] ["_law_size","_law_run_here"] [] [] scopeB2:=.of (by decide +kernel)
theorem ok_be (F:Fun K "_law_begins" "_law_begins" sBe f fd)(T:Txt mg):FnOk P w K mg base CX0 1 f fd ["_law_good","_law_bad"] spBe:=by
 refine F.ok scBe (fun vs H Q E h=>?_) (fun cdv A outer s H vs Q E hr h=>?_)
 ·obtain⟨g,b,kd,gs,bs,rfl,_⟩:=h
  rfl
 ·obtain⟨g,b,kd,gs,bs,rfl,⟨tg,hg,tgs⟩,⟨tb,hb,tbs⟩,lg,lb,hsh,hfew,k⟩:=h
  have hu64:=hr.units
  have hu1:=Nat.lt_of_le_of_lt (Nat.add_le_add_left (by decide:1<=64) _) hu64
  have hu4:=Nat.lt_of_le_of_lt (Nat.add_le_add_left (by decide:4<=64) _) hu64
  have hu0:=Nat.lt_of_le_of_lt (Nat.le_add_right _ 64) hu64
  refine⟨_,pss_cons (ps_set (i:=2) scBe.nd rfl (Or.inl rfl) (pe_dispTW (P:=P) (w:=w) rfl rfl hu0 (pe_tup pa_nil) pe_bl))
   (pss_cons (ps_for PassesOwn.never rfl (pi_seq (pe_op op_catB (pv 0) (pv 1))) (pg_name (i:=3) scBe.nd rfl (Or.inl rfl))
    (pss_one (ps_for PassesOwn.never rfl (pi_range1 rfl T.range (pa_cons (pe_callB call_len_seq (by rfl) T.len PySem.boot_len (pa_cons (pv 3) pa_nil)) pa_nil)) (pg_name (i:=4) scBe.nd rfl (Or.inl rfl))
     (pss_one (ps_tputW (P:=P) (w:=w) rfl rfl hu1 (pv 2) (pe_slice sl_tupA (pv 3) po_none (po_some (pe_op op_add (pv 4) pe_int))) pe_bl rfl)))))
   (pss_one (ps_ret (pe_lc (g:=gTup K 2 (gCons (gName 0) (gCons (gName 1) gNil))) scB2 rfl rfl rfl (pi_list (pe_callB (call_sortedP6 hu4) (by rfl) T.sorted PyProof.Rows.boot_sorted
    (pa_cons (pe_lc scB1 rfl rfl rfl (pi_keysW (P:=P) (w:=w) rfl rfl (pv 2)) (fun fp C s1 H1=>pg_name (i:=0) scB1.nd rfl (Or.inl rfl)) (fun fp C s1 H1=>pts_nil)
     (fun fp C s1 H1=>pe_tup (pa_cons (pe_callB (r:=fun xs H Q=>∃p ys,xs=[.ref p]/\(SqL K H p ys\/SqT K H p ys)/\Q (.int (ys.length:Int)) H) call_len_seq (by rfl) T.len PySem.boot_len (pa_cons (pv 0) pa_nil)) (pa_cons (pv 0) pa_nil)))) pa_nil)))
    (fun fp C s1 H1=>pg_tup (n:=2) rfl (pgs_cons (pg_name (i:=0) scB2.nd rfl (Or.inl rfl)) (pgs_cons (pg_name (i:=1) scB2.nd rfl (Or.inl rfl)) pgs_nil))) (fun fp C s1 H1=>pts_nil) (fun fp C s1 H1=>pv 1))))),?_⟩
  refine fun p o hp=>⟨Nat.zero_le _,fun t ht=>?_⟩
  have htp:t≠p:=fun e=>by rw[e,upd_same] at ht;cases ht
  have hp1:upd (upd H p (TD P w p [] o)) t (.tup []) p=some (TD P w p [] o):=by rw[upd_ne (fun e=>htp e.symm)];exact upd_same
  refine⟨hp1,t,_,[],rfl,⟨[],upd_same,rfl⟩,fun o1=>?_⟩
  have s1:Same H (upd (upd (upd H p (TD P w p [] o)) t (.tup [])) p (TD P w p [([],t,.bl true)] o1)):=(((Same.refl H).upd_free hp).upd_free (by rw[upd_ne htp] at ht;exact ht)).upd_free hp
  have ht1:upd (upd (upd H p (TD P w p [] o)) t (.tup [])) p (TD P w p [([],t,.bl true)] o1) t=some (.tup []):=by rw[upd_ne htp];exact upd_same
  have hp2:upd (upd (upd H p (TD P w p [] o)) t (.tup [])) p (TD P w p [([],t,.bl true)] o1) p=some (TD P w p [([],t,.bl true)] o1):=upd_same
  generalize upd (upd (upd H p (TD P w p [] o)) t (.tup [])) p (TD P w p [([],t,.bl true)] o1)=H1 at s1 ht1 hp2
  refine⟨_,rfl,_,rfl,g,b,_,_,kd,rfl,rfl,s1 _ _ hg,s1 _ _ hb,?_,fun q H2 s2 hq=>?_⟩
  ·rw[List.length_map,List.length_map,tgs.1,tbs.1]
   exact Nat.le_of_lt (small1000 (by omega))
  rw[<- List.map_append] at hq
  refine⟨q,kd,rfl,⟨_,SqB.of hq⟩,?_⟩
  have hT:TupsAt H2 (tg++tb) (gs++bs):=tups_app (tgs.tsame (s1.trans s2).tups) (tbs.tsame (s1.trans s2).tups)
  have hM0:ME H2 [([],t,.bl true)] (isB []) 1:=⟨fun x hx=>by rw[List.mem_singleton.mp hx];exact s2 _ _ ht1,by simp,fun ns=>⟨fun h=>.inl (by simpa using h),fun h=>h.elim (fun e=>by simp[e]) fun⟨r,h1,_⟩=>by cases h1⟩,Nat.le_refl _,fun x hx=>by rw[List.mem_singleton.mp hx];exact Nat.zero_le _⟩
  have hlen:(gs++bs).length<=48:=by rw[List.length_append];omega
  have hp3:=s2 _ _ hp2
  have sH2:=s1.trans s2
  generalize hrs:gs++bs=rs at hT hsh hlen hfew k
  generalize tg++tb=ts at hT hq
  refine for_seq (K:=K) (kd:=kd) (a:=q) (xs:=ts.map V.ref) (fun i σ H3=>∃(xs:List (KTu×Addr×V)) (o3:Obj) (v3 v4:Option V),σ=[some (.ref g),some (.ref b),some (.ref p),v3,v4]/\Same H H3/\SBut p H2 H3/\H3 p=some (TD P w p xs o3)/\ME H3 xs (isB (rs.take i)) (1+9*i))
   ⟨[([],t,.bl true)],o1,none,none,rfl,sH2,SBut.refl,hp3,hM0⟩ (fun i σ H3 _ ⟨_,_,_,_,_,_,sb,_⟩=>SqB.of (sb.get hp3 hq (fun z=>by cases kd<;>cases z))) ?_ ?_
  ·rintro i x σ H3 hx ⟨xs,o3,v3,v4,rfl,s3,sb3,hp4,hM3⟩
   have hi:i<rs.length:=by
    have:=(List.getElem?_eq_some_iff.mp hx).1
    rw[List.length_map,hT.1] at this
    exact this
   have er:rs[i]?=some rs[i]:=List.getElem?_eq_getElem hi
   generalize rs[i]=r at er
   have hr8:r.length<=8:=hsh r (List.mem_of_getElem? er)
   obtain⟨tr,e1,e2⟩:=hT.2 i r er
   rw[List.getElem?_map,e1] at hx
   cases hx
   have hrt:H3 tr=some (.tup (r.map V.int)):=sb3.get hp3 e2 (fun z=>nomatch z)
   have hlr:(r.map V.int).length=r.length:=List.length_map _
   refine⟨_,rfl,tr,_,rfl,.inr (SqT.of hrt),_,rfl,by omega,by omega,?_⟩
   have hn:(((r.map V.int).length:Nat):Int).toNat=r.length:=by omega
   refine for_range (n:=(((r.map V.int).length:Nat):Int).toNat) (fun j σ H4=>∃(xs:List (KTu×Addr×V)) (o4:Obj) (v4:Option V),σ=[some (.ref g),some (.ref b),some (.ref p),some (.ref tr),v4]/\Same H H4/\SBut p H2 H4/\H4 p=some (TD P w p xs o4)/\ME H4 xs (S3 (isB (rs.take i)) r (j+1)) (1+9*i+j))
    ⟨xs,o3,v4,rfl,s3,sb3,hp4,hM3.iff fun ns=>S3_one⟩ ?_ ?_
   ·rintro j σ H4 hj ⟨xs4,o4,v4',rfl,s4,sb4,hp5,hM4⟩
    rw[hn] at hj
    have hrt4:H4 tr=some (.tup (r.map V.int)):=sb4.get hp3 e2 (fun z=>nomatch z)
    refine⟨_,rfl,_,rfl,_,rfl,_,_,rfl,rfl,_,rfl,tr,_,rfl,hrt4,fun pz H5 s5 hpz=>?_⟩
    have ej:(0:Int)+(j:Int)+1=((j+1:Nat):Int):=by omega
    rw[ej,cut_take,<- List.map_take] at hpz
    have hM5:=hM4.same s5.tups
    have hl4:=hM4.len
    have hil:i<=47:=by omega
    refine⟨p,xs4,o4,pz,r.take (j+1),rfl,s5 _ _ hp5,hM5.tks,rfl,⟨_,hpz,nums_ints _⟩,small1000 (by omega),fun o5=>?_⟩
    have tsU:TSame H5 (upd H5 p (TD P w p (putH xs4 (r.take (j+1)) pz (.bl true)) o5)):=fun c ys e=>by
     rw[upd_ne (ne_of e (s5 _ _ hp5) (fun z=>nomatch z))];exact e
    have hM6:=(hM5.put (v:=.bl true) hpz (by rw[List.length_take];omega)).same tsU
    exact⟨_,o5,_,rfl,(s4.trans s5).upd_free hp,(sb4.same s5).upd,upd_same,hM6.iff fun ns=>S3_succ⟩
   ·rintro σ H4 ⟨xs4,o4,v4',rfl,s4,sb4,hp5,hM4⟩
    rw[hn] at hM4
    have e:rs.take (i+1)=rs.take i++[r]:=by rw[List.take_add_one,er];rfl
    refine⟨xs4,o4,_,_,rfl,s4,sb4,hp5,?_⟩
    rw[e]
    have:=hM4.iff fun ns=>S3_endB
    exact⟨this.at',this.nd,this.mem,by have:=this.len;omega,this.sh⟩
  ·rintro σ H3 ⟨xs,o3,v3,v4,rfl,s3,sb3,hp4,hM3⟩
   rw[List.length_map,hT.1,List.take_length] at hM3
   have hxl:xs.length<=63:=hfew.me hM3
   refine⟨_,rfl,p,xs,o3,rfl,hp4,fun D hD=>?_⟩
   refine lc_keys (P:=P) (w:=w) (a:=p) (xs:=xs) (o:=o3) (fun i ys H4=>Same H3 H4/\H4 D=some (.lst ys)/\∃us:List (Addr×L2.KP),ys=us.map (fun u=>V.ref u.1)/\us.map (·.2)=(xs.take i).map (fun x=>kOf x.1)/\∀u∈us,PrA H4 u/\u.1≠D) (Nat.le_of_lt (small9 (by omega)))
    ⟨(Same.refl H3).upd_free hD,upd_same,[],rfl,rfl,fun u hu=>by cases hu⟩ (fun i ys H4 h=>?_) (fun i ys H4 h=>h.1 _ _ hp4) ?_ ?_
   ·obtain⟨_,_,us,rfl,h2,_⟩:=h
    have:=congrArg List.length h2
    rw[List.length_map,List.length_map,List.length_take] at this
    rw[List.length_map]
    omega
   ·rintro i ys H4 x N M hx ⟨u1,u2,us,rfl,h2,h3⟩ hN hM
    have hxa:H4 x.2.1=some (.tup (x.1.map V.int)):=u1 _ _ (hM3.at' x (List.mem_of_getElem? hx))
    refine⟨_,rfl,x.2.1,_,rfl,.inr (SqT.of hxa),_,rfl,(by show 2<=sizeLine;decide),fun q hq=>?_⟩
    have s5:=(Same.refl H4).upd_free (o:=.tup [.int ((x.1.map V.int).length:Int),.ref x.2.1]) hq
    have hq5:upd H4 q (.tup [.int ((x.1.map V.int).length:Int),.ref x.2.1]) q=some (.tup [.int ((x.1.map V.int).length:Int),.ref x.2.1]):=upd_same
    generalize upd H4 q (.tup [.int ((x.1.map V.int).length:Int),.ref x.2.1])=H5 at s5 hq5
    rw[List.length_map] at hq5
    have nqD:q≠D:=fun e=>by rw[e] at hq;rw[hq] at u2;cases u2
    have tsD:TSame H5 (upd H5 D (.lst (us.map (fun u=>V.ref u.1)++[.ref q]))):=TSame.upd_lst (fun _ _ e=>e) (s5 _ _ u2)
    refine hN _ H5 (s5 _ _ u2) ⟨(u1.trans s5).upd_free hD,upd_same,us++[(q,kOf x.1)],by rw[List.map_append];rfl,?_,fun u hu=>?_⟩
    ·rw[List.map_append,h2,List.take_add_one,hx,List.map_append]
     rfl
    ·rcases List.mem_append.mp hu with h|h
     ·exact⟨((h3 u h).1.tsame s5.tups).tsame tsD,(h3 u h).2⟩
     ·rw[List.mem_singleton.mp h]
      exact⟨PrA.tsame ⟨x.2.1,hq5,s5 _ _ hxa⟩ tsD,nqD⟩
   ·rintro ys H4 ⟨u1,u2,us,rfl,h2,h3⟩
    rw[List.take_length] at h2
    have hul:us.length=xs.length:=by
     have:=congrArg List.length h2
     rwa [List.length_map,List.length_map] at this
    have hmm:us.map (·.2.2)=xs.map (·.1):=by
     have:=congrArg (List.map Prod.snd) h2
     rw[List.map_map,List.map_map] at this
     exact this
    refine⟨D,us,rfl,SqL.of u2,fun u hu=>(h3 u hu).1,by omega,fun ls zs hls hpm hso=>?_⟩
    have h2':∀u∈us,u.2=kOf u.2.2/\u.2.2.length<=8:=fun u hu=>by
     have:u.2∈us.map (·.2):=List.mem_map_of_mem hu
     rw[h2] at this
     obtain⟨x,hx,ex⟩:=List.mem_map.mp this
     rw[<- ex]
     exact⟨rfl,hM3.sh x hx⟩
    obtain⟨a1,a2,a3,a4,a5⟩:=srt_keys (S:=isB rs) (fun u hu=>(h3 u hu).1) (fun u hu=>(h2' u hu).1) (by rw[hmm];exact hM3.nd) (fun ns=>by rw[hmm];exact hM3.mem ns) (fun u hu=>(h2' u hu).2) hpm hso
    have s9:=(Same.refl H4).upd_free (o:=.lst (zs.map fun z=>V.ref z.1)) hls
    have hls7:upd H4 ls (.lst (zs.map fun z=>V.ref z.1)) ls=some (.lst (zs.map fun z=>V.ref z.1)):=upd_same
    generalize upd H4 ls (.lst (zs.map fun z=>V.ref z.1))=H7 at s9 hls7
    have sH7:Same H H7:=s3.trans (u1.trans s9)
    refine⟨ls,rfl,⟨_,SqL.of hls7⟩,fun D2 hD2=>?_⟩
    have hzl:(zs.map fun z=>V.ref z.1).length=zs.length:=List.length_map _
    refine lc_list2 (K:=K) (a:=ls) (xs:=zs.map fun z=>V.ref z.1) (fun i ys H8=>Same H7 H8/\H8 D2=some (.lst ys)/\∃vs:List (Addr×List Int),ys=vs.map (fun z=>V.ref z.1)/\vs.map (·.2)=(zs.map (·.2.2)).take i/\∀u∈vs,RA H7 u.1 u.2) (Nat.le_of_lt (small9 (by omega)))
     ⟨(Same.refl H7).upd_free hD2,upd_same,[],rfl,rfl,fun u hu=>by cases hu⟩ (fun i ys H8 h=>?_) (fun i ys H8 h=>SqL.of (h.1 _ _ hls7)) ?_ ?_
    ·obtain⟨_,_,vs,rfl,h2,_⟩:=h
     have:=congrArg List.length h2
     rw[List.length_map,List.length_take] at this
     rw[List.length_map]
     omega
    ·rintro i ys H8 x hx ⟨u1,u2,vs,rfl,h2,h3⟩
     have hi:i<zs.length:=by
      have:=(List.getElem?_eq_some_iff.mp hx).1
      omega
     have ez:zs[i]?=some zs[i]:=List.getElem?_eq_getElem hi
     generalize zs[i]=z at ez
     rw[List.getElem?_map,ez] at hx
     cases hx
     obtain⟨c,c1,c2⟩:=a1 z (List.mem_of_getElem? ez)
     refine⟨z.1,_,_,rfl,SqT.of (u1 _ _ (s9 _ _ c1)),fun N M' hN hM'=>?_⟩
     refine⟨_,rfl,hN _ H8 u2 ⟨u1.upd_free hD2,upd_same,vs++[(c,z.2.2)],by simp,?_,fun u hu=>?_⟩⟩
     ·rw[List.map_append,h2,List.take_add_one,List.getElem?_map,ez]
      rfl
     ·rcases List.mem_append.mp hu with hu|hu
      ·exact h3 u hu
      ·rw[List.mem_singleton.mp hu]
       exact s9 _ _ c2
    ·rintro ys H8 ⟨u1,u2,vs,rfl,h2,h3⟩
     rw[hzl,List.take_of_length_le (by rw[List.length_map];exact Nat.le_refl _)] at h2
     have hvl:vs.length=zs.length:=by
      have:=congrArg List.length h2
      rwa [List.length_map,List.length_map] at this
     refine k D2 vs H8 (sH7.trans u1) (sH7.free hD2) u2 ⟨fun z hz=>u1 _ _ (h3 z hz),by rw[h2];exact a2,fun ns=>?_,by rw[hvl,a4];omega,fun z hz=>?_⟩
     ·rw[h2];exact a3 ns
     ·have:z.2∈vs.map (·.2):=List.mem_map_of_mem hz
      rw[h2] at this
      obtain⟨y,hy,ey⟩:=List.mem_map.mp this
      rw[<- ey]
      exact a5 y hy
end
end BG
namespace BG
open PySem L2 SO K20
def Cnt (rs:List (List Int))(n:Nat):Prop:=∃l:List (List Int),Srt l/\(∀ns,ns∈l↔isB rs ns)/\l.length<=n
theorem isB_sub {a b:List (List Int)}(h:∀r∈a,r∈b){ns:List Int}(q:isB a ns):isB b ns:=q.imp id fun⟨r,h1,h2⟩=>⟨r,h r h1,h2⟩
open Classical in
theorem Cnt.sub {a b:List (List Int)}{n:Nat}(h:Cnt b n)(hs:∀r∈a,r∈b):Cnt a n:=by
 obtain⟨l,h1,h2,h3⟩:=h
 refine⟨l.filter fun ns=>decide (isB a ns),List.Pairwise.filter _ h1,fun ns=>?_,Nat.le_trans (List.length_filter_le _ _) h3⟩
 rw[List.mem_filter,h2,decide_eq_true_iff]
 exact⟨fun q=>q.2,fun q=>⟨isB_sub hs q,q⟩⟩
theorem cnt_of {H:Hp}{zs:List (Addr×List Int)}{rs:List (List Int)}{n:Nat}(h:SrA H zs (isB rs))(hn:zs.length<=n):Cnt rs n:=⟨_,h.srt,h.mem,by rw[List.length_map];exact hn⟩
theorem Cnt.len {H:Hp}{zs:List (Addr×List Int)}{rs:List (List Int)}{n:Nat}(c:Cnt rs n)(h:SrA H zs (isB rs)):zs.length<=n:=by
 obtain⟨l,h1,h2,h3⟩:=c
 have:l=zs.map (·.2):=srt_eq h1 h.srt fun ns=>(h2 ns).trans (h.mem ns).symm
 rw[this,List.length_map] at h3
 exact h3
theorem cut_init (xs:List V):cutV xs none (some (-1))=xs.dropLast:=by
 unfold cutV
 have e:HT.sIx xs.length xs.length (some (-1))=xs.length-1:=by
  have e1:HT.sIx xs.length xs.length (some (-1))=((-1:Int)+(xs.length:Int)).toNat:=by
   unfold HT.sIx
   simp
  rw[e1]
  omega
 rw[e,HT.sIx_none,List.drop_zero,Nat.sub_zero,List.dropLast_eq_take]
theorem tups_init {H:Hp}{ts:List Addr}{gs:List (List Int)}(h:TupsAt H ts gs):TupsAt H ts.dropLast gs.dropLast:=by
 rw[List.dropLast_eq_take,List.dropLast_eq_take,h.1]
 exact tups_take h _
theorem mem_init {gs g2:List (List Int)}{r:List Int}(h:g2=gs\/g2=gs++[r]):∀x∈g2.dropLast,x∈gs:=by
 rcases h with rfl|rfl
 ·exact fun x hx=>(List.dropLast_sublist _).subset hx
 ·rw[List.dropLast_concat]
  exact fun x hx=>hx
structure Twos (many longest:Int)(fr:Prop)(rms:Rms)(gs bs:List (List Int)):Prop where
 g12:gs.length<=12
 b12:bs.length<=12
 sh:∀r∈gs++bs,(r.length:Int)<=longest
 le:∀r∈gs++bs,∀x∈r,0<=x/\x<many
 dis:∀r∈gs,r∉bs
 hid:fr\/(∀r∈gs,gdw rms r=true)/\∀r∈bs,gdw rms r=false
theorem Twos.sub {many longest:Int}{fr:Prop}{rms:Rms}{gs bs g2 b2:List (List Int)}(h:Twos many longest fr rms gs bs)(hg:∀r∈g2,r∈gs)(hb:∀r∈b2,r∈bs)(l1:g2.length<=12)(l2:b2.length<=12):Twos many longest fr rms g2 b2:=by
 have hh:∀r∈g2++b2,r∈gs++bs:=fun r hr=>(List.mem_append.mp hr).elim (fun q=>List.mem_append_left _ (hg r q)) fun q=>List.mem_append_right _ (hb r q)
 exact⟨l1,l2,fun r hr=>h.sh r (hh r hr),fun r hr=>h.le r (hh r hr),fun r hr q=>h.dis r (hg r hr) (hb r q),h.hid.imp id fun⟨a,b⟩=>⟨fun r hr=>a r (hg r hr),fun r hr=>b r (hb r hr)⟩⟩
theorem Cnt.few {rs:List (List Int)}{n:Nat}(c:Cnt rs n)(h:n<=63):Few rs:=by
 obtain⟨l,_,h1,h2⟩:=c
 exact⟨l,fun ns=>(h1 ns).mpr,Nat.le_trans h2 h⟩
theorem few_two {gs bs g2 b2:List (List Int)}{r:List Int}{n:Nat}(c:Cnt (gs++bs) n)(og:g2=gs\/g2=gs++[r])(ob:b2=bs\/b2=bs++[r])(hr:r.length<=8)(hn:n<=54):Few (g2++b2):=by
 obtain⟨l,_,h1,h2⟩:=c
 refine⟨l++(List.range (r.length+1)).map fun j=>r.take j,fun ns h=>?_,by rw[List.length_append,List.length_map,List.length_range];omega⟩
 rcases h with e|⟨q,hq,j,hj,e⟩
 ·exact List.mem_append_left _ ((h1 ns).mpr (.inl e))
 ·have hq':q∈gs++bs\/q=r:=by
   rcases List.mem_append.mp hq with h|h
   ·rcases og with e|e<;>rw[e] at h
    ·exact .inl (List.mem_append_left _ h)
    ·exact(List.mem_append.mp h).imp (List.mem_append_left _) List.mem_singleton.mp
   ·rcases ob with e|e<;>rw[e] at h
    ·exact .inl (List.mem_append_right _ h)
    ·exact(List.mem_append.mp h).imp (List.mem_append_right _) List.mem_singleton.mp
  rcases hq' with h|rfl
  ·exact List.mem_append_left _ ((h1 ns).mpr (.inr ⟨q,h,j,hj,e⟩))
  ·exact List.mem_append_right _ (List.mem_map.mpr ⟨j,List.mem_range.mpr (by omega),e.symm⟩)
section
variable {P:Program} {w:World} {K:W.Frag} {mg:Str->Option Value} {base:Heap}
def spTw (K:W.Frag):Sp:=fun vs H Q _=>∃(a:Addr) (ns:List Int) (many size longest limit:Int),vs=[.ref a,.int many,.int size,.int longest,.int limit]/\SqL K H a (ns.map V.int)/\ns.length<=63/\0<=many/\many<=8/\1<=size/\size<=5/\0<=longest/\longest<=8/\1<=limit/\limit<=54∧
 ∀(t g b:Addr) (gs bs:List (List Int)) (rms:Rms) (H':Hp),Same H H'->H' t=some (.tup [.ref g,.ref b])->RsT H' g gs->RsT H' b bs->Good many rms->(rms.length:Int)=size->Twos many longest (cellM ns 2 / 13%4=3) rms gs bs->Cnt (gs++bs) limit.toNat->Q (.ref t) H'
abbrev nTw:List Str:=["_law_script","_law_many","_law_size","_law_longest","_law_limit","_law_hidden_here","_law_good","_law_bad","_law_k","_law_cell","_law_run_here","_law_right_here"]
theorem scTw:FnScope nTw ["_law_script","_law_many","_law_size","_law_longest","_law_limit"] (defScope sTw):=.of (by decide +kernel)
theorem ok_tw (F:Fun K "_law_two" "_law_two" sTw f fd)(T:Txt mg)
  (FC:Fun K "_law_cell_at" "_law_cell_at" sCe fC fdC) (bC:Binds K fdC ["_law_script","_law_k"] []) (gC:mg "_law_cell_at"=some (.ref fC)) (GC:FnOk P w K mg base CX0 1 fC fdC ["_law_script","_law_k"] (spCe K))
  (FH:Fun K "_law_hidden" "_law_hidden" sHi fH fdH) (bH:Binds K fdH ["_law_cell","_law_many","_law_size"] []) (gH:mg "_law_hidden"=some (.ref fH)) (GH:FnOk P w K mg base CX0 2 fH fdH ["_law_cell","_law_many","_law_size"] spHi)
  (FR:Fun K "_law_run" "_law_run" sRu fR fdR) (bR:Binds K fdR ["_law_cell","_law_many","_law_longest"] []) (gR:mg "_law_run"=some (.ref fR)) (GR:FnOk P w K mg base CX0 1 fR fdR ["_law_cell","_law_many","_law_longest"] spRu)
  (FI:Fun K "_law_right" "_law_right" sRi fI fdI) (bI:Binds K fdI ["_law_rooms","_law_run_here"] []) (gI:mg "_law_right"=some (.ref fI)) (GI:FnOk P w K mg base CX0 1 fI fdI ["_law_rooms","_law_run_here"] spRi)
  (FB:Fun K "_law_begins" "_law_begins" sBe fB fdB) (bB:Binds K fdB ["_law_good","_law_bad"] []) (gB:mg "_law_begins"=some (.ref fB)) (GB:FnOk P w K mg base CX0 1 fB fdB ["_law_good","_law_bad"] spBe):
  FnOk P w K mg base CX0 3 f fd ["_law_script","_law_many","_law_size","_law_longest","_law_limit"] (spTw K):=by
 refine F.ok scTw (fun vs H Q E h=>?_) (fun cdv A outer s H vs Q E hr h=>?_)
 ·obtain⟨a,ns,many,size,longest,limit,rfl,_⟩:=h
  rfl
 ·obtain⟨a,ns,many,size,longest,limit,rfl,hS,hn63,m0,m1,z0,z1,l0,l1,t0,t1,k⟩:=h
  have hr1:Room 1 _:=hr.mono (by decide)
  have hu64:=hr.units
  refine⟨_,pss_cons (ps_set (i:=5) scTw.nd rfl (Or.inl rfl) (pe_call GH hr rfl gH FH.kp bH .nil pass0 (pa_cons (pe_call GC hr1 rfl gC FC.kp bC .nil pass0 (pa_cons (pv 0) (pa_cons pe_int pa_nil))) (pa_cons (pv 1) (pa_cons (pv 2) pa_nil)))))
   (pss_cons (ps_set (i:=6) scTw.nd rfl (Or.inl rfl) (pe_lst pa_nil))
   (pss_cons (ps_set (i:=7) scTw.nd rfl (Or.inl rfl) (pe_lst pa_nil))
   (pss_cons (ps_for PassesOwn.never rfl (pi_range2 rfl T.range (pa_cons pe_int (pa_cons (pe_callB (call_max2 rfl) (by rfl) T.max PyProof.Rows.boot_max (pa_cons (pe_op op_add pe_int (pe_op op_mod (pe_call GC hr1 rfl gC FC.kp bC .nil pass0 (pa_cons (pv 0) (pa_cons pe_int pa_nil))) pe_int)) (pa_cons (pe_callB (call_min2 rfl) (by rfl) T.min PyProof.Rows.boot_min (pa_cons (pe_callB call_len_seq (by rfl) T.len PySem.boot_len (pa_cons (pv 0) pa_nil)) (pa_cons pe_int pa_nil))) pa_nil))) pa_nil))) (pg_name (i:=8) scTw.nd rfl (Or.inl rfl))
    (pss_cons (ps_set (i:=9) scTw.nd rfl (Or.inl rfl) (pe_call GC hr1 rfl gC FC.kp bC .nil pass0 (pa_cons (pv 0) (pa_cons (pv 8) pa_nil))))
    (pss_cons (ps_set (i:=10) scTw.nd rfl (Or.inl rfl) (pe_call GR hr1 rfl gR FR.kp bR .nil pass0 (pa_cons (pe_op op_fdiv (pv 9) pe_int) (pa_cons (pv 1) (pa_cons (pv 3) pa_nil)))))
    (pss_cons (ps_set (i:=11) scTw.nd rfl (Or.inl rfl) (pe_call GI hr1 rfl gI FI.kp bI .nil pass0 (pa_cons (pv 5) (pa_cons (pv 10) pa_nil))))
    (pss_cons (ps_cut (ps_if (pt_cmpR op_eq (pe_op op_mod (pe_op op_fdiv (pe_call GC hr1 rfl gC FC.kp bC .nil pass0 (pa_cons (pv 0) (pa_cons pe_int pa_nil))) pe_int) pe_int) pe_int (nomark _)) (pss_one (ps_set (i:=11) scTw.nd rfl (Or.inl rfl) (pe_cmpR op_eq (pe_op op_mod (pv 9) pe_int) pe_int (nomark _)))) pss_nil))
    (pss_cons (ps_cut (ps_if (PW.pt (pw_and (pt_val (pv 11)) (pw_and (pt_cmpR (op_notInD hu64) (pv 10) (pv 7) (by with_unfolding_all rfl)) (pw_and1 (pt_cmpR op_lt (pe_callB call_len_seq (by rfl) T.len PySem.boot_len (pa_cons (pv 6) pa_nil)) pe_int (nomark _))))))
     (pss_one (ps_expr (pe_bm PySem.F.plainAttrs_list PySem.F.slot_list_append PySem.F.type_list_append mt_append (pv 6) (pa_cons (pv 10) pa_nil)))) pss_nil))
    (pss_cons (ps_cut (ps_if (PW.pt (pw_and (pt_not (pt_val (pv 11))) (pw_and (pt_cmpR (op_notInD hu64) (pv 10) (pv 6) (by with_unfolding_all rfl)) (pw_and1 (pt_cmpR op_lt (pe_callB call_len_seq (by rfl) T.len PySem.boot_len (pa_cons (pv 7) pa_nil)) pe_int (nomark _))))))
     (pss_one (ps_expr (pe_bm PySem.F.plainAttrs_list PySem.F.slot_list_append PySem.F.type_list_append mt_append (pv 7) (pa_cons (pv 10) pa_nil)))) pss_nil))
    (pss_one (ps_if (pt_cmpR op_gt (pe_callB call_len_seq (by rfl) T.len PySem.boot_len (pa_cons (pe_call GB hr1 rfl gB FB.kp bB .nil pass0 (pa_cons (pv 6) (pa_cons (pv 7) pa_nil))) pa_nil)) (pv 4) (nomark _))
     (pss_cons (ps_set (i:=6) scTw.nd rfl (Or.inl rfl) (pe_slice sl_list (pv 6) po_none (po_some (pe_un un_neg pe_int))))
     (pss_one (ps_set (i:=7) scTw.nd rfl (Or.inl rfl) (pe_slice sl_list (pv 7) po_none (po_some (pe_un un_neg pe_int)))))) pss_nil)))))))))
   (pss_one (ps_ret (pe_tup (pa_cons (pe_callTy call_tuple_of (by rfl) T.tuple PyProof.Rows.boot_tuple (pa_cons (pv 6) pa_nil)) (pa_cons (pe_callTy call_tuple_of (by rfl) T.tuple PyProof.Rows.boot_tuple (pa_cons (pv 7) pa_nil)) pa_nil)))))))),?_⟩
  refine⟨_,rfl,a,ns,1,rfl,hS,by omega,by decide,by decide,fun H1 s1=>?_⟩
  refine⟨_,rfl,_,rfl,_,many,size,rfl,m0,m1,z0,z1,fun r rms H0 s01 hR G hsz=>?_⟩
  have sH0:=s1.trans s01
  refine⟨Nat.zero_le _,fun g0 hg0=>⟨Nat.zero_le _,fun b0 hb0=>?_⟩⟩
  have sA:=(Same.refl H0).upd_free (o:=.lst []) hg0
  have qg:upd H0 g0 (.lst []) g0=some (.lst []):=upd_same
  have hb0':=sA.free hb0
  have ngb:g0≠b0:=fun e=>by rw[<- e] at hb0;rw[hb0] at qg;cases qg
  generalize upd H0 g0 (.lst [])=H2 at sA qg hb0
  have sB:=(Same.refl H2).upd_free (o:=.lst []) hb0
  have qb:upd H2 b0 (.lst []) b0=some (.lst []):=upd_same
  have qg':=sB _ _ qg
  generalize upd H2 b0 (.lst [])=H3 at sB qb qg'
  have sH3:=sH0.trans (sA.trans sB)
  refine⟨_,rfl,a,ns,2,rfl,sH3.seq hS,by omega,by decide,by decide,fun H4 s4=>?_⟩
  refine⟨_,_,rfl,rfl,(by show(0:Int)<13;decide),_,_,rfl,rfl,_,rfl,a,_,rfl,.inl ((sH3.trans s4).seq hS),_,_,rfl,_,_,rfl,?_⟩
  have hc2:0<=cellM ns 2%13/\cellM ns 2%13<13:=⟨Int.emod_nonneg _ (by decide),Int.emod_lt_of_pos _ (by decide)⟩
  generalize hhi:(if (if (27:Int)<((ns.map V.int).length:Int) then(27:Int) else((ns.map V.int).length:Int)) > 3+cellM ns 2%13 then(if (27:Int)<((ns.map V.int).length:Int) then(27:Int) else((ns.map V.int).length:Int)) else 3+cellM ns 2%13)=hi
  have hib:3<=hi/\hi<=63:=by
   rw[List.length_map] at hhi
   rw[<- hhi]
   constructor<;>(split<;>(try split)<;>omega)
  refine⟨_,_,rfl,⟨by omega,by omega,by omega,by omega⟩,?_⟩
  have c0:Cnt ([]++[]) limit.toNat:=⟨[[]],List.pairwise_singleton _ _,fun ns=>⟨fun h=>.inl (by simpa using h),fun h=>h.elim (fun e=>by simp[e]) fun⟨r,h1,_⟩=>by cases h1⟩,by show 1<=_;omega⟩
  refine for_range (lo:=3) (n:=(hi-3).toNat) (fun i σ H5=>∃(g b:Addr) (gs bs:List (List Int)) (v8 v9 v10 v11:Option V),σ=[some (.ref a),some (.int many),some (.int size),some (.int longest),some (.int limit),some (.ref r),some (.ref g),some (.ref b),v8,v9,v10,v11]∧
    Same H0 H5/\H0 g=none/\H0 b=none/\g≠b/\RsL H5 g gs/\RsL H5 b bs/\Twos many longest (cellM ns 2 / 13%4=3) rms gs bs/\Cnt (gs++bs) limit.toNat)
   ⟨g0,b0,[],[],none,none,none,none,rfl,(sA.trans sB).trans s4,hg0,hb0',ngb,⟨[],s4 _ _ qg',tups_nil⟩,⟨[],s4 _ _ qb,tups_nil⟩,⟨by decide,by decide,fun r hr'=>by(cases hr'),fun r hr'=>by(cases hr'),fun r hr'=>by(cases hr'),.inr ⟨fun r hr'=>by(cases hr'),fun r hr'=>by(cases hr')⟩⟩,c0⟩ ?_ ?_
  ·rintro i σ H5 hi' ⟨g,b,gs,bs,v8,v9,v10,v11,rfl,s5,fg,fb,nab,hg,hb,hT,hC⟩
   have hS5:=(sH0.trans s5).seq hS
   refine⟨_,rfl,_,rfl,a,ns,_,rfl,hS5,by omega,by omega,by omega,fun H6 s6=>?_⟩
   refine⟨_,rfl,_,_,rfl,rfl,⟨by decide,by decide⟩,_,rfl,_,rfl,_,many,longest,rfl,m0,m1,l0,l1,fun t rn H7 s7 ht hrl hrx=>?_⟩
   have s57:=s6.trans s7
   refine⟨_,rfl,_,rfl,r,t,many,rms,rn,rfl,hR.same (s5.trans s57),G,ht,hrx,?_⟩
   refine⟨fun σ' H'=>∃bt:Bool,σ'=[some (.ref a),some (.int many),some (.int size),some (.int longest),some (.int limit),some (.ref r),some (.ref g),some (.ref b),some (.int (3+(i:Int))),some (.int (cellM ns (3+(i:Int)))),some (.ref t),some (.bl bt)]/\Same H7 H'/\(cellM ns 2 / 13%4=3\/bt=gdw rms rn),?_,?_⟩
   ·refine⟨_,rfl,a,ns,2,rfl,(sH0.trans (s5.trans s57)).seq hS,by omega,by decide,by decide,fun H8 s8=>?_⟩
    refine⟨_,_,rfl,rfl,⟨by decide,by decide⟩,_,_,rfl,rfl,(by show(0:Int)<4;decide),rfl,_,rfl,?_⟩
    refine ite2 (fun hc=>?_) (fun hc=>?_)
    ·have hc':cellM ns 2 / 13%4=3:=by
      have:=of_decide_eq_true hc
      injection this
     exact⟨_,rfl,_,_,rfl,rfl,(by show(0:Int)<3;decide),rfl,_,rfl,s8,.inl hc'⟩
    ·exact⟨_,rfl,s8,.inr rfl⟩
   rintro σ' H8 ⟨bt,rfl,s8,hbt⟩
   have s58:=s57.trans s8
   obtain⟨tg,hg1,hg2⟩:=hg.same s58
   obtain⟨tb,hb1,hb2⟩:=hb.same s58
   have ht8:=s8 _ _ ht
   have s08:=s5.trans s58
   have g12:=hT.g12
   have b12:=hT.b12
   have lgt:(tg.map V.ref).length=gs.length:=by rw[List.length_map];exact hg2.1
   have lbt:(tb.map V.ref).length=bs.length:=by rw[List.length_map];exact hb2.1
   clear hg hb
   refine⟨fun σ' H'=>∃gs':List (List Int),σ'=[some (.ref a),some (.int many),some (.int size),some (.int longest),some (.int limit),some (.ref r),some (.ref g),some (.ref b),some (.int (3+(i:Int))),some (.int (cellM ns (3+(i:Int)))),some (.ref t),some (.bl bt)]/\Same H0 H'/\RsL H' g gs'/\RsL H' b bs/\RA H' t rn/\((gs'=gs)\/(bt=true/\gs'=gs++[rn]/\rn∉bs/\gs'.length<=12)),?_,?_⟩
   ·refine⟨_,rfl,bt,rfl,?_⟩
    have stay:∃gs':List (List Int),[some (V.ref a),some (.int many),some (.int size),some (.int longest),some (.int limit),some (.ref r),some (.ref g),some (.ref b),some (.int (3+(i:Int))),some (.int (cellM ns (3+(i:Int)))),some (.ref t),some (.bl bt)]=[some (V.ref a),some (.int many),some (.int size),some (.int longest),some (.int limit),some (.ref r),some (.ref g),some (.ref b),some (.int (3+(i:Int))),some (.int (cellM ns (3+(i:Int)))),some (.ref t),some (.bl bt)]/\Same H0 H8/\RsL H8 g gs'/\RsL H8 b bs/\RA H8 t rn/\((gs'=gs)\/(bt=true/\gs'=gs++[rn]/\rn∉bs/\gs'.length<=12)):=⟨gs,rfl,s08,⟨tg,hg1,hg2⟩,⟨tb,hb1,hb2⟩,ht8,.inl rfl⟩
    refine ite2 (fun hbt'=>?_) (fun _=>iteF stay)
    refine⟨_,rfl,_,rfl,in_runs ht8 (.inl (SqL.of hb1)) hb2 ⟨_,rfl,?_⟩⟩
    refine ite2 (fun hnb=>?_) (fun _=>iteF stay)
    have hnb':rn∉bs:=by simpa using hnb
    refine⟨_,rfl,g,_,rfl,.inl (SqL.of hg1),_,_,rfl,rfl,_,rfl,?_⟩
    refine ite2 (fun hlt=>?_) (fun _=>stay)
    have hlt':((tg.map V.ref).length:Int)<12:=of_decide_eq_true hlt
    refine⟨_,rfl,.inl ⟨rfl,_,SqL.of hg1⟩,_,rfl,g,_,_,rfl,rfl,hg1,small1000 (by omega),?_⟩
    have ts8:TSame H8 (upd H8 g (.lst (tg.map V.ref++[.ref t]))):=TSame.upd_lst (fun _ _ e=>e) hg1
    refine⟨gs++[rn],rfl,s08.upd_free fg,⟨tg++[t],by rw[upd_same,List.map_append];rfl,tups_snoc (hg2.tsame ts8) (ts8 _ _ ht8)⟩,⟨tb,by rw[upd_ne nab.symm];exact hb1,hb2.tsame ts8⟩,ts8 _ _ ht8,.inr ⟨hbt',rfl,hnb',by rw[List.length_append,List.length_singleton];omega⟩⟩
   rintro σ' H9 ⟨gs',rfl,s09,⟨tg',hg1',hg2'⟩,⟨tb',hb1',hb2'⟩,ht9,hcase⟩
   have lbt':(tb'.map V.ref).length=bs.length:=by rw[List.length_map];exact hb2'.1
   clear hg1 hg2 hb1 hb2
   refine⟨fun σ' H'=>∃gs2 bs2:List (List Int),σ'=[some (.ref a),some (.int many),some (.int size),some (.int longest),some (.int limit),some (.ref r),some (.ref g),some (.ref b),some (.int (3+(i:Int))),some (.int (cellM ns (3+(i:Int)))),some (.ref t),some (.bl bt)]/\Same H0 H'/\RsL H' g gs2/\RsL H' b bs2/\(gs2=gs\/gs2=gs++[rn])/\(bs2=bs\/bs2=bs++[rn])/\Twos many longest (cellM ns 2 / 13%4=3) rms gs2 bs2,?_,?_⟩
   ·have tw1:Twos many longest (cellM ns 2 / 13%4=3) rms gs' bs:=by
     rcases hcase with rfl|⟨hb',rfl,hnb,h12⟩
     ·exact hT
     ·refine⟨h12,hT.b12,fun q hq=>?_,fun q hq=>?_,fun q hq=>?_,?_⟩
      ·rcases List.mem_append.mp hq with h|h
       ·rcases List.mem_append.mp h with h|h
        ·exact hT.sh q (List.mem_append_left _ h)
        ·rw[List.mem_singleton.mp h];exact hrl
       ·exact hT.sh q (List.mem_append_right _ h)
      ·rcases List.mem_append.mp hq with h|h
       ·rcases List.mem_append.mp h with h|h
        ·exact hT.le q (List.mem_append_left _ h)
        ·rw[List.mem_singleton.mp h];exact hrx
       ·exact hT.le q (List.mem_append_right _ h)
      ·rcases List.mem_append.mp hq with h|h
       ·exact hT.dis q h
       ·rw[List.mem_singleton.mp h];exact hnb
      ·rcases hT.hid with h|⟨h1,h2⟩
       ·exact .inl h
       ·rcases hbt with h|h
        ·exact .inl h
        ·refine .inr ⟨fun q hq=>?_,h2⟩
         rcases List.mem_append.mp hq with h'|h'
         ·exact h1 q h'
         ·rw[List.mem_singleton.mp h',<- h];exact hb'
    have gor:gs'=gs\/gs'=gs++[rn]:=hcase.imp id fun h=>h.2.1
    have stay:∃gs2 bs2:List (List Int),[some (V.ref a),some (.int many),some (.int size),some (.int longest),some (.int limit),some (.ref r),some (.ref g),some (.ref b),some (.int (3+(i:Int))),some (.int (cellM ns (3+(i:Int)))),some (.ref t),some (.bl bt)]=[some (V.ref a),some (.int many),some (.int size),some (.int longest),some (.int limit),some (.ref r),some (.ref g),some (.ref b),some (.int (3+(i:Int))),some (.int (cellM ns (3+(i:Int)))),some (.ref t),some (.bl bt)]/\Same H0 H9/\RsL H9 g gs2/\RsL H9 b bs2/\(gs2=gs\/gs2=gs++[rn])/\(bs2=bs\/bs2=bs++[rn])/\Twos many longest (cellM ns 2 / 13%4=3) rms gs2 bs2:=⟨gs',bs,rfl,s09,⟨tg',hg1',hg2'⟩,⟨tb',hb1',hb2'⟩,gor,.inl rfl,tw1⟩
    refine⟨_,rfl,bt,rfl,?_⟩
    refine ite2 (fun hnb'=>?_) (fun _=>iteF stay)
    have hbf:bt=false:=by simpa using hnb'
    refine⟨_,rfl,_,rfl,in_runs ht9 (.inl (SqL.of hg1')) hg2' ⟨_,rfl,?_⟩⟩
    refine ite2 (fun hng=>?_) (fun _=>iteF stay)
    have hng':rn∉gs':=by simpa using hng
    refine⟨_,rfl,b,_,rfl,.inl (SqL.of hb1'),_,_,rfl,rfl,_,rfl,?_⟩
    refine ite2 (fun hlt=>?_) (fun _=>stay)
    have hlt':((tb'.map V.ref).length:Int)<12:=of_decide_eq_true hlt
    refine⟨_,rfl,.inl ⟨rfl,_,SqL.of hb1'⟩,_,rfl,b,_,_,rfl,rfl,hb1',small1000 (by omega),?_⟩
    have ts9:TSame H9 (upd H9 b (.lst (tb'.map V.ref++[.ref t]))):=TSame.upd_lst (fun _ _ e=>e) hb1'
    refine⟨gs',bs++[rn],rfl,s09.upd_free fb,⟨tg',by rw[upd_ne nab];exact hg1',hg2'.tsame ts9⟩,⟨tb'++[t],by rw[upd_same,List.map_append];rfl,tups_snoc (hb2'.tsame ts9) (ts9 _ _ ht9)⟩,gor,.inr rfl,⟨tw1.g12,by rw[List.length_append,List.length_singleton];omega,fun q hq=>?_,fun q hq=>?_,fun q hq hq2=>?_,?_⟩⟩
    ·rcases List.mem_append.mp hq with h|h
     ·exact tw1.sh q (List.mem_append_left _ h)
     ·rcases List.mem_append.mp h with h|h
      ·exact tw1.sh q (List.mem_append_right _ h)
      ·rw[List.mem_singleton.mp h];exact hrl
    ·rcases List.mem_append.mp hq with h|h
     ·exact tw1.le q (List.mem_append_left _ h)
     ·rcases List.mem_append.mp h with h|h
      ·exact tw1.le q (List.mem_append_right _ h)
      ·rw[List.mem_singleton.mp h];exact hrx
    ·rcases List.mem_append.mp hq2 with h|h
     ·exact tw1.dis q hq h
     ·rw[List.mem_singleton.mp h] at hq;exact hng' hq
    ·rcases tw1.hid with h|⟨h1,h2⟩
     ·exact .inl h
     ·rcases hbt with h|h
      ·exact .inl h
      ·refine .inr ⟨h1,fun q hq=>?_⟩
       rcases List.mem_append.mp hq with h'|h'
       ·exact h2 q h'
       ·rw[List.mem_singleton.mp h',<- h];exact hbf
   rintro σ' H10 ⟨gs2,bs2,rfl,s010,hg2,hb2,og,ob,tw2⟩
   have w1:=tw2.g12
   have w2:=tw2.b12
   refine⟨_,rfl,_,rfl,g,b,true,gs2,bs2,rfl,hg2,hb2,by omega,by omega,fun q hq=>by have:=tw2.sh q hq;omega,few_two hC og ob (by omega) (by omega),fun lz zs H11 s11 flz hlz hsr=>?_⟩
   refine⟨lz,_,rfl,.inl (SqL.of hlz),_,rfl,_,_,rfl,rfl,_,rfl,?_⟩
   refine ite2 (fun hgt=>?_) (fun hle=>?_)
   ·obtain⟨tg2,e1,e2⟩:=hg2.same s11
    obtain⟨tb2,e3,e4⟩:=hb2.same s11
    refine⟨_,rfl,_,rfl,_,rfl,g,_,rfl,SqL.of e1,fun p1 hp1=>?_⟩
    have s12:=(Same.refl H11).upd_free (o:=.lst (cutV (tg2.map V.ref) none (some (-1)))) hp1
    have q1:upd H11 p1 (.lst (cutV (tg2.map V.ref) none (some (-1)))) p1=some (.lst (cutV (tg2.map V.ref) none (some (-1)))):=upd_same
    generalize upd H11 p1 (.lst (cutV (tg2.map V.ref) none (some (-1))))=H12 at s12 q1
    refine⟨_,rfl,_,rfl,_,rfl,b,_,rfl,SqL.of (s12 _ _ e3),fun p2 hp2=>?_⟩
    have s13:=(Same.refl H12).upd_free (o:=.lst (cutV (tb2.map V.ref) none (some (-1)))) hp2
    have q2:upd H12 p2 (.lst (cutV (tb2.map V.ref) none (some (-1)))) p2=some (.lst (cutV (tb2.map V.ref) none (some (-1)))):=upd_same
    have np:p1≠p2:=fun e=>by rw[<- e] at hp2;rw[hp2] at q1;cases q1
    generalize upd H12 p2 (.lst (cutV (tb2.map V.ref) none (some (-1))))=H13 at s13 q2
    rw[cut_init,<- List.map_dropLast] at q1 q2
    have sE:=(s12.trans s13).tups
    have ig:=mem_init og
    have ib:=mem_init ob
    have lg':gs2.dropLast.length<=12:=by rw[List.length_dropLast];omega
    have lb':bs2.dropLast.length<=12:=by rw[List.length_dropLast];omega
    refine⟨p1,p2,gs2.dropLast,bs2.dropLast,_,_,_,_,rfl,(s010.trans s11).trans (s12.trans s13),(s010.trans s11).free hp1,((s010.trans s11).trans s12).free hp2,np,⟨_,s13 _ _ q1,tups_init (e2.tsame sE)⟩,⟨_,q2,tups_init (e4.tsame sE)⟩,hT.sub ig ib lg' lb',hC.sub fun q hq=>?_⟩
    rcases List.mem_append.mp hq with h|h
    ·exact List.mem_append_left _ (ig q h)
    ·exact List.mem_append_right _ (ib q h)
   ·have hle':zs.length<=limit.toNat:=by
     have:¬limit<((zs.map fun z=>V.ref z.1).length:Int):=fun q=>hle (decide_eq_true q)
     rw[List.length_map] at this
     omega
    exact⟨g,b,gs2,bs2,_,_,_,_,rfl,s010.trans s11,fg,fb,nab,hg2.same s11,hb2.same s11,tw2,cnt_of hsr hle'⟩
  ·rintro σ H5 ⟨g,b,gs,bs,v8,v9,v10,v11,rfl,s5,fg,fb,nab,⟨tg,hg1,hg2⟩,⟨tb,hb1,hb2⟩,hT,hC⟩
   refine⟨_,rfl,g,_,rfl,.inl ⟨SqL.of hg1,fun pg hpg=>?_⟩⟩
   have s6:=(Same.refl H5).upd_free (o:=.tup (tg.map V.ref)) hpg
   have q1:upd H5 pg (.tup (tg.map V.ref)) pg=some (.tup (tg.map V.ref)):=upd_same
   generalize upd H5 pg (.tup (tg.map V.ref))=H6 at s6 q1
   refine⟨_,rfl,b,_,rfl,.inl ⟨SqL.of (s6 _ _ hb1),fun pb hpb=>?_⟩⟩
   have s7:=(Same.refl H6).upd_free (o:=.tup (tb.map V.ref)) hpb
   have q2:upd H6 pb (.tup (tb.map V.ref)) pb=some (.tup (tb.map V.ref)):=upd_same
   generalize upd H6 pb (.tup (tb.map V.ref))=H7 at s7 q2
   refine⟨(by show 2<=sizeLine;decide),fun pt hpt=>?_⟩
   have s8:=(Same.refl H7).upd_free (o:=.tup [.ref pg,.ref pb]) hpt
   have q3:upd H7 pt (.tup [.ref pg,.ref pb]) pt=some (.tup [.ref pg,.ref pb]):=upd_same
   generalize upd H7 pt (.tup [.ref pg,.ref pb])=H8 at s8 q3
   have s58:=(s6.trans s7).trans s8
   exact k pt pg pb gs bs rms H8 (sH0.trans (s5.trans s58)) q3 ⟨tg,s8 _ _ (s7 _ _ q1),hg2.tsame s58.tups⟩ ⟨tb,s8 _ _ q2,hb2.tsame s58.tups⟩ G hsz hT hC
end
end BG
namespace BG
open PySem L2 SO K20
def AP (gs bs:List (List Int))(a b t:List Int):Prop:=(a++t∈gs/\b++t∈bs)\/(b++t∈gs/\a++t∈bs)
def tailsM (hn:List Int)(gs:List (List Int)):List (List Int):=(gs.filter fun r=>decide (r.take hn.length=hn)).map (·.drop hn.length)
theorem mem_tails {hn t:List Int}{gs:List (List Int)}:t∈tailsM hn gs↔hn++t∈gs:=by
 unfold tailsM
 rw[List.mem_map]
 constructor
 ·rintro⟨r,hr,rfl⟩
  obtain⟨h1,h2⟩:=List.mem_filter.mp hr
  have h2':=of_decide_eq_true h2
  have:hn++r.drop hn.length=r:=by
   conv=>lhs;rw[<- h2']
   rw[List.length_take]
   have e:min hn.length r.length=hn.length:=by
    have:=congrArg List.length h2'
    rw[List.length_take] at this
    exact this
   rw[e,List.take_append_drop]
  rw[this]
  exact h1
 ·intro h
  exact⟨hn++t,List.mem_filter.mpr ⟨h,decide_eq_true (List.take_left' rfl)⟩,List.drop_left' rfl⟩
theorem tails_len {hn:List Int}{gs:List (List Int)}:(tailsM hn gs).length<=gs.length:=by
 unfold tailsM
 rw[List.length_map]
 exact List.length_filter_le _ _
theorem tails_sh {hn t:List Int}{gs:List (List Int)}(h:∀r∈gs,r.length<=8)(ht:t∈tailsM hn gs):t.length<=8:=by
 have:=h _ (mem_tails.mp ht)
 rw[List.length_append] at this
 omega
section
variable {P:Program} {w:World} {K:W.Frag} {mg:Str->Option Value} {base:Heap}
abbrev rLen (K:W.Frag):List V->Hp->VK->Prop:=fun xs H Q=>∃p ys,xs=[.ref p]/\(SqL K H p ys\/SqT K H p ys)/\Q (.int (ys.length:Int)) H
def spTb:Sp:=fun vs H Q _=>∃(h g:Addr) (hn:List Int) (gs:List (List Int)),vs=[.ref h,.ref g]/\RA H h hn/\RsT H g gs/\gs.length<=24/\∀(l:Addr) (H':Hp),Same H H'->H l=none->RsL H' l (tailsM hn gs)->Q (.ref l) H'
theorem scTb:FnScope ["head","runs"] ["head","runs"] (defScope sTb):=.of (by decide +kernel)
def scopeT1:Scope:=⟨.function,[(".0",.local),("run",.local),("len",.globalImplicit),("head",.free)],false,false,[]⟩
theorem scT1:BlkScope (defScope sTb) ["head","runs"] ["run"] ["head"] [0] scopeT1:=.of (by decide +kernel)
theorem ok_tb (F:Fun K "tails_behind" "tails_behind" sTb f fd)(T:Txt mg):FnOk P w K mg base CX0 1 f fd ["head","runs"] spTb:=by
 refine F.ok scTb (fun vs H Q E h=>?_) (fun cdv A outer s H vs Q E hr h=>?_)
 ·obtain⟨h,g,hn,gs,rfl,_⟩:=h
  rfl
 ·obtain⟨h,g,hn,gs,rfl,hh,⟨ts,hg,hT⟩,l24,k⟩:=h
  have hu64:=hr.units
  refine⟨_,pss_one (ps_ret (pe_lc scT1 rfl rfl rfl (pi_tup (pv 1)) (fun fp C s1 H1=>pg_name (i:=0) scT1.nd rfl (Or.inl rfl))
   (fun fp C s1 H1=>pts_one (pt_cmpR (r:=rEqD K false) (op_eqD hu64) (pe_slice sl_tupA (pv 0) po_none (po_some (pe_callB (r:=rLen K) call_len_seq (by rfl) T.len PySem.boot_len (pa_cons (pv 1) pa_nil)))) (pv 1) (nomark _)))
   (fun fp C s1 H1=>pe_slice sl_tupA (pv 0) (po_some (pe_callB (r:=rLen K) call_len_seq (by rfl) T.len PySem.boot_len (pa_cons (pv 1) pa_nil))) po_none))),?_⟩
  have hgt:H g=some (.tup (ts.map V.ref)):=hg
  refine⟨_,rfl,g,rfl,⟨_,SqT.of hgt⟩,fun D hD=>?_⟩
  have hlt:(ts.map V.ref).length=gs.length:=by rw[List.length_map];exact hT.1
  refine lc_tup (K:=K) (a:=g) (xs:=ts.map V.ref) (fun i ys H2=>Same H H2/\H2 D=some (.lst ys)/\∃us:List Addr,ys=us.map V.ref/\TupsAt H2 us (tailsM hn (gs.take i))) (Nat.le_of_lt (small1000 (by omega)))
   ⟨(Same.refl H).upd_free hD,upd_same,[],rfl,tups_nil⟩ (fun i ys H2 ⟨_,_,us,e,h⟩=>?_) (fun i ys H2 h=>SqT.of (h.1 _ _ hgt)) ?_ ?_
  ·rw[e,List.length_map,h.1]
   refine Nat.le_trans tails_len ?_
   rw[List.length_take]
   exact Nat.min_le_left _ _
  ·rintro i ys H2 x N M hx ⟨u1,u2,us,rfl,hU⟩ hN hM
   have hi:i<gs.length:=by
    have:=(List.getElem?_eq_some_iff.mp hx).1
    omega
   have er:gs[i]?=some gs[i]:=List.getElem?_eq_getElem hi
   generalize gs[i]=r at er
   obtain⟨t,e1,e2⟩:=hT.2 i r er
   rw[List.getElem?_map,e1] at hx
   cases hx
   have tk:gs.take (i+1)=gs.take i++[r]:=by rw[List.take_add_one,er];rfl
   have hlh:(hn.map V.int).length=hn.length:=List.length_map _
   refine⟨_,rfl,_,rfl,h,_,rfl,.inr (SqT.of (u1 _ _ hh)),_,rfl,t,_,rfl,u1 _ _ e2,fun p H3 s3 hp=>?_⟩
   rw[hlh,cut_take,<- List.map_take] at hp
   refine⟨_,rfl,dRun (r.take hn.length),dRun hn,run_dat hp,run_dat ((u1.trans s3) _ _ hh),dRun_ok _,dRun_ok _,_,rfl,?_⟩
   rw[dRun_eqv]
   by_cases hc:r.take hn.length=hn
   ·rw[decide_eq_true hc]
    refine iteT ?_
    refine⟨_,rfl,_,rfl,h,_,rfl,.inr (SqT.of ((u1.trans s3) _ _ hh)),_,rfl,t,_,rfl,(u1.trans s3) _ _ e2,fun p2 H4 s4 hp2=>?_⟩
    rw[hlh,cut_drop,<- List.map_drop] at hp2
    have s24:=s3.trans s4
    have tsD:TSame H4 (upd H4 D (.lst (us.map V.ref++[.ref p2]))):=TSame.upd_lst (fun _ _ e=>e) (s24 _ _ u2)
    refine hN _ H4 (s24 _ _ u2) ⟨(u1.trans s24).upd_free hD,upd_same,us++[p2],by rw[List.map_append];rfl,?_⟩
    have et:tailsM hn (gs.take (i+1))=tailsM hn (gs.take i)++[r.drop hn.length]:=by
     rw[tk]
     unfold tailsM
     rw[List.filter_append,List.map_append]
     simp[hc]
    rw[et]
    exact tups_snoc ((hU.tsame s24.tups).tsame tsD) (tsD _ _ hp2)
   ·rw[decide_eq_false hc]
    refine iteF (hM H3 ⟨u1.trans s3,s3 _ _ u2,us,rfl,?_⟩)
    have et:tailsM hn (gs.take (i+1))=tailsM hn (gs.take i):=by
     rw[tk]
     unfold tailsM
     rw[List.filter_append,List.map_append]
     simp[hc]
    rw[et]
    exact hU.tsame s3.tups
  ·rintro ys H2 ⟨u1,u2,us,rfl,hU⟩
   rw[hlt,List.take_length] at hU
   exact k D H2 u1 hD ⟨us,u2,hU⟩
def spAp:Sp:=fun vs H Q _=>∃(g b o p:Addr) (gs bs:List (List Int)) (on pn:List Int),vs=[.ref g,.ref b,.ref o,.ref p]/\RsT H g gs/\RsT H b bs/\RA H o on/\RA H p pn/\gs.length<=24/\bs.length<=24/\(∀r∈gs,r.length<=8)/\on.length<=100/\pn.length<=100∧
 (∀H',Same H H'->(∀t,¬AP gs bs on pn t)->Q .non H')/\∀(q:Addr) (t:List Int) (H':Hp),Same H H'->RA H' q t->AP gs bs on pn t->(∀t',AP gs bs on pn t'->prLt (kOf t') (kOf t)=false)->Q (.ref q) H'
abbrev nAp:List Str:=["good","bad","one","other","found","first","second"]
theorem scAp:FnScope nAp ["good","bad","one","other"] (defScope sAp):=.of (by decide +kernel)
def scopeA1:Scope:=⟨.function,[(".0",.local),("tail",.local),("bad",.free),("second",.free)],false,false,[]⟩
theorem scA1:BlkScope (defScope sAp) nAp ["tail"] ["bad","second"] [1,6] scopeA1:=.of (by decide +kernel)
def zsOf (ts:List Addr)(fs:List (List Int)):List (Addr×L2.KP):=(ts.zip fs).map fun z=>(z.1,kOf z.2)
theorem zs_map {H:Hp}{ts:List Addr}{fs:List (List Int)}(h:TupsAt H ts fs):(zsOf ts fs).map (fun z=>V.ref z.1)=ts.map V.ref:=by
 unfold zsOf
 rw[List.map_map]
 have:(ts.zip fs).map Prod.fst=ts:=List.map_fst_zip (Nat.le_of_eq h.1)
 conv=>rhs;rw[<- this]
 rw[List.map_map]
 rfl
theorem zs_mem {H:Hp}{ts:List Addr}{fs:List (List Int)}(h:TupsAt H ts fs){z:Addr×L2.KP}(hz:z∈zsOf ts fs):∃t∈fs,z.2=kOf t/\RA H z.1 t:=by
 obtain⟨⟨a,t⟩,hy,rfl⟩:=List.mem_map.mp hz
 obtain⟨i,hi,ei⟩:=List.getElem_of_mem hy
 have hi':i<ts.length/\i<fs.length:=by rw[List.length_zip] at hi;omega
 have e:ts[i]=a/\fs[i]=t:=by simpa using ei
 refine⟨t,(List.of_mem_zip hy).2,rfl,?_⟩
 obtain⟨a',e1,e2⟩:=h.2 i t (by rw[List.getElem?_eq_getElem hi'.2,e.2])
 rw[List.getElem?_eq_getElem hi'.1,e.1] at e1
 cases e1
 exact e2
theorem zs_has {H:Hp}{ts:List Addr}{fs:List (List Int)}(h:TupsAt H ts fs){t:List Int}(ht:t∈fs):∃z∈zsOf ts fs,z.2=kOf t:=by
 obtain⟨i,hi,ei⟩:=List.getElem_of_mem ht
 have hi':i<ts.length:=by rw[h.1];exact hi
 refine⟨(ts[i],kOf fs[i]),?_,by rw[ei]⟩
 unfold zsOf
 refine List.mem_map.mpr ⟨(ts[i],fs[i]),?_,rfl⟩
 have hz:i<(ts.zip fs).length:=by rw[List.length_zip];omega
 have:(ts.zip fs)[i]?=some (ts[i],fs[i]):=by rw[List.getElem?_eq_getElem hz,List.getElem_zip]
 exact List.mem_of_getElem? this
theorem ok_ap (F:Fun K "apart" "apart" sAp f fd)(T:Txt mg)
  (FT:Fun K "tails_behind" "tails_behind" sTb fT fdT) (bT:Binds K fdT ["head","runs"] []) (gT:mg "tails_behind"=some (.ref fT))
  (FR:Fun K "run_order" "run_order" sRo fR fdR) (bR:Binds K fdR ["run"] []) (gR:mg "run_order"=some (.ref fR)):
  FnOk P w K mg base CX0 3 f fd ["good","bad","one","other"] spAp:=by
 have GT:FnOk P w K mg base CX0 1 fT fdT ["head","runs"] spTb:=ok_tb FT T
 have GR:FnOk P w K mg base CX0 1 fR fdR ["run"] spRo:=ok_ro FR T
 refine F.ok scAp (fun vs H Q E h=>?_) (fun cdv A outer s H vs Q E hr h=>?_)
 ·obtain⟨g,b,o,p,gs,bs,on,pn,rfl,_⟩:=h
  rfl
 ·obtain⟨g,b,o,p,gs,bs,on,pn,rfl,hg,⟨tb,hb1,hb2⟩,ho,hp,lg,lb,g8,lo,lp,k1,k2⟩:=h
  have hr1:Room 1 _:=hr.mono (by decide)
  have hu64:=hr.units
  have hu16:=Nat.lt_of_le_of_lt (Nat.add_le_add_left (by decide:16<=64) _) hu64
  refine⟨_,pss_cons (ps_set (i:=4) scAp.nd rfl (Or.inl rfl) (pe_lst pa_nil))
   (pss_cons (ps_for PassesOwn.never rfl (pi_tup (pe_tup (pa_cons (pe_tup (pa_cons (pv 2) (pa_cons (pv 3) pa_nil))) (pa_cons (pe_tup (pa_cons (pv 3) (pa_cons (pv 2) pa_nil))) pa_nil)))) (pg_tup (n:=2) rfl (pgs_cons (pg_name (i:=5) scAp.nd rfl (Or.inl rfl)) (pgs_cons (pg_name (i:=6) scAp.nd rfl (Or.inr rfl)) pgs_nil)))
    (pss_one (ps_expr (pe_bm PySem.F.plainAttrs_list PySem.F.slot_list_extend PySem.F.type_list_extend mt_extend (pv 4) (pa_cons (pe_lc scA1 rfl rfl rfl (pi_list (pe_call GT hr1 rfl gT FT.kp bT .nil pass0 (pa_cons (pv 5) (pa_cons (pv 0) pa_nil)))) (fun fp C s1 H1=>pg_name (i:=0) scA1.nd rfl (Or.inl rfl))
     (fun fp C s1 H1=>pts_one (pt_cmpR (r:=rInD K false) (op_inD hu64) (pe_op (r:=rCatA K) op_catA (pv 2) (pv 0)) (pv 1) (by with_unfolding_all rfl))) (fun fp C s1 H1=>pv 0)) pa_nil)))))
   (pss_one (ps_ret (pe_minD (mkey_pr hu16) GR hr.in1 rfl bR (by rfl) T.min PyProof.Rows.boot_min (pa_cons (pv 4) pa_nil) (pe_glob (v:=.ref fR) (by rfl) gR rfl) pe_non)))),?_⟩
  refine⟨Nat.zero_le _,fun l hl=>?_⟩
  have s1:=(Same.refl H).upd_free (o:=.lst []) hl
  have q1:upd H l (.lst []) l=some (.lst []):=upd_same
  generalize upd H l (.lst [])=H1 at s1 q1
  refine⟨_,rfl,_,rfl,(by show 2<=sizeLine;decide),fun p1 hp1=>?_⟩
  have s2:=(Same.refl H1).upd_free (o:=.tup [.ref o,.ref p]) hp1
  have q2:upd H1 p1 (.tup [.ref o,.ref p]) p1=some (.tup [.ref o,.ref p]):=upd_same
  generalize upd H1 p1 (.tup [.ref o,.ref p])=H2 at s2 q2
  refine⟨_,rfl,_,rfl,(by show 2<=sizeLine;decide),fun p2 hp2=>?_⟩
  have s3:=(Same.refl H2).upd_free (o:=.tup [.ref p,.ref o]) hp2
  have q3:upd H2 p2 (.tup [.ref p,.ref o]) p2=some (.tup [.ref p,.ref o]):=upd_same
  generalize upd H2 p2 (.tup [.ref p,.ref o])=H3 at s3 q3
  refine⟨(by show 2<=sizeLine;decide),fun p3 hp3=>?_⟩
  have s4:=(Same.refl H3).upd_free (o:=.tup [.ref p1,.ref p2]) hp3
  have q4:upd H3 p3 (.tup [.ref p1,.ref p2]) p3=some (.tup [.ref p1,.ref p2]):=upd_same
  generalize upd H3 p3 (.tup [.ref p1,.ref p2])=H4 at s4 q4
  have s24:=s3.trans s4
  have q1':=s24 _ _ (s2 _ _ q1)
  have q2':=s24 _ _ q2
  have q3':=s4 _ _ q3
  have sH4:=s1.trans (s2.trans s24)
  refine⟨p3,rfl,⟨_,SqT.of q4⟩,?_⟩
  have tsl:∀{H5:Hp} {a:Addr} {xs:List V},SBut l H4 H5->H4 a=some (.tup xs)->H5 a=some (.tup xs):=fun sb e=>sb.get q1' e (fun z=>nomatch z)
  refine for_tup (K:=K) (a:=p3) (xs:=[.ref p1,.ref p2]) (fun i σ H5=>∃(fs:List (List Int)) (v5 v6:Option V),σ=[some (.ref g),some (.ref b),some (.ref o),some (.ref p),some (.ref l),v5,v6]/\Same H H5/\SBut l H4 H5/\RsL H5 l fs/\(∀t,t∈fs↔(1<=i/\on++t∈gs/\pn++t∈bs)\/(2<=i/\pn++t∈gs/\on++t∈bs))/\fs.length<=24*i/\∀t∈fs,t.length<=8)
   ⟨[],none,none,rfl,sH4,SBut.refl,⟨[],q1',tups_nil⟩,fun t=>⟨fun h=>by(cases h),fun h=>by omega⟩,Nat.le_refl _,fun t ht=>by cases ht⟩ (fun i σ H5 _ ⟨_,_,_,_,_,sb,_⟩=>SqT.of (tsl sb q4)) ?_ ?_
  ·rintro i x σ H5 hx ⟨fs,v5,v6,rfl,s5,sb,hF,hm,hlen,h8⟩
   obtain⟨px,a1,a2,n1,n2,rfl,hpx,h1,h2,ln1,ln2,hnew⟩:∃(px a1 a2:Addr) (n1 n2:List Int),x=.ref px/\H5 px=some (.tup [.ref a1,.ref a2])/\RA H5 a1 n1/\RA H5 a2 n2/\n1.length<=100/\n2.length<=100∧
     ∀t,((1<=i/\on++t∈gs/\pn++t∈bs)\/(2<=i/\pn++t∈gs/\on++t∈bs))\/(n1++t∈gs/\n2++t∈bs)↔(1<=i+1/\on++t∈gs/\pn++t∈bs)\/(2<=i+1/\pn++t∈gs/\on++t∈bs):=by
    rcases i with _|_|i
    ·cases hx
     refine⟨p1,o,p,on,pn,rfl,tsl sb q2',s5 _ _ ho,s5 _ _ hp,lo,lp,fun t=>?_⟩
     constructor
     ·rintro((h|h)|h)
      ·omega
      ·omega
      ·exact .inl ⟨by omega,h⟩
     ·rintro(h|h)
      ·exact .inr h.2
      ·omega
    ·cases hx
     refine⟨p2,p,o,pn,on,rfl,tsl sb q3',s5 _ _ hp,s5 _ _ ho,lp,lo,fun t=>?_⟩
     constructor
     ·rintro((h|h)|h)
      ·exact .inl ⟨by omega,h.2⟩
      ·omega
      ·exact .inr ⟨by omega,h⟩
     ·rintro(h|h)
      ·exact .inl (.inl ⟨by omega,h.2⟩)
      ·exact .inr h.2
    ·simp at hx
   have hi2:i<=1:=by
    have:=(List.getElem?_eq_some_iff.mp hx).1
    simp at this
    omega
   refine⟨px,[.ref a1,.ref a2],rfl,SqT.of hpx,rfl,.ref a1,[.ref a2],rfl,.ref a2,[],rfl,rfl,?_⟩
   obtain⟨tf,hf1,hf2⟩:=hF
   refine⟨_,rfl,.inl ⟨rfl,_,SqL.of hf1⟩,_,rfl,_,rfl,a1,g,n1,gs,rfl,h1,hg.same s5,lg,fun lt H6 s6 flt ⟨tt,ht1,ht2⟩=>?_⟩
   refine⟨lt,rfl,⟨_,SqL.of ht1⟩,fun D hD=>?_⟩
   have hltt:(tt.map V.ref).length=(tailsM n1 gs).length:=by rw[List.length_map];exact ht2.1
   have hltb:=tails_len (hn:=n1) (gs:=gs)
   refine lc_list (K:=K) (a:=lt) (xs:=tt.map V.ref) (fun j ys H7=>Same H6 H7/\H7 D=some (.lst ys)/\ys.length<=j/\∃us:List Addr,ys=us.map V.ref/\TupsAt H7 us (((tailsM n1 gs).take j).filter fun t=>decide (n2++t∈bs))) (Nat.le_of_lt (small1000 (by omega)))
    ⟨(Same.refl H6).upd_free hD,upd_same,Nat.le_refl _,[],rfl,tups_nil⟩ (fun j ys H7 h=>h.2.2.1) (fun j ys H7 h=>SqL.of (h.1 _ _ ht1)) ?_ ?_
   ·rintro j ys H7 x N M hx2 ⟨u1,u2,u3,us,rfl,hU⟩ hN hM
    have hj:j<(tailsM n1 gs).length:=by
     have:=(List.getElem?_eq_some_iff.mp hx2).1
     omega
    have er:(tailsM n1 gs)[j]?=some (tailsM n1 gs)[j]:=List.getElem?_eq_getElem hj
    generalize (tailsM n1 gs)[j]=r at er
    obtain⟨ta,e1,e2⟩:=ht2.2 j r er
    rw[List.getElem?_map,e1] at hx2
    cases hx2
    have tk:(tailsM n1 gs).take (j+1)=(tailsM n1 gs).take j++[r]:=by rw[List.take_add_one,er];rfl
    have hr8:=tails_sh g8 (List.mem_of_getElem? er)
    refine⟨_,rfl,_,rfl,a2,ta,_,_,rfl,rfl,(s6.trans u1) _ _ h2,u1 _ _ e2,?_,fun pc H8 s8 hpc=>?_⟩
    ·rw[List.length_map,List.length_map]
     exact Nat.le_of_lt (small1000 (by omega))
    rw[<- List.map_append] at hpc
    have s58:=s5.trans (s6.trans (u1.trans s8))
    refine⟨_,rfl,in_runs hpc (.inr (SqT.of (s58 _ _ hb1))) (hb2.tsame s58.tups) ⟨_,rfl,?_⟩⟩
    show(if decide (n2++r∈bs)=true then _ else _)
    by_cases hc:n2++r∈bs
    ·rw[decide_eq_true hc]
     refine iteT ⟨_,rfl,?_⟩
     have tsD:TSame H8 (upd H8 D (.lst (us.map V.ref++[.ref ta]))):=TSame.upd_lst (fun _ _ e=>e) (s8 _ _ u2)
     refine hN _ H8 (s8 _ _ u2) ⟨(u1.trans s8).upd_free hD,upd_same,by rw[List.length_append,List.length_singleton];omega,us++[ta],by rw[List.map_append];rfl,?_⟩
     rw[tk,List.filter_append]
     have ef:([r].filter fun t=>decide (n2++t∈bs))=[r]:=by simp[hc]
     rw[ef]
     exact tups_snoc ((hU.tsame s8.tups).tsame tsD) (tsD _ _ (s8 _ _ (u1 _ _ e2)))
    ·rw[decide_eq_false hc]
     refine iteF (hM H8 ⟨u1.trans s8,s8 _ _ u2,by omega,us,rfl,?_⟩)
     rw[tk,List.filter_append]
     have ef:([r].filter fun t=>decide (n2++t∈bs))=[]:=by simp[hc]
     rw[ef,List.append_nil]
     exact hU.tsame s8.tups
   ·rintro ys H7 ⟨u1,u2,u3,us,rfl,hU⟩
    rw[hltt,List.take_length] at hU
    have hf7:=(s6.trans u1) _ _ hf1
    have hul:us.length<=24:=by
     rw[hU.1]
     exact Nat.le_trans (List.length_filter_le _ _) (by omega)
    refine⟨l,D,_,_,rfl,rfl,hf7,u2,?_,?_⟩
    ·rw[List.length_map,List.length_map,hf2.1]
     exact Nat.le_of_lt (small1000 (by omega))
    have tsU:TSame H7 (upd H7 l (.lst (tf.map V.ref++us.map V.ref))):=TSame.upd_lst (fun _ _ e=>e) hf7
    refine⟨fs++((tailsM n1 gs).filter fun t=>decide (n2++t∈bs)),_,_,rfl,(s5.trans (s6.trans u1)).upd_free hl,(sb.same (s6.trans u1)).upd,⟨tf++us,by rw[upd_same,List.map_append];rfl,tups_app ((hf2.tsame (s6.trans u1).tups).tsame tsU) (hU.tsame tsU)⟩,fun t=>?_,?_,fun t ht=>?_⟩
    ·rw[List.mem_append,hm t,List.mem_filter,decide_eq_true_iff,mem_tails]
     exact hnew t
    ·rw[List.length_append,<- hU.1]
     omega
    ·rcases List.mem_append.mp ht with h|h
     ·exact h8 t h
     ·exact tails_sh g8 (List.mem_filter.mp h).1
  ·rintro σ H5 ⟨fs,v5,v6,rfl,s5,sb,⟨tf,hf1,hf2⟩,hm,hlen,h8⟩
   have hm':∀t,t∈fs↔AP gs bs on pn t:=fun t=>by
    rw[hm t]
    show(1<=2/\_)\/(2<=2/\_)↔_
    unfold AP
    simp
   have hlen':fs.length<=48:=hlen
   have hzl:(zsOf tf fs).length<=1000:=by
    unfold zsOf
    rw[List.length_map,List.length_zip,hf2.1]
    omega
   have hSq:SqL K H5 l ((zsOf tf fs).map fun z=>V.ref z.1):=SqL.of (by rw[zs_map hf2];exact hf1)
   refine⟨_,rfl,l,zsOf tf fs,rfl,rfl,rfl,hSq,hzl,fun z hz H6 s6 Q' E' hq=>?_,fun e=>?_,fun z H6 hb6 s6=>?_⟩
   ·obtain⟨t,ht,ez,ra⟩:=zs_mem hf2 hz
    refine⟨z.1,t,rfl,s6 _ _ ra,by have:=h8 t ht;omega,fun q H7 s7 pr=>hq _ H7 s7 ⟨q,rfl,?_⟩⟩
    rw[ez]
    exact pr
   ·refine k1 H5 s5 fun t ht=>?_
    obtain⟨z,hz,_⟩:=zs_has hf2 ((hm' t).mpr ht)
    rw[e] at hz
    cases hz
   ·obtain⟨i,hi,ei,hbest⟩:=hb6
    obtain⟨t,ht,ez,ra⟩:=zs_mem hf2 (List.mem_of_getElem? ei)
    refine k2 z.1 t H6 (s5.trans s6) (s6 _ _ ra) ((hm' t).mp ht) fun t' ht'=>?_
    obtain⟨z',hz',ez'⟩:=zs_has hf2 ((hm' t').mpr ht')
    obtain⟨j,hj,ej⟩:=List.getElem_of_mem hz'
    have ej':(zsOf tf fs)[j]?=some z':=by rw[List.getElem?_eq_getElem hj,ej]
    have:=(hbest j z' hj ej').1
    rw[ez,ez'] at this
    exact this
end
end BG
namespace BG
open PySem L2 SO K20
section
variable {P:Program} {w:World} {K:W.Frag} {mg:Str->Option Value} {base:Heap}
def spBg:Sp:=fun vs H Q _=>∃(g b:Addr) (gs bs:List (List Int)),vs=[.ref g,.ref b]/\RsT H g gs/\RsT H b bs/\gs.length<=24/\bs.length<=24/\(∀r∈gs++bs,r.length<=8)/\Few (gs++bs)∧
 ∀(t:Addr) (zs:List (Addr×List Int)) (H':Hp),Same H H'->H' t=some (.tup (zs.map fun z=>V.ref z.1))->SrA H' zs (isB (gs++bs))->Q (.ref t) H'
theorem scBg:FnScope ["good","bad","met","run","length"] ["good","bad"] (defScope sBg):=.of (by decide +kernel)
theorem ok_bg (F:Fun K "beginnings" "beginnings" sBg f fd)(T:Txt mg)(FR:Fun K "run_order" "run_order" sRo fR fdR)(bR:Binds K fdR ["run"] [])(gR:mg "run_order"=some (.ref fR)):FnOk P w K mg base CX0 4 f fd ["good","bad"] spBg:=by
 have GR:FnOk P w K mg base CX0 1 fR fdR ["run"] spRo:=ok_ro FR T
 refine F.ok scBg (fun vs H Q E h=>?_) (fun cdv A outer s H vs Q E hr h=>?_)
 ·obtain⟨g,b,gs,bs,rfl,_⟩:=h
  rfl
 ·obtain⟨g,b,gs,bs,rfl,⟨tg,hg,tgs⟩,⟨tb,hb,tbs⟩,lg,lb,hsh,hfew,k⟩:=h
  have hu64:=hr.units
  have hu1:=Nat.lt_of_le_of_lt (Nat.add_le_add_left (by decide:1<=64) _) hu64
  have hu4:=Nat.lt_of_le_of_lt (Nat.add_le_add_left (by decide:4<=64) _) hu64
  have hu0:=Nat.lt_of_le_of_lt (Nat.le_add_right _ 64) hu64
  refine⟨_,pss_cons (ps_set (i:=2) scBg.nd rfl (Or.inl rfl) (pe_dispTW (P:=P) (w:=w) rfl rfl hu0 (pe_tup pa_nil) pe_bl))
   (pss_cons (ps_for PassesOwn.never rfl (pi_tup (pe_op op_catA (pv 0) (pv 1))) (pg_name (i:=3) scBg.nd rfl (Or.inl rfl))
    (pss_one (ps_for PassesOwn.never rfl (pi_range1 rfl T.range (pa_cons (pe_op op_add (pe_callB call_len_seq (by rfl) T.len PySem.boot_len (pa_cons (pv 3) pa_nil)) pe_int) pa_nil)) (pg_name (i:=4) scBg.nd rfl (Or.inl rfl))
     (pss_one (ps_tputW (P:=P) (w:=w) rfl rfl hu1 (pv 2) (pe_slice sl_tupA (pv 3) po_none (po_some (pv 4))) pe_bl rfl)))))
   (pss_one (ps_ret (pe_callTy call_tuple_of (by rfl) T.tuple PyProof.Rows.boot_tuple (pa_cons (pe_sortedK6 GR hr.in1.in1 hu4 bR rfl T.sorted PyProof.Rows.boot_sorted
    (pa_cons (pe_callTy (call_listTW (P:=P) (w:=w) rfl rfl rfl) (by rfl) T.list PyProof.Rows.boot_list (pa_cons (pv 2) pa_nil)) pa_nil) (pe_glob (v:=.ref fR) (by rfl) gR rfl)) pa_nil))))),?_⟩
  refine fun p o hp=>⟨Nat.zero_le _,fun t ht=>?_⟩
  have htp:t≠p:=fun e=>by rw[e,upd_same] at ht;cases ht
  have hp1:upd (upd H p (TD P w p [] o)) t (.tup []) p=some (TD P w p [] o):=by rw[upd_ne (fun e=>htp e.symm)];exact upd_same
  refine⟨hp1,t,_,[],rfl,⟨[],upd_same,rfl⟩,fun o1=>?_⟩
  have s1:Same H (upd (upd (upd H p (TD P w p [] o)) t (.tup [])) p (TD P w p [([],t,.bl true)] o1)):=(((Same.refl H).upd_free hp).upd_free (by rw[upd_ne htp] at ht;exact ht)).upd_free hp
  have ht1:upd (upd (upd H p (TD P w p [] o)) t (.tup [])) p (TD P w p [([],t,.bl true)] o1) t=some (.tup []):=by rw[upd_ne htp];exact upd_same
  refine⟨_,rfl,_,rfl,g,b,_,_,rfl,rfl,s1 _ _ hg,s1 _ _ hb,?_,fun q H2 s2 hq=>?_⟩
  ·rw[List.length_map,List.length_map,tgs.1,tbs.1]
   exact Nat.le_of_lt (small1000 (by omega))
  rw[<- List.map_append] at hq
  refine⟨q,rfl,⟨_,SqT.of hq⟩,?_⟩
  have hT:TupsAt H2 (tg++tb) (gs++bs):=tups_app (tgs.tsame (s1.trans s2).tups) (tbs.tsame (s1.trans s2).tups)
  have hM0:ME H2 [([],t,.bl true)] (isB []) 1:=⟨fun x hx=>by rw[List.mem_singleton.mp hx];exact s2 _ _ ht1,by simp,fun ns=>⟨fun h=>.inl (by simpa using h),fun h=>h.elim (fun e=>by simp[e]) fun⟨r,h1,_⟩=>by cases h1⟩,Nat.le_refl _,fun x hx=>by rw[List.mem_singleton.mp hx];exact Nat.zero_le _⟩
  refine for_tup (K:=K) (a:=q) (xs:=(tg++tb).map V.ref) (fun i σ H3=>∃(xs:List (KTu×Addr×V)) (o3:Obj) (v3 v4:Option V),σ=[some (.ref g),some (.ref b),some (.ref p),v3,v4]/\Same H H3/\TSame H2 H3/\H3 p=some (TD P w p xs o3)/\ME H3 xs (isB ((gs++bs).take i)) (1+9*i))
   ⟨[([],t,.bl true)],o1,none,none,rfl,s1.trans s2,fun _ _ e=>e,s2 _ _ upd_same,hM0⟩ (fun i σ H3 _ ⟨_,_,_,_,_,_,ts,_⟩=>SqT.of (ts _ _ hq)) ?_ ?_
  ·rintro i x σ H3 hx ⟨xs,o3,v3,v4,rfl,s3,ts3,hp3,hM3⟩
   have hi:i<(gs++bs).length:=by
    have:=(List.getElem?_eq_some_iff.mp hx).1
    rw[List.length_map,hT.1] at this
    exact this
   have er:(gs++bs)[i]?=some (gs++bs)[i]:=List.getElem?_eq_getElem hi
   generalize hr':(gs++bs)[i]=r at er
   have hr8:r.length<=8:=hsh r (List.mem_of_getElem? er)
   obtain⟨tr,e1,e2⟩:=hT.2 i r er
   rw[List.getElem?_map,e1] at hx
   cases hx
   have hrt:H3 tr=some (.tup (r.map V.int)):=ts3 _ _ e2
   have hil:i<=47:=by rw[List.length_append] at hi;omega
   have hlr:(r.map V.int).length=r.length:=List.length_map _
   refine⟨_,rfl,tr,_,rfl,.inr (SqT.of hrt),_,_,rfl,rfl,_,rfl,by omega,by omega,?_⟩
   have hn:(((r.map V.int).length:Int)+1).toNat=r.length+1:=by omega
   refine for_range (n:=(((r.map V.int).length:Int)+1).toNat) (fun j σ H4=>∃(xs:List (KTu×Addr×V)) (o4:Obj) (v4:Option V),σ=[some (.ref g),some (.ref b),some (.ref p),some (.ref tr),v4]/\Same H H4/\TSame H2 H4/\H4 p=some (TD P w p xs o4)/\ME H4 xs (S2 ((gs++bs).take i) r j) (1+9*i+j))
    ⟨xs,o3,v4,rfl,s3,ts3,hp3,hM3.iff fun ns=>S2_zero⟩ ?_ ?_
   ·rintro j σ H4 hj ⟨xs4,o4,v4',rfl,s4,ts4,hp4,hM4⟩
    rw[hn] at hj
    have hrt4:H4 tr=some (.tup (r.map V.int)):=ts4 _ _ e2
    refine⟨_,rfl,_,rfl,_,rfl,_,rfl,tr,_,rfl,hrt4,fun pz H5 s5 hpz=>?_⟩
    rw[Int.zero_add,cut_take,<- List.map_take] at hpz
    have hM5:=hM4.same s5.tups
    have hl4:=hM4.len
    refine⟨p,xs4,o4,pz,r.take j,rfl,s5 _ _ hp4,hM5.tks,rfl,⟨_,hpz,nums_ints _⟩,small1000 (by omega),fun o5=>?_⟩
    have tsU:TSame H5 (upd H5 p (TD P w p (putH xs4 (r.take j) pz (.bl true)) o5)):=fun c ys e=>by
     rw[upd_ne (ne_of e (s5 _ _ hp4) (fun z=>nomatch z))];exact e
    have hM6:=(hM5.put (v:=.bl true) hpz (by rw[List.length_take];omega)).same tsU
    exact⟨_,o5,_,rfl,(s4.trans s5).upd_free hp,fun c ys e=>tsU c ys (s5 c _ (ts4 c ys e)),upd_same,hM6.iff fun ns=>S2_succ⟩
   ·rintro σ H4 ⟨xs4,o4,v4',rfl,s4,ts4,hp4,hM4⟩
    rw[hn] at hM4
    have hM5:ME H4 xs4 (isB ((gs++bs).take (i+1))) (1+9*(i+1)):=by
     have e:(gs++bs).take (i+1)=(gs++bs).take i++[r]:=by rw[List.take_add_one,er];rfl
     rw[e]
     have:=hM4.iff fun ns=>S2_end
     exact⟨this.at',this.nd,this.mem,by have:=this.len;omega,this.sh⟩
    exact⟨xs4,o4,_,_,rfl,s4,ts4,hp4,hM5⟩
  ·rintro σ H3 ⟨xs,o3,v3,v4,rfl,s3,ts3,hp3,hM3⟩
   rw[List.length_map,hT.1,List.take_length] at hM3
   have hxl:xs.length<=63:=hfew.me hM3
   refine⟨_,rfl,p,xs,o3,rfl,hp3,fun l hl=>?_⟩
   have s4:Same H3 (upd H3 l (.lst (xs.map fun x=>V.ref x.2.1))):=(Same.refl H3).upd_free hl
   have hM4:=hM3.same s4.tups
   refine⟨l,xs.map fun x=>(x.2.1,kOf x.1),rfl,rfl,SqL.of (by rw[upd_same,List.map_map];rfl),by rw[List.length_map];exact hxl,fun z hz H5 s5 Q' E' hq'=>?_,fun l2 zs H5 s5 hl2 hpm hso=>?_⟩
   ·obtain⟨x,hx,rfl⟩:=List.mem_map.mp hz
    exact⟨x.2.1,x.1,rfl,s5 _ _ (hM4.at' x hx),Nat.le_trans (hM4.sh x hx) (by decide),fun q2 H6 s6 pr=>hq' q2 H6 s6 pr⟩
   ·refine⟨l2,_,rfl,.inl ⟨SqL.of upd_same,fun t2 ht2=>?_⟩⟩
    have s6:Same H5 (upd (upd H5 l2 (.lst (zs.map fun z=>V.ref z.1))) t2 (.tup (zs.map fun z=>V.ref z.1))):=((Same.refl H5).upd_free hl2).upd_free (by
     by_cases e:t2=l2
     ·rw[e];exact hl2
     ·rw[upd_ne e] at ht2;exact ht2)
    refine k t2 (zs.map fun z=>(z.1,z.2.2)) _ (((s3.trans s4).trans s5).trans s6) (by rw[upd_same,List.map_map];rfl) ⟨fun y hy=>?_,?_,fun ns=>?_,?_,fun y hy=>?_⟩
    ·obtain⟨z,hz,rfl⟩:=List.mem_map.mp hy
     obtain⟨x,hx,rfl⟩:=List.mem_map.mp (hpm.mem_iff.mp hz)
     exact s6 _ _ (s5 _ _ (hM4.at' x hx))
    ·have hz2:∀z∈zs,z.2=kOf z.2.2:=fun z hz=>by
      obtain⟨x,hx,rfl⟩:=List.mem_map.mp (hpm.mem_iff.mp hz)
      rfl
     rw[List.map_map]
     refine srt_of ?_ ?_
     ·rw[List.pairwise_map]
      refine hso.imp_of_mem fun {a c} ha hc hh=>?_
      rw[hz2 a ha,hz2 c hc] at hh
      exact hh
     ·have:=(hpm.map fun z:Addr×SO.KP=>z.2.2).nodup_iff
      refine this.mpr ?_
      rw[List.map_map]
      exact hM4.nd
    ·rw[List.map_map]
     have:=(hpm.map fun z:Addr×SO.KP=>z.2.2).mem_iff (a:=ns)
     rw[List.map_map] at this
     exact this.trans (hM4.mem ns)
    ·rw[List.length_map,hpm.length_eq,List.length_map]
     exact Nat.le_trans hxl (by decide)
    ·obtain⟨z,hz,rfl⟩:=List.mem_map.mp hy
     obtain⟨x,hx,rfl⟩:=List.mem_map.mp (hpm.mem_iff.mp hz)
     exact hM4.sh x hx
end
end BG
namespace BG
open PySem L2
theorem inV_nums (t:Int):∀fs:List Int,inV (.int t) (fs.map V.int)=decide (t∈fs)
 | []=>rfl
 |x::fs=>by
  show(eqV _ _||inV (.int t) (fs.map V.int))=_
  rw[inV_nums t fs]
  by_cases e:x=t
  ·subst e
   simp[eqV]
  ·simp[eqV,e,Ne.symm e]
theorem flat_ints:∀ns:List Int,(ns.map V.int).all flatV=true
 | []=>rfl
 |_::ns=>flat_ints ns
theorem iteTK {c:Bool}{A B:Prop}(hc:c=true)(h:A):if c=true then A else B:=by rw[if_pos hc];exact h
theorem iteFK {c:Bool}{A B:Prop}(hc:c=false)(h:B):if c=true then A else B:=by rw[if_neg (by rw[hc];exact Bool.false_ne_true)];exact h
theorem dec_intV (a b:Int):decide (V.int a=V.int b)=decide (a=b):=decide_eq_decide.mpr ⟨fun q=>by injection q,fun q=>by rw[q]⟩
end BG
namespace L2
open PySem PySem.Spec PyProof.Rows
section
variable {X:Cx} {P:Program} {w:World}
theorem pc_tnotinW (hP:X.prog=P)(hw:X.w=w){i o:Expr}{ty td:TE}(hu:X.A.units+1<cLine)(hi:PE X i ty)(ho:PE X o td):PC X .NotIn i o (tTNotIn P w ty td):=by subst hP hw;exact pc_tnotin hu hi ho
theorem pe_tnewW {pos:Pos}(hP:X.prog=P)(hw:X.w=w):PE X (.Dict [] [] pos) (tTNew P w):=by subst hP hw;exact pe_tnew
end
end L2
namespace BG
open PySem L2 SO K20
abbrev AL:=List (List Int×Int)
def look (al:AL)(k:List Int):Option Int:=(al.find? fun s=>decide (s.1=k)).map (·.2)
theorem look_cons (s:List Int×Int)(al:AL)(k:List Int):look (s::al) k=if s.1=k then some s.2 else look al k:=by
 unfold look
 by_cases e:s.1=k
 ·simp[List.find?_cons,e]
 ·simp[List.find?_cons,e]
theorem look_app (al bl:AL)(k:List Int):look (al++bl) k=(look al k).or (look bl k):=by
 induction al with
 |nil=>rfl
 |cons s al ih=>
  rw[List.cons_append,look_cons,look_cons,ih]
  by_cases e:s.1=k
  ·rw[if_pos e,if_pos e];rfl
  ·rw[if_neg e,if_neg e]
theorem look_some {al:AL}{k:List Int}{v:Int}(h:look al k=some v):(k,v)∈al:=by
 unfold look at h
 obtain⟨s,hs,rfl⟩:=Option.map_eq_some_iff.mp h
 have h1:=List.find?_some hs
 have h2:=List.mem_of_find?_eq_some hs
 have:s.1=k:=of_decide_eq_true h1
 rw[<- this]
 exact h2
theorem look_none {al:AL}{k:List Int}:look al k=none↔k∉al.map (·.1):=by
 induction al with
 |nil=>exact⟨fun _ h=>by(cases h),fun _=>rfl⟩
 |cons s al ih=>
  rw[look_cons,List.map_cons,List.mem_cons]
  by_cases e:s.1=k
  ·rw[if_pos e]
   exact⟨fun h=>by(cases h),fun h=>(h (.inl e.symm)).elim⟩
  ·rw[if_neg e,ih]
   exact⟨fun h q=>q.elim (fun z=>e z.symm) h,fun h q=>h (.inr q)⟩
theorem look_of {al:AL}(nd:(al.map (·.1)).Nodup){k:List Int}{v:Int}(h:(k,v)∈al):look al k=some v:=by
 induction al with
 |nil=>cases h
 |cons s al ih=>
  rw[List.map_cons,List.nodup_cons] at nd
  rw[look_cons]
  rcases List.mem_cons.mp h with e|e
  ·rw[if_pos (by rw[<- e]),<- e]
  ·rw[if_neg (fun q=>nd.1 (by rw[q];exact List.mem_map_of_mem (f:=Prod.fst) e))]
   exact ih nd.2 e
def walkS (sl:AL)(r:List Int):Option Int:=r.foldl (fun o x=>o.bind fun q=>look sl [q,x]) (some 0)
theorem walkS_snoc (sl:AL)(r:List Int)(x:Int):walkS sl (r++[x])=(walkS sl r).bind fun q=>look sl [q,x]:=by
 unfold walkS
 rw[List.foldl_append]
 rfl
structure Beg (zl:List (List Int)):Prop where
 hd:zl[0]?=some []
 pre:∀i r,0<i->zl[i]?=some r->∃p x,r=p++[x]/\p∈zl.take i
 nd:zl.Nodup
theorem prLt_short {a b:List Int}(h:a.length<b.length):prLt (kOf a) (kOf b)=true:=by
 show HT.lexLt ((a.length:Int)::a) ((b.length:Int)::b)=true
 rw[HT.lexLt_cons,if_neg (by omega)]
 exact decide_eq_true (by omega)
theorem beg_of {zl rs:List (List Int)}(hs:Srt zl)(hm:∀ns,ns∈zl↔isB rs ns):Beg zl:=by
 have irr:∀z:List Int,prLt (kOf z) (kOf z)=true->False:=fun z q=>prLt_asym q q
 have nd:zl.Nodup:=hs.imp fun {a b} q e=>by subst e;exact irr _ q
 have ahead:∀i r p,zl[i]?=some r->p∈zl->prLt (kOf p) (kOf r)=true->p∈zl.take i:=fun i r p hr hp hlt=>by
  obtain⟨j,hj,ej⟩:=List.getElem_of_mem hp
  obtain⟨hi,ei⟩:=List.getElem?_eq_some_iff.mp hr
  have hji:j<i:=by
   refine Nat.lt_of_not_le fun hle=>?_
   by_cases e:i=j
   ·subst e
    rw[ei] at ej
    subst ej
    exact irr _ hlt
   ·have:=List.pairwise_iff_getElem.mp hs i j hi hj (by omega)
    rw[ei,ej] at this
    exact prLt_asym this hlt
  rw[<- ej]
  exact List.mem_take_iff_getElem.mpr ⟨j,by omega,rfl⟩
 have hnil:([]:List Int)∈zl:=(hm []).mpr (.inl rfl)
 refine⟨?_,fun i r h0 hr=>?_,nd⟩
 ·obtain⟨i,hi,ei⟩:=List.getElem_of_mem hnil
  have h0:0<zl.length:=by omega
  have e0:zl[0]?=some zl[0]:=List.getElem?_eq_getElem h0
  by_cases e:zl[0].length=0
  ·rw[e0,List.length_eq_zero_iff.mp e]
  ·have:=ahead 0 zl[0] [] e0 hnil (prLt_short (by show 0<_;omega))
   cases this
 ·have hne:r≠[]:=fun e=>by
   subst e
   have h00:([]:List Int)∈zl.take i:=by
    have hz:zl[0]?=some []:=by
     obtain⟨i',hi',ei'⟩:=List.getElem_of_mem hnil
     have h0':0<zl.length:=by omega
     have e0:zl[0]?=some zl[0]:=List.getElem?_eq_getElem h0'
     by_cases e:zl[0].length=0
     ·rw[e0,List.length_eq_zero_iff.mp e]
     ·have:=ahead 0 zl[0] [] e0 hnil (prLt_short (by show 0<_;omega))
      cases this
    obtain⟨hz1,hz2⟩:=List.getElem?_eq_some_iff.mp hz
    rw[<- hz2]
    exact List.mem_take_iff_getElem.mpr ⟨0,by omega,rfl⟩
   obtain⟨j,hj,ej⟩:=List.mem_take_iff_getElem.mp h00
   obtain⟨hi,ei⟩:=List.getElem?_eq_some_iff.mp hr
   have:=List.pairwise_iff_getElem.mp nd j i (by omega) hi (by omega)
   exact this (ej.trans ei.symm)
  obtain⟨p,x,rfl⟩:∃p x,r=p++[x]:=⟨r.dropLast,r.getLast hne,(List.dropLast_concat_getLast hne).symm⟩
  refine⟨p,x,rfl,ahead i _ p hr ?_ (prLt_short (by rw[List.length_append,List.length_singleton];omega))⟩
  rw[hm]
  rcases(hm _).mp (List.mem_of_getElem? hr) with e|⟨q,hq,j,hj,e⟩
  ·cases p<;>cases e
  ·refine .inr ⟨q,hq,j-1,by omega,?_⟩
   have hjp:j≠0:=fun z=>by subst z;simp at e
   have e1:=congrArg List.dropLast e
   rw[List.dropLast_concat,List.dropLast_eq_take,List.length_take,List.take_take,show min (min j q.length-1) j=j-1 by omega] at e1
   exact e1
def givN (zl:List (List Int))(sl:AL):Nat:=(zl.takeWhile fun r=>(walkS sl r).isSome).length
def givA (zl:List (List Int))(sl:AL):AL:=(zl.take (givN zl sl)).map fun r=>(r,(walkS sl r).getD 0)
theorem givN_le (zl:List (List Int))(sl:AL):givN zl sl<=zl.length:=(List.takeWhile_sublist _).length_le
theorem givN_all {zl:List (List Int)}{sl:AL}{i:Nat}(h:∀r∈zl.take i,(walkS sl r).isSome=true)(hi:i<=zl.length):i<=givN zl sl:=by
 unfold givN
 induction zl generalizing i with
 |nil=>exact hi
 |cons z zl ih=>
  cases i with
  |zero=>exact Nat.zero_le _
  |succ i=>
   rw[List.take_succ_cons] at h
   rw[List.takeWhile_cons_of_pos (p:=fun r=>(walkS sl r).isSome) (h z List.mem_cons_self),List.length_cons]
   have:=ih (i:=i) (fun r hr=>h r (List.mem_cons_of_mem _ hr)) (by simpa using hi)
   omega
theorem givN_stop {zl:List (List Int)}{sl:AL}{i:Nat}{r:List Int}(h:∀r∈zl.take i,(walkS sl r).isSome=true)(hr:zl[i]?=some r)(hn:walkS sl r=none):givN zl sl=i:=by
 unfold givN
 induction zl generalizing i with
 |nil=>cases hr
 |cons z zl ih=>
  cases i with
  |zero=>
   cases hr
   rw[List.takeWhile_cons_of_neg (p:=fun r=>(walkS sl r).isSome) (by rw[hn];exact Bool.false_ne_true)]
   rfl
  |succ i=>
   rw[List.take_succ_cons] at h
   rw[List.takeWhile_cons_of_pos (p:=fun r=>(walkS sl r).isSome) (h z List.mem_cons_self),List.length_cons]
   have:=ih (i:=i) (fun r hr=>h r (List.mem_cons_of_mem _ hr)) (by simpa using hr)
   omega
theorem giv_some {zl:List (List Int)}{sl:AL}:∀r∈zl.take (givN zl sl),(walkS sl r).isSome=true:=by
 unfold givN
 induction zl with
 |nil=>intro r hr;cases hr
 |cons z zl ih=>
  intro r hr
  by_cases e:(walkS sl z).isSome=true
  ·rw[List.takeWhile_cons_of_pos (p:=fun r=>(walkS sl r).isSome) e,List.length_cons,List.take_succ_cons] at hr
   rcases List.mem_cons.mp hr with q|q
   ·rw[q];exact e
   ·exact ih r q
  ·rw[List.takeWhile_cons_of_neg (p:=fun r=>(walkS sl r).isSome) e] at hr
   cases hr
theorem givA_keys (zl:List (List Int))(sl:AL):(givA zl sl).map (·.1)=zl.take (givN zl sl):=by
 unfold givA
 rw[List.map_map]
 exact List.map_id' _
theorem look_giv {zl:List (List Int)}{sl:AL}(nd:zl.Nodup){r:List Int}(hr:r∈zl.take (givN zl sl)):look (givA zl sl) r=walkS sl r:=by
 have nd':((givA zl sl).map (·.1)).Nodup:=by rw[givA_keys];exact nd.sublist (List.take_sublist _ _)
 have hs:=giv_some r hr
 obtain⟨v,hv⟩:=Option.isSome_iff_exists.mp hs
 rw[hv]
 refine look_of nd' ?_
 unfold givA
 exact List.mem_map.mpr ⟨r,hr,by rw[hv];rfl⟩
theorem look_giv_none {zl:List (List Int)}{sl:AL}{r:List Int}(hr:r∉zl.take (givN zl sl)):look (givA zl sl) r=none:=by
 rw[look_none,givA_keys]
 exact hr
theorem givN_pos {zl:List (List Int)}(B:Beg zl)(sl:AL):0<givN zl sl:=by
 obtain⟨h1,h2⟩:=List.getElem?_eq_some_iff.mp B.hd
 refine givN_all (i:=1) (fun r hr=>?_) (by omega)
 obtain⟨j,hj,ej⟩:=List.mem_take_iff_getElem.mp hr
 have:j=0:=by omega
 subst this
 rw[h2] at ej
 subst ej
 rfl
def roomsM (rs:List (List Int))(al:AL):List Int:=rs.filterMap (look al)
def maxM (ns:List Int):Int:=ns.foldl max 0
def stepM (zl:List (List Int))(sl:AL):List Int:=match zl[givN zl sl]? with|some r=>[(walkS sl r.dropLast).getD 0,r.getLastD 0]|none=>[]
def topM (zl:List (List Int))(sl:AL)(size:Int):Nat:=(min size (maxM ((givA zl sl).map (·.2))+2)).toNat
def fsM (zl gs bs:List (List Int))(size:Int):Nat->AL->Option AL
 |0,_=>none
 |d+1,sl=>
  if (roomsM gs (givA zl sl)).any (fun q=>decide (q∈roomsM bs (givA zl sl)))=true then none
  else if givN zl sl=zl.length then some sl
  else(List.range (topM zl sl size)).findSome? fun(k:Nat)=>fsM zl gs bs size d (sl++[(stepM zl sl,(k:Int))])
end BG
namespace BG
open PySem L2 SO K20
def AlA (P:Program)(w:World)(H:Hp)(d:Addr)(al:AL):Prop:=∃xs o,H d=some (TD P w d xs o)/\(∀x∈xs,H x.2.1=some (.tup (x.1.map V.int)))/\(xs.map fun x=>(x.1,x.2.2))=(al.map fun s=>(s.1,V.int s.2))/\(al.map (·.1)).Nodup/\al.length<=1000
section
variable {P:Program} {w:World}
theorem AlA.same {H H':Hp}{d:Addr}{al:AL}(h:AlA P w H d al)(s:Same H H'):AlA P w H' d al:=by
 obtain⟨xs,o,h1,h2,h3,h4⟩:=h
 exact⟨xs,o,s _ _ h1,fun x hx=>s _ _ (h2 x hx),h3,h4⟩
theorem al_tks {H:Hp}{xs:List (KTu×Addr×V)}(h:∀x∈xs,H x.2.1=some (.tup (x.1.map V.int))):TKs H xs:=fun x hx=>⟨_,h x hx,nums_ints x.1⟩
theorem al_at:∀{xs:List (KTu×Addr×V)} {al:AL},(xs.map fun x=>(x.1,x.2.2))=(al.map fun s=>(s.1,V.int s.2))->∀k,atT xs k=(look al k).map V.int
 | [],[],_,_=>rfl
 | [],_::_,h,_=>by cases h
 |_::_,[],h,_=>by cases h
 |x::xs,s::al,h,k=>by
  rw[List.map_cons,List.map_cons] at h
  injection h with h1 h2
  injection h1 with e1 e2
  rw[look_cons]
  have ih:=al_at h2 k
  unfold atT at ih ⊢
  by_cases e:x.1=k
  ·rw[if_pos (e1.symm.trans e)]
   simp[List.find?_cons,e,e2]
  ·rw[if_neg (fun q=>e (e1.trans q)),<- ih]
   simp[List.find?_cons,e]
theorem al_any {xs:List (KTu×Addr×V)}{al:AL}(h:(xs.map fun x=>(x.1,x.2.2))=(al.map fun s=>(s.1,V.int s.2)))(k:List Int):(xs.any fun x=>decide (x.1=k))=(look al k).isSome:=by
 have:=al_at h k
 unfold atT at this
 cases e:look al k with
 |none=>
  rw[e] at this
  have hn:xs.find? (fun x=>decide (x.1=k))=none:=Option.map_eq_none_iff.mp this
  rw[Option.isSome_none,Bool.eq_false_iff]
  intro q
  obtain⟨x,hx,ex⟩:=List.any_eq_true.mp q
  exact absurd ex (by simpa using List.find?_eq_none.mp hn x hx)
 |some v=>
  rw[e] at this
  obtain⟨x,hx,_⟩:=Option.map_eq_some_iff.mp this
  rw[Option.isSome_some,List.any_eq_true]
  exact⟨x,List.mem_of_find?_eq_some hx,List.find?_some (p:=fun x:KTu×Addr×V=>decide (x.1=k)) hx⟩
theorem al_len {xs:List (KTu×Addr×V)}{al:AL}(h:(xs.map fun x=>(x.1,x.2.2))=(al.map fun s=>(s.1,V.int s.2))):xs.length=al.length:=by
 have:=congrArg List.length h
 rwa [List.length_map,List.length_map] at this
theorem al_vals {xs:List (KTu×Addr×V)}{al:AL}(h:(xs.map fun x=>(x.1,x.2.2))=(al.map fun s=>(s.1,V.int s.2))):xs.map (·.2.2)=(al.map (·.2)).map V.int:=by
 have:=congrArg (List.map Prod.snd) h
 rw[List.map_map,List.map_map] at this
 rw[List.map_map]
 exact this
theorem al_keys {xs:List (KTu×Addr×V)}{al:AL}(h:(xs.map fun x=>(x.1,x.2.2))=(al.map fun s=>(s.1,V.int s.2))):xs.map (·.1)=al.map (·.1):=by
 have:=congrArg (List.map Prod.fst) h
 rw[List.map_map,List.map_map] at this
 exact this
theorem al_put {H:Hp}{d b:Addr}{xs:List (KTu×Addr×V)}{o o':Obj}{al:AL}{k:List Int}{v:Int}(hd:H d=some (TD P w d xs o))(hx:∀x∈xs,H x.2.1=some (.tup (x.1.map V.int)))(he:(xs.map fun x=>(x.1,x.2.2))=(al.map fun s=>(s.1,V.int s.2)))(nd:(al.map (·.1)).Nodup)(hl:al.length<1000)
  (hk:look al k=none) (hb:H b=some (.tup (k.map V.int))):AlA P w (upd H d (TD P w d (putH xs k b (.int v)) o')) d (al++[(k,v)]):=by
 have hp:putH xs k b (.int v)=xs++[(k,b,.int v)]:=by
  unfold putH
  rw[al_any he,hk]
  rfl
 have ts:∀{c:Addr} {ys:List V},H c=some (.tup ys)->upd H d (TD P w d (putH xs k b (.int v)) o') c=some (.tup ys):=fun e=>by
  rw[upd_ne (ne_of e hd (fun z=>nomatch z))];exact e
 refine⟨_,o',upd_same,fun x hx'=>?_,?_,?_,by rw[List.length_append];show al.length+1<=1000;omega⟩
 ·rw[hp] at hx'
  rcases List.mem_append.mp hx' with h|h
  ·exact ts (hx x h)
  ·rw[List.mem_singleton.mp h];exact ts hb
 ·rw[hp,List.map_append,he,List.map_append]
  rfl
 ·rw[List.map_append]
  refine List.nodup_append.mpr ⟨nd,by simp,fun a ha c hc=>?_⟩
  have:c=k:=by simpa using hc
  rw[this]
  intro e
  exact(look_none.mp hk) (e▸ha)
end
section
variable {P:Program} {w:World} {K:W.Frag} {mg:Str->Option Value} {base:Heap}
theorem cut_initT (xs:List Int)(x:Int):cutV ((xs++[x]).map V.int) none (some (-1))=xs.map V.int:=by
 rw[cut_init,<- List.map_dropLast,List.dropLast_concat]
theorem atI_last (xs:List V)(x:V):atI (xs++[x]) (-1)=some x:=by
 have e:ixN (xs++[x]).length (-1)=some xs.length:=by
  unfold ixN
  rw[List.length_append,List.length_singleton]
  simp
  try omega
 unfold atI
 rw[e]
 simp
def spSt (P:Program)(w:World):Sp:=fun vs H Q _=>∃(t d:Addr) (r:List Int) (x v:Int) (al:AL),vs=[.ref t,.ref d]/\RA H t (r++[x])/\AlA P w H d al/\look al r=some v/\∀(p:Addr) (H':Hp),Same H H'->H p=none->RA H' p [v,x]->Q (.ref p) H'
theorem scSt:FnScope ["run","given"] ["run","given"] (defScope sSt):=.of (by decide +kernel)
theorem ok_st (F:Fun K "step_to" "step_to" sSt f fd):FnOk P w K mg base CX0 1 f fd ["run","given"] (spSt P w):=by
 refine F.ok scSt (fun vs H Q E h=>?_) (fun cdv A outer s H vs Q E hr h=>?_)
 ·obtain⟨t,d,r,x,v,al,rfl,_⟩:=h
  rfl
 ·obtain⟨t,d,r,x,v,al,rfl,ht,⟨xs,o,a1,a2,a3,a4,a5⟩,hv,k⟩:=h
  have hu1:=hu_of hr
  refine⟨_,pss_one (ps_ret (pe_tup (pa_cons (pe_tgetW (P:=P) (w:=w) rfl rfl hu1 (pv 1) (pe_slice sl_tupA (pv 0) po_none (po_some (pe_un un_neg pe_int))) (fun _ _=>rfl)) (pa_cons (pe_ix ix_tup (pv 0) (pe_un un_neg pe_int) (fun _ _=>rfl)) pa_nil)))),?_⟩
  refine⟨_,rfl,_,rfl,_,rfl,_,rfl,t,_,rfl,ht,fun p1 H1 s1 hp1=>?_⟩
  rw[cut_initT] at hp1
  refine⟨d,xs,o,p1,r,.int v,rfl,s1 _ _ a1,al_tks fun x hx=>s1 _ _ (a2 x hx),rfl,⟨_,hp1,nums_ints _⟩,by rw[al_at a3,hv];rfl,?_⟩
  refine⟨_,rfl,_,rfl,t,_,_,.int x,rfl,rfl,SqT.of (s1 _ _ ht),by rw[List.map_append];exact atI_last _ _,(by show 2<=sizeLine;decide),fun p2 hp2=>?_⟩
  exact k p2 _ (s1.trans ((Same.refl H1).upd_free hp2)) (s1.free hp2) upd_same
structure StA (H:Hp)(st:Addr)(zs:List (Addr×List Int))(zl:List (List Int)):Prop where
 tup:H st=some (.tup (zs.map fun z=>V.ref z.1))
 at':∀z∈zs,RA H z.1 z.2
 eq:zs.map (·.2)=zl
 len:zl.length<=500
theorem StA.same {H H':Hp}{st:Addr}{zs:List (Addr×List Int)}{zl:List (List Int)}(h:StA H st zs zl)(s:Same H H'):StA H' st zs zl:=⟨s _ _ h.tup,fun z hz=>s _ _ (h.at' z hz),h.eq,h.len⟩
def spRg (P:Program)(w:World):Sp:=fun vs H Q _=>∃(st d:Addr) (zs:List (Addr×List Int)) (zl:List (List Int)) (sl:AL),vs=[.ref st,.ref d]/\StA H st zs zl/\Beg zl/\AlA P w H d sl/\∀(p:Addr) (H':Hp),Same H H'->H p=none->AlA P w H' p (givA zl sl)->Q (.ref p) H'
theorem scRg:FnScope ["starts","steps","given","run","step"] ["starts","steps"] (defScope sRg):=.of (by decide +kernel)
theorem ok_rg (F:Fun K "rooms_given" "rooms_given" sRg f fd)(FS:Fun K "step_to" "step_to" sSt fS fdS)(bS:Binds K fdS ["run","given"] [])(gS:mg "step_to"=some (.ref fS)):
  FnOk P w K mg base CX0 2 f fd ["starts","steps"] (spRg P w):=by
 have GS:FnOk P w K mg base CX0 1 fS fdS ["run","given"] (spSt P w):=ok_st FS
 refine F.ok scRg (fun vs H Q E h=>?_) (fun cdv A outer s H vs Q E hr h=>?_)
 ·obtain⟨st,d,zs,zl,sl,rfl,_⟩:=h
  rfl
 ·obtain⟨st,d,zs,zl,sl,rfl,hZ,B,hA,k⟩:=h
  have hu1:=hu_of hr
  have hu0:=hr.units0
  refine⟨_,pss_cons (ps_set (i:=2) scRg.nd rfl (Or.inl rfl) (pe_dispTW (P:=P) (w:=w) rfl rfl hu0 (pe_tup pa_nil) pe_int))
   (pss_cons (ps_for PassesOwn.never rfl (pi_tup (pe_slice sl_tupA (pv 0) (po_some pe_int) po_none)) (pg_name (i:=3) scRg.nd rfl (Or.inl rfl))
    (pss_cons (ps_set (i:=4) scRg.nd rfl (Or.inl rfl) (pe_call GS hr rfl gS FS.kp bS .nil pass0 (pa_cons (pv 3) (pa_cons (pv 2) pa_nil))))
    (pss_cons (ps_if (pt_cmp (pc_tnotinW (P:=P) (w:=w) rfl rfl hu1 (pv 4) (pv 1))) (pss_one (ps_ret (pv 2))) pss_nil)
    (pss_one (ps_tputW (P:=P) (w:=w) rfl rfl hu1 (pv 2) (pv 3) (pe_tgetW (P:=P) (w:=w) rfl rfl hu1 (pv 1) (pv 4) (fun _ _=>rfl)) rfl)))))
   (pss_one (ps_ret (pv 2)))),?_⟩
  refine fun p o hp=>⟨Nat.zero_le _,fun t ht=>?_⟩
  have htp:t≠p:=fun e=>by rw[e,upd_same] at ht;cases ht
  have hp1:upd (upd H p (TD P w p [] o)) t (.tup []) p=some (TD P w p [] o):=by rw[upd_ne (fun e=>htp e.symm)];exact upd_same
  refine⟨hp1,t,_,[],rfl,⟨[],upd_same,rfl⟩,fun o1=>?_⟩
  have s1:Same H (upd (upd (upd H p (TD P w p [] o)) t (.tup [])) p (TD P w p [([],t,.int 0)] o1)):=(((Same.refl H).upd_free hp).upd_free (by rw[upd_ne htp] at ht;exact ht)).upd_free hp
  have ht1:upd (upd (upd H p (TD P w p [] o)) t (.tup [])) p (TD P w p [([],t,.int 0)] o1) t=some (.tup []):=by rw[upd_ne htp];exact upd_same
  have hp2:upd (upd (upd H p (TD P w p [] o)) t (.tup [])) p (TD P w p [([],t,.int 0)] o1) p=some (TD P w p [([],t,.int 0)] o1):=upd_same
  generalize upd (upd (upd H p (TD P w p [] o)) t (.tup [])) p (TD P w p [([],t,.int 0)] o1)=H1 at s1 ht1 hp2
  have hZ1:=hZ.same s1
  refine⟨_,rfl,_,rfl,st,_,rfl,hZ1.tup,fun q H2 s2 hq=>?_⟩
  rw[show(1:Int)=((1:Nat):Int) from rfl,cut_drop,<- List.map_drop] at hq
  have hp3:=s2 _ _ hp2
  have sH2:=s1.trans s2
  obtain⟨hz0,_⟩:=List.getElem?_eq_some_iff.mp B.hd
  have hzl:zs.length=zl.length:=by rw[<- hZ.eq,List.length_map]
  refine⟨q,rfl,⟨_,SqT.of hq⟩,?_⟩
  have al0:∀i,i<=zl.length->(∀r∈zl.take i,(walkS sl r).isSome=true)->(((zl.take i).map fun r=>(r,(walkS sl r).getD 0)).map (·.1)).Nodup/\((zl.take i).map fun r=>(r,(walkS sl r).getD 0)).length<=500:=fun i hi _=>by
   rw[List.map_map]
   refine⟨?_,?_⟩
   ·have:(zl.take i).map ((·.1) ∘ fun r=>(r,(walkS sl r).getD 0))=zl.take i:=List.map_id' _
    rw[this]
    exact B.nd.sublist (List.take_sublist _ _)
   ·have:=hZ.len
    rw[List.length_map,List.length_take]
    omega
  have h00:zl.take 1=[[]]:=by
   rw[List.take_add_one,B.hd]
   rfl
  have st0:∃xs o,H2 p=some (TD P w p xs o)/\(∀x∈xs,H2 x.2.1=some (.tup (x.1.map V.int)))/\(xs.map fun x=>(x.1,x.2.2))=(((zl.take (0+1)).map fun r=>(r,(walkS sl r).getD 0)).map fun s=>(s.1,V.int s.2)):=by
   refine⟨_,_,hp3,fun x hx=>?_,?_⟩
   ·rw[List.mem_singleton.mp hx];exact s2 _ _ ht1
   ·rw[Nat.zero_add,h00]
    rfl
  refine for_tup (K:=K) (a:=q) (xs:=(zs.drop 1).map fun z=>V.ref z.1) (fun i σ H3=>∃(v3 v4:Option V),σ=[some (.ref st),some (.ref d),some (.ref p),v3,v4]/\Same H H3/\SBut p H2 H3/\(∃xs o,H3 p=some (TD P w p xs o)/\(∀x∈xs,H3 x.2.1=some (.tup (x.1.map V.int)))/\(xs.map fun x=>(x.1,x.2.2))=(((zl.take (i+1)).map fun r=>(r,(walkS sl r).getD 0)).map fun s=>(s.1,V.int s.2)))/\∀r∈zl.take (i+1),(walkS sl r).isSome=true)
   ⟨none,none,rfl,sH2,SBut.refl,st0,fun r hr'=>by rw[Nat.zero_add,h00] at hr';rw[List.mem_singleton.mp hr'];rfl⟩ (fun i σ H3 _ ⟨_,_,_,_,sb,_⟩=>SqT.of (sb.get hp3 hq (fun z=>nomatch z))) ?_ ?_
  ·rintro i x σ H3 hx ⟨v3,v4,rfl,s3,sb3,⟨xs,o3,b1,b2,b3⟩,hall⟩
   have hi:i+1<zs.length:=by
    have:=(List.getElem?_eq_some_iff.mp hx).1
    rw[List.length_map,List.length_drop] at this
    omega
   have ez:zs[i+1]?=some zs[i+1]:=List.getElem?_eq_getElem hi
   generalize zs[i+1]=z at ez
   rw[List.getElem?_map,List.getElem?_drop,show 1+i=i+1 by omega,ez] at hx
   cases hx
   have ezl:zl[i+1]?=some z.2:=by rw[<- hZ.eq,List.getElem?_map,ez];rfl
   obtain⟨r,x,er,hrm⟩:=B.pre (i+1) z.2 (by omega) ezl
   have hz3:=s3 _ _ (hZ.at' z (List.mem_of_getElem? ez))
   rw[er] at hz3
   obtain⟨n1,n2⟩:=al0 (i+1) (by omega) hall
   have hA3:AlA P w H3 p ((zl.take (i+1)).map fun r=>(r,(walkS sl r).getD 0)):=⟨xs,o3,b1,b2,b3,n1,by omega⟩
   obtain⟨v,hv⟩:=Option.isSome_iff_exists.mp (hall r hrm)
   have hlk:look ((zl.take (i+1)).map fun r=>(r,(walkS sl r).getD 0)) r=some v:=look_of n1 (List.mem_map.mpr ⟨r,hrm,by rw[hv];rfl⟩)
   have hwz:walkS sl z.2=look sl [v,x]:=by rw[er,walkS_snoc,hv];rfl
   refine⟨_,rfl,_,rfl,z.1,p,r,x,v,_,rfl,hz3,hA3,hlk,fun p4 H4 s4 _ hp4=>?_⟩
   obtain⟨ys,od,c1,c2,c3,c4,c5⟩:=hA.same (s3.trans s4)
   refine⟨_,rfl,_,rfl,d,ys,od,p4,[v,x],rfl,c1,al_tks c2,rfl,⟨_,hp4,nums_ints _⟩,_,rfl,?_⟩
   rw[al_any c3]
   cases hs:look sl [v,x] with
   |none=>
    refine iteTK rfl ?_
    have hg:givN zl sl=i+1:=givN_stop hall ezl (hwz.trans hs)
    have:givA zl sl=(zl.take (i+1)).map fun r=>(r,(walkS sl r).getD 0):=by unfold givA;rw[hg]
    refine⟨_,rfl,k p H4 (s3.trans s4) hp ?_⟩
    rw[this]
    exact hA3.same s4
   |some v2=>
    refine iteFK rfl ?_
    refine⟨_,rfl,_,rfl,d,ys,od,p4,[v,x],.int v2,rfl,c1,al_tks c2,rfl,⟨_,hp4,nums_ints _⟩,by rw[al_at c3,hs];rfl,?_⟩
    have b1':=s4 _ _ b1
    have hz4:=s4 _ _ hz3
    rw[<- er] at hz4
    have hnk:look ((zl.take (i+1)).map fun r=>(r,(walkS sl r).getD 0)) z.2=none:=by
     rw[look_none,List.map_map]
     have e1:(zl.take (i+1)).map ((·.1) ∘ fun r=>(r,(walkS sl r).getD 0))=zl.take (i+1):=List.map_id' _
     rw[e1]
     intro hm
     obtain⟨j,hj,ej⟩:=List.mem_take_iff_getElem.mp hm
     obtain⟨h1,h2⟩:=List.getElem?_eq_some_iff.mp ezl
     exact List.pairwise_iff_getElem.mp B.nd j (i+1) (by omega) h1 (by omega) (ej.trans h2.symm)
    have hxl:=al_len b3
    refine⟨_,rfl,_,rfl,p,xs,o3,z.1,z.2,rfl,b1',al_tks fun x hx=>s4 _ _ (b2 x hx),rfl,⟨_,hz4,nums_ints _⟩,small1000 (by omega),fun o5=>?_⟩
    obtain⟨xs5,o6,d1,d2,d3,d4,d5⟩:=al_put (v:=v2) (o':=o5) b1' (fun x hx=>s4 _ _ (b2 x hx)) b3 n1 (by omega) hnk hz4
    have tk:zl.take (i+1+1)=zl.take (i+1)++[z.2]:=by rw[List.take_add_one (i:=i+1),ezl];rfl
    refine⟨_,_,rfl,(s3.trans s4).upd_free hp,(sb3.same s4).upd,⟨xs5,o6,d1,d2,?_⟩,fun r' hr'=>?_⟩
    ·rw[d3,tk,List.map_append (f:=fun r=>(r,(walkS sl r).getD 0))]
     congr 2
     show[(z.2,v2)]=[(z.2,(walkS sl z.2).getD 0)]
     rw[hwz,hs]
     rfl
    ·rw[tk] at hr'
     rcases List.mem_append.mp hr' with h|h
     ·exact hall r' h
     ·have:r'=z.2:=by simpa using h
      rw[this,hwz,hs];rfl
  ·rintro σ H3 ⟨v3,v4,rfl,s3,sb3,⟨xs,o3,b1,b2,b3⟩,hall⟩
   rw[List.length_map,List.length_drop,show zs.length-1+1=zl.length by omega] at b3 hall
   obtain⟨n1,n2⟩:=al0 zl.length (Nat.le_refl _) hall
   have hg:givN zl sl=zl.length:=Nat.le_antisymm (givN_le _ _) (givN_all hall (Nat.le_refl _))
   refine⟨_,rfl,k p H3 s3 hp ?_⟩
   unfold givA
   rw[hg]
   exact⟨xs,o3,b1,b2,b3,n1,by omega⟩
def spRf (P:Program)(w:World):Sp:=fun vs H Q _=>∃(g d:Addr) (rs:List (List Int)) (al:AL),vs=[.ref g,.ref d]/\RsT H g rs/\rs.length<=100/\AlA P w H d al/\∀(l:Addr) (H':Hp),Same H H'->H l=none->H' l=some (.lst ((roomsM rs al).map V.int))->Q (.ref l) H'
theorem scRf:FnScope ["runs","given"] ["runs","given"] (defScope sRo2):=.of (by decide +kernel)
def scopeRf:Scope:=⟨.function,[(".0",.local),("run",.local),("given",.free)],false,false,[]⟩
theorem scRf1:BlkScope (defScope sRo2) ["runs","given"] ["run"] ["given"] [1] scopeRf:=.of (by decide +kernel)
theorem ok_rf (F:Fun K "rooms_of" "rooms_of" sRo2 f fd):FnOk P w K mg base CX0 1 f fd ["runs","given"] (spRf P w):=by
 refine F.ok scRf (fun vs H Q E h=>?_) (fun cdv A outer s H vs Q E hr h=>?_)
 ·obtain⟨g,d,rs,al,rfl,_⟩:=h
  rfl
 ·obtain⟨g,d,rs,al,rfl,⟨ts,hg,hT⟩,l100,hA,k⟩:=h
  have hg:H g=some (.tup (ts.map V.ref)):=hg
  have hu1:=hu_of hr
  refine⟨_,pss_one (ps_ret (pe_lc scRf1 rfl rfl rfl (pi_tup (pv 0)) (fun fp C s1 H1=>pg_name (i:=0) scRf1.nd rfl (Or.inl rfl)) (fun fp C s1 H1=>pts_one (pt_cmp (pc_tinW (P:=P) (w:=w) rfl rfl hu1 (pv 0) (pv 1))))
   (fun fp C s1 H1=>pe_tgetW (P:=P) (w:=w) rfl rfl hu1 (pv 1) (pv 0) (fun _ _=>rfl)))),?_⟩
  refine⟨_,rfl,g,rfl,⟨_,SqT.of hg⟩,fun D hD=>?_⟩
  have hlt:(ts.map V.ref).length=rs.length:=by rw[List.length_map];exact hT.1
  refine lc_tup (K:=K) (a:=g) (xs:=ts.map V.ref) (fun i ys H2=>Same H H2/\H2 D=some (.lst ys)/\ys.length<=i/\ys=(roomsM (rs.take i) al).map V.int) (Nat.le_of_lt (small1000 (by omega)))
   ⟨(Same.refl H).upd_free hD,upd_same,Nat.le_refl _,rfl⟩ (fun i ys H2 h=>h.2.2.1) (fun i ys H2 h=>SqT.of (h.1 _ _ hg)) ?_ ?_
  ·rintro i ys H2 x N M hx ⟨u1,u2,u3,rfl⟩ hN hM
   have hi:i<rs.length:=by
    have:=(List.getElem?_eq_some_iff.mp hx).1
    omega
   have er:rs[i]?=some rs[i]:=List.getElem?_eq_getElem hi
   generalize rs[i]=r at er
   obtain⟨t,e1,e2⟩:=hT.2 i r er
   rw[List.getElem?_map,e1] at hx
   cases hx
   obtain⟨xs,o,a1,a2,a3,a4,a5⟩:=hA.same u1
   have ht:=u1 _ _ e2
   have tk:roomsM (rs.take (i+1)) al=roomsM (rs.take i) al++(look al r).toList:=by
    unfold roomsM
    rw[List.take_add_one,er,List.filterMap_append]
    show _++List.filterMap (look al) [r]=_
    rw[List.filterMap_cons]
    cases look al r<;>rfl
   refine⟨_,rfl,_,rfl,d,xs,o,t,r,rfl,a1,al_tks a2,rfl,⟨_,ht,nums_ints _⟩,_,rfl,?_⟩
   rw[al_any a3]
   cases hv:look al r with
   |none=>
    refine iteFK rfl (hM H2 ⟨u1,u2,by omega,?_⟩)
    rw[tk,hv]
    simp
   |some v=>
    refine iteTK rfl ⟨_,rfl,_,rfl,d,xs,o,t,r,.int v,rfl,a1,al_tks a2,rfl,⟨_,ht,nums_ints _⟩,by rw[al_at a3,hv];rfl,?_⟩
    refine hN _ H2 u2 ⟨u1.upd_free hD,upd_same,by rw[List.length_append,List.length_singleton];omega,?_⟩
    rw[tk,hv,List.map_append]
    rfl
  ·rintro ys H2 ⟨u1,u2,u3,rfl⟩
   rw[hlt,List.take_length] at u2
   exact k D H2 u1 hD u2
end
end BG
namespace BG
open PySem L2 SO K20
theorem foldl_max_le:∀(ns:List Int) (a:Int),a<=ns.foldl max a/\∀n∈ns,n<=ns.foldl max a
 | [],a=>⟨Int.le_refl a,fun n hn=>by cases hn⟩
 |x::ns,a=>by
  obtain⟨h1,h2⟩:=foldl_max_le ns (max a x)
  rw[List.foldl_cons]
  refine⟨by omega,fun n hn=>?_⟩
  rcases List.mem_cons.mp hn with e|e
  ·rw[e];omega
  ·exact h2 n e
theorem foldl_max_mem:∀(ns:List Int) (a:Int),ns.foldl max a=a\/ns.foldl max a∈ns
 | [],a=>.inl rfl
 |x::ns,a=>by
  rw[List.foldl_cons]
  rcases foldl_max_mem ns (max a x) with h|h
  ·rw[h]
   by_cases e:a<=x
   ·exact .inr (by rw[show max a x=x by omega];exact List.mem_cons_self)
   ·exact .inl (by omega)
  ·exact .inr (List.mem_cons_of_mem _ h)
theorem max_eq {ns:List Int}{m:Int}(h0:(0:Int)∈ns)(hm:m∈ns)(hle:∀n∈ns,n<=m):m=maxM ns:=by
 obtain⟨h1,h2⟩:=foldl_max_le ns 0
 have h3:=h2 m hm
 have h4:maxM ns<=m:=by
  rcases foldl_max_mem ns 0 with h|h
  ·unfold maxM;rw[h];exact hle 0 h0
  ·exact hle _ h
 have h5:m<=maxM ns:=h3
 omega
theorem walk_mono {sl el:AL}:∀(r:List Int) {v:Int},walkS sl r=some v->walkS (sl++el) r=some v:=by
 intro r
 induction hn:r.length generalizing r with
 |zero=>
  intro v h
  rw[List.length_eq_zero_iff.mp hn] at h ⊢
  exact h
 |succ n ih=>
  intro v h
  have hne:r≠[]:=fun e=>by rw[e] at hn;cases hn
  obtain⟨p,x,rfl⟩:∃p x,r=p++[x]:=⟨r.dropLast,r.getLast hne,(List.dropLast_concat_getLast hne).symm⟩
  rw[walkS_snoc] at h ⊢
  obtain⟨q,h1,h2⟩:=Option.bind_eq_some_iff.mp h
  rw[ih p (by simpa using hn) h1]
  show look (sl++el) [q,x]=some v
  rw[look_app,h2]
  rfl
theorem step_is {zl:List (List Int)}(B:Beg zl){sl:AL}(h:givN zl sl<zl.length):∃p x q,zl[givN zl sl]?=some (p++[x])/\p∈zl.take (givN zl sl)/\walkS sl p=some q/\stepM zl sl=[q,x]/\look sl [q,x]=none:=by
 have er:zl[givN zl sl]?=some zl[givN zl sl]:=List.getElem?_eq_getElem h
 obtain⟨p,x,e,hp⟩:=B.pre _ _ (givN_pos B sl) er
 obtain⟨q,hq⟩:=Option.isSome_iff_exists.mp (giv_some p hp)
 rw[e] at er
 refine⟨p,x,q,er,hp,hq,?_,?_⟩
 ·unfold stepM
  rw[er]
  show[(walkS sl (p++[x]).dropLast).getD 0,(p++[x]).getLastD 0]=[q,x]
  rw[List.dropLast_concat,hq,List.getLastD_concat]
  rfl
 ·cases hl:look sl [q,x] with
  |none=>rfl
  |some v=>
   exfalso
   have hw:walkS sl (p++[x])=some v:=by rw[walkS_snoc,hq];exact hl
   have:givN zl sl+1<=givN zl sl:=by
    refine givN_all (fun r hr=>?_) h
    rw[List.take_add_one,er] at hr
    rcases List.mem_append.mp hr with h'|h'
    ·exact giv_some r h'
    ·have:r=p++[x]:=by simpa using h'
     rw[this,hw];rfl
   omega
theorem giv_grow {zl:List (List Int)}(B:Beg zl){sl:AL}(h:givN zl sl<zl.length)(k:Int):givN zl sl<givN zl (sl++[(stepM zl sl,k)]):=by
 obtain⟨p,x,q,er,hp,hq,es,hl⟩:=step_is B h
 refine Nat.lt_of_succ_le (givN_all (fun r hr=>?_) h)
 rw[List.take_add_one,er] at hr
 rcases List.mem_append.mp hr with h'|h'
 ·obtain⟨v,hv⟩:=Option.isSome_iff_exists.mp (giv_some r h')
  rw[walk_mono r hv];rfl
 ·have:r=p++[x]:=by simpa using h'
  rw[this,walkS_snoc,walk_mono p hq]
  show(look (sl++[(stepM zl sl,k)]) [q,x]).isSome=true
  rw[look_app,hl,es,look_cons,if_pos rfl]
  rfl
def KeyOk (sl:AL):Prop:=∀s∈sl,∃q x:Int,s.1=[q,x]/\0<=q/\q<8/\0<=x/\x<8/\0<=s.2/\s.2<8
def hashL (k:List Int):Int:=reduceHash (Builtin.Tuple.tupleHashOf (k.map hashInt))
theorem hash8:∀a b c d:Fin 8,hashL [((a.val:Nat):Int),((b.val:Nat):Int)]=hashL [((c.val:Nat):Int),((d.val:Nat):Int)]->a=c/\b=d:=by decide +kernel
theorem hash_is (P:Program)(w:World)(k:List Int):(tupleKind (numKind P w)).hash k=hashL k:=rfl
theorem hash_nodup {P:Program}{w:World}{sl:AL}(hk:KeyOk sl)(nd:(sl.map (·.1)).Nodup):(sl.map fun s=>(tupleKind (numKind P w)).hash s.1).Nodup:=by
 rw[List.Nodup,List.pairwise_map] at nd ⊢
 refine nd.imp_of_mem fun {a b} ha hb hne e=>hne ?_
 obtain⟨q,x,e1,q0,q1,x0,x1,_⟩:=hk a ha
 obtain⟨q',x',e2,q0',q1',x0',x1',_⟩:=hk b hb
 rw[hash_is,hash_is,e1,e2] at e
 have:=hash8 ⟨q.toNat,by omega⟩ ⟨x.toNat,by omega⟩ ⟨q'.toNat,by omega⟩ ⟨x'.toNat,by omega⟩ (by
  rw[show((q.toNat:Nat):Int)=q by omega,show((x.toNat:Nat):Int)=x by omega,show((q'.toNat:Nat):Int)=q' by omega,show((x'.toNat:Nat):Int)=x' by omega]
  exact e)
 have h1:=congrArg Fin.val this.1
 have h2:=congrArg Fin.val this.2
 simp only at h1 h2
 rw[e1,e2,show q=q' by omega,show x=x' by omega]
theorem walk_val {sl:AL}(hk:KeyOk sl):∀(r:List Int) {v:Int},walkS sl r=some v->0<=v/\v<8:=by
 intro r v h
 by_cases e:r=[]
 ·subst e
  cases h
  decide
 ·obtain⟨p,x,rfl⟩:∃p x,r=p++[x]:=⟨r.dropLast,r.getLast e,(List.dropLast_concat_getLast e).symm⟩
  rw[walkS_snoc] at h
  obtain⟨q,_,h2⟩:=Option.bind_eq_some_iff.mp h
  obtain⟨_,_,_,_,_,_,_,h3,h4⟩:=hk _ (look_some h2)
  exact⟨h3,h4⟩
def SlO (P:Program)(w:World)(H:Hp)(v:V):Option AL->Prop
 |none=>v=.non
 |some sl=>∃p,v=.ref p/\AlA P w H p sl
theorem range_find {α:Type}{f:Nat->Option α}{n i:Nat}{x:α}(hi:i<n)(hno:∀k,k<i->f k=none)(h:f i=some x):(List.range n).findSome? f=some x:=by
 obtain⟨m,rfl⟩:∃m,n=i+1+m:=⟨n-(i+1),by omega⟩
 rw[List.range_add,List.findSome?_append,List.range_succ,List.findSome?_append]
 have:(List.range i).findSome? f=none:=List.findSome?_eq_none_iff.mpr fun k hk=>hno k (List.mem_range.mp hk)
 rw[this]
 simp[h]
section
variable {P:Program} {w:World} {K:W.Frag} {mg:Str->Option Value} {base:Heap}
def spFs (P:Program)(w:World)(d:Nat):Sp:=fun vs H Q _=>∃(st g b sd:Addr) (zs:List (Addr×List Int)) (zl gs bs:List (List Int)) (size:Int) (sl:AL),vs=[.ref st,.ref g,.ref b,.int size,.ref sd]/\StA H st zs zl/\Beg zl/\RsT H g gs/\RsT H b bs/\gs.length<=100/\bs.length<=100/\AlA P w H sd sl/\KeyOk sl/\(∀r∈zl,∀x∈r,0<=x/\x<8)/\0<=size/\size<=8/\zl.length-givN zl sl<d/\sl.length+d<=500∧
 ∀(v:V) (H':Hp),Same H H'->SlO P w H' v (fsM zl gs bs size d sl)->Q v H'
abbrev nFs:List Str:=["starts","good","bad","size","steps","given","spoiled","room","step","more","found"]
theorem scFs:FnScope nFs ["starts","good","bad","size","steps"] (defScope sFs):=.of (by decide +kernel)
def scopeFs:Scope:=⟨.function,[(".0",.local),("room",.local),("spoiled",.free)],false,false,[]⟩
theorem scFs1:BlkScope (defScope sFs) nFs ["room"] ["spoiled"] [6] scopeFs:=.of (by decide +kernel)
structure Fx (mg:Str->Option Value):Prop where
 any:mg "any"=none
 dict:mg "dict"=none
theorem ok_fs (F:Fun K "first_steps" "first_steps" sFs f fd)(T:Txt mg)(T2:Fx mg)(bF:Binds K fd ["starts","good","bad","size","steps"] [])(gF:mg "first_steps"=some (.ref f))
  (FG:Fun K "rooms_given" "rooms_given" sRg fG fdG) (bG:Binds K fdG ["starts","steps"] []) (gG:mg "rooms_given"=some (.ref fG)) (GG:FnOk P w K mg base CX0 2 fG fdG ["starts","steps"] (spRg P w))
  (FO:Fun K "rooms_of" "rooms_of" sRo2 fO fdO) (bO:Binds K fdO ["runs","given"] []) (gO:mg "rooms_of"=some (.ref fO)) (GO:FnOk P w K mg base CX0 1 fO fdO ["runs","given"] (spRf P w))
  (FS:Fun K "step_to" "step_to" sSt fS fdS) (bS:Binds K fdS ["run","given"] []) (gS:mg "step_to"=some (.ref fS)) (GS:FnOk P w K mg base CX0 1 fS fdS ["run","given"] (spSt P w)):
  ∀d:Nat,FnOk P w K mg base CX0 (d+3) f fd ["starts","good","bad","size","steps"] (spFs P w d)
 |0=>by
  refine F.ok scFs (fun vs H Q E h=>?_) (fun cdv A outer s H vs Q E hr h=>?_)
  ·obtain⟨st,g,b,sd,zs,zl,gs,bs,size,sl,rfl,_⟩:=h
   rfl
  ·obtain⟨st,g,b,sd,zs,zl,gs,bs,size,sl,rfl,_,_,_,_,_,_,_,_,_,_,_,hd,_⟩:=h
   exact absurd hd (Nat.not_lt_zero _)
 |d+1=>by
  have GF:=ok_fs F T T2 bF gF FG bG gG GG FO bO gO GO FS bS gS GS d
  refine F.ok scFs (fun vs H Q E h=>?_) (fun cdv A outer s H vs Q E hr h=>?_)
  ·obtain⟨st,g,b,sd,zs,zl,gs,bs,size,sl,rfl,_⟩:=h
   rfl
  ·obtain⟨st,g,b,sd,zs,zl,gs,bs,size,sl,rfl,hZ,B,hg,hb,lg,lb,hA,hK,hx8,sz0,sz1,hd,hsl,k⟩:=h
   have hr2:Room 2 _:=hr.mono (by omega)
   have hr1:Room 1 _:=hr.mono (by omega)
   have hu1:=hu_of hr
   refine⟨_,pss_cons (ps_set (i:=5) scFs.nd rfl (Or.inl rfl) (pe_call GG hr2 rfl gG FG.kp bG .nil pass0 (pa_cons (pv 0) (pa_cons (pv 4) pa_nil))))
    (pss_cons (ps_set (i:=6) scFs.nd rfl (Or.inr rfl) (pe_call GO hr1 rfl gO FO.kp bO .nil pass0 (pa_cons (pv 2) (pa_cons (pv 5) pa_nil))))
    (pss_cons (ps_if (pt_val (pe_callB (call_anyB rfl) (by rfl) T2.any boot_any (pa_cons (pe_lc scFs1 rfl rfl rfl (pi_list (pe_call GO hr1 rfl gO FO.kp bO .nil pass0 (pa_cons (pv 1) (pa_cons (pv 5) pa_nil)))) (fun fp C s1 H1=>pg_name (i:=0) scFs1.nd rfl (Or.inl rfl)) (fun fp C s1 H1=>pts_nil)
      (fun fp C s1 H1=>pe_cmpR (r:=L2.rIn K false) op_in_seq (pv 0) (pv 1) (by with_unfolding_all rfl))) pa_nil))) (pss_one (ps_ret pe_non)) pss_nil)
    (pss_cons (ps_if (pt_cmpR op_eq (pe_callB (call_lenTW (P:=P) (w:=w) rfl rfl) (by rfl) T.len PySem.boot_len (pa_cons (pv 5) pa_nil)) (pe_callB call_len_seq (by rfl) T.len PySem.boot_len (pa_cons (pv 0) pa_nil)) (nomark _)) (pss_one (ps_ret (pv 4))) pss_nil)
    (pss_cons (ps_set (i:=8) scFs.nd rfl (Or.inl rfl) (pe_call GS hr1 rfl gS FS.kp bS .nil pass0 (pa_cons (pe_ix ix_tup (pv 0) (pe_callB (call_lenTW (P:=P) (w:=w) rfl rfl) (by rfl) T.len PySem.boot_len (pa_cons (pv 5) pa_nil)) (fun _ _=>rfl)) (pa_cons (pv 5) pa_nil))))
    (pss_cons (ps_for PassesOwn.never rfl (pi_range1 rfl T.range (pa_cons (pe_callB (call_min2 rfl) (by rfl) T.min PyProof.Rows.boot_min (pa_cons (pv 3) (pa_cons (pe_op op_add (pe_callB (call_maxVW (P:=P) (w:=w) rfl rfl rfl) (by rfl) T.max PyProof.Rows.boot_max (pa_cons (pe_valsW (P:=P) (w:=w) rfl rfl (pv 5)) pa_nil)) pe_int) pa_nil))) pa_nil)) (pg_name (i:=7) scFs.nd rfl (Or.inl rfl))
     (pss_cons (ps_set (i:=9) scFs.nd rfl (Or.inl rfl) (pe_callTy (call_dictTW (P:=P) (w:=w) rfl rfl) (by rfl) T2.dict PyProof.Rows.boot_dict (pa_cons (pv 4) pa_nil)))
     (pss_cons (ps_tputW (P:=P) (w:=w) rfl rfl hu1 (pv 9) (pv 8) (pv 7) rfl)
     (pss_cons (ps_set (i:=10) scFs.nd rfl (Or.inl rfl) (pe_call GF hr rfl gF F.kp bF .nil pass0 (pa_cons (pv 0) (pa_cons (pv 1) (pa_cons (pv 2) (pa_cons (pv 3) (pa_cons (pv 9) pa_nil)))))))
     (pss_one (ps_if (pt_cmpR op_notN (pv 10) pe_non (nomark _)) (pss_one (ps_ret (pv 10))) pss_nil))))))
    (pss_one (ps_ret pe_non))))))),?_⟩
   have hzlen:=hZ.len
   refine⟨_,rfl,_,rfl,st,sd,zs,zl,sl,rfl,hZ,B,hA,fun gv H1 s1 _ hG=>?_⟩
   refine⟨_,rfl,_,rfl,b,gv,bs,_,rfl,hb.same s1,lb,hG,fun lsp H2 s2 _ hsp=>?_⟩
   refine⟨_,rfl,_,rfl,g,gv,gs,_,rfl,(hg.same s1).same s2,lg,hG.same s2,fun lgd H3 s3 _ hgd=>?_⟩
   have s13:=s2.trans s3
   have s03:=s1.trans s13
   generalize hGD:roomsM gs (givA zl sl)=GD at hgd
   generalize hSP:roomsM bs (givA zl sl)=SP at hsp
   have lGD:GD.length<=100:=by
    rw[<- hGD]
    exact Nat.le_trans (List.length_filterMap_le _ _) lg
   refine⟨lgd,rfl,⟨_,SqL.of hgd⟩,fun D hD=>?_⟩
   have hlg:(GD.map V.int).length=GD.length:=List.length_map _
   refine lc_list (K:=K) (a:=lgd) (xs:=GD.map V.int) (fun i ys H4=>Same H3 H4/\H4 D=some (.lst ys)/\ys=((GD.take i).map fun q=>decide (q∈SP)).map V.bl) (Nat.le_of_lt (small1000 (by omega)))
    ⟨(Same.refl H3).upd_free hD,upd_same,rfl⟩ (fun i ys H4 h=>by rw[h.2.2,List.length_map,List.length_map,List.length_take];exact Nat.min_le_left _ _) (fun i ys H4 h=>SqL.of (h.1 _ _ hgd)) ?_ ?_
   ·rintro i ys H4 x N M hx ⟨u1,u2,rfl⟩ hN hM
    rw[List.getElem?_map] at hx
    obtain⟨q,eq,rfl⟩:=Option.map_eq_some_iff.mp hx
    refine⟨_,rfl,_,rfl,lsp,_,rfl,.inl (SqL.of (u1 _ _ (s3 _ _ hsp))),rfl,flat_ints SP,?_⟩
    show N (.bl (inV (.int q) (SP.map V.int))) H4
    rw[inV_nums]
    refine hN _ H4 u2 ⟨u1.upd_free hD,upd_same,?_⟩
    rw[List.take_add_one,eq,List.map_append,List.map_append]
    rfl
   ·rintro ys H4 ⟨u1,u2,rfl⟩
    rw[hlg,List.take_length] at u2
    refine⟨D,_,rfl,SqL.of u2,_,rfl,?_⟩
    have hfs:fsM zl gs bs size (d+1) sl=if GD.any (fun q=>decide (q∈SP))=true then none else if givN zl sl=zl.length then some sl else(List.range (topM zl sl size)).findSome? fun(k:Nat)=>fsM zl gs bs size d (sl++[(stepM zl sl,(k:Int))]):=by
     rw[fsM,hGD,hSP]
    have hany:((GD.map fun q=>decide (q∈SP)).any id)=GD.any fun q=>decide (q∈SP):=by rw[List.any_map];rfl
    have s04:=s03.trans u1
    have hG4:=(hG.same s13).same u1
    cases hc:GD.any (fun q=>decide (q∈SP)) with
    |true=>
     refine iteTK (by first|(rw[hany];exact hc)|exact hany.trans hc) ?_
     refine k .non H4 s04 ?_
     rw[hfs,hc,if_pos rfl]
     rfl
    |false=>
     refine iteFK (by first|(rw[hany];exact hc)|exact hany.trans hc) ?_
     rw[hc,if_neg Bool.false_ne_true] at hfs
     obtain⟨xs,og,g1,g2,g3,g4,g5⟩:=id hG4
     have hgl:xs.length=givN zl sl:=by
      rw[al_len g3]
      unfold givA
      rw[List.length_map,List.length_take]
      exact Nat.min_eq_left (givN_le _ _)
     have hzsl:zs.length=zl.length:=by rw[<- hZ.eq,List.length_map]
     have hZ4:=hZ.same s04
     refine⟨_,rfl,gv,xs,og,rfl,g1,_,rfl,st,_,rfl,.inr (SqT.of hZ4.tup),rfl,_,rfl,?_⟩
     rw[dec_intV,hgl,List.length_map,hzsl]
     by_cases hn:givN zl sl=zl.length
     ·refine iteTK (decide_eq_true (by rw[hn])) ⟨_,rfl,k (.ref sd) H4 s04 ?_⟩
      rw[hfs,if_pos hn]
      exact⟨sd,rfl,hA.same s04⟩
     ·refine iteFK (decide_eq_false (fun e=>hn (by omega))) ?_
      rw[if_neg hn] at hfs
      have hlt:givN zl sl<zl.length:=Nat.lt_of_le_of_ne (givN_le _ _) hn
      obtain⟨p,x,q,er,hpm,hq,es,hl⟩:=step_is B hlt
      have ez:zs[givN zl sl]?=some zs[givN zl sl]:=List.getElem?_eq_getElem (by omega)
      generalize zs[givN zl sl]=z at ez
      have ezr:z.2=p++[x]:=by
       have:(zs.map (·.2))[givN zl sl]?=some z.2:=by rw[List.getElem?_map,ez];rfl
       rw[hZ.eq,er] at this
       exact(Option.some.inj this).symm
      have hz4:=hZ4.at' z (List.mem_of_getElem? ez)
      rw[ezr] at hz4
      have hlk:look (givA zl sl) p=some q:=(look_giv B.nd hpm).trans hq
      refine⟨_,rfl,_,rfl,gv,xs,og,rfl,g1,st,_,_,.ref z.1,rfl,rfl,SqT.of hZ4.tup,?_,_,rfl,z.1,gv,p,x,q,_,rfl,hz4,hG4,hlk,fun sp H5 s5 _ hsp5=>?_⟩
      ·rw[hgl]
       exact atI_nat (by rw[List.getElem?_map,ez];rfl)
      have s05:=s04.trans s5
      refine⟨_,rfl,_,rfl,gv,xs,og,rfl,s5 _ _ g1,fun rv hrv=>?_⟩
      have s6:=(Same.refl H5).upd_free (o:=VaV rv gv) hrv
      have q6:upd H5 rv (VaV rv gv) rv=some (VaV rv gv):=upd_same
      generalize upd H5 rv (VaV rv gv)=H6 at s6 q6
      have hv0:(0:Int)∈(givA zl sl).map (·.2):=by
       have h0:([]:List Int)∈zl.take (givN zl sl):=by
        obtain⟨h1,h2⟩:=List.getElem?_eq_some_iff.mp B.hd
        rw[<- h2]
        exact List.mem_take_iff_getElem.mpr ⟨0,by have:=givN_pos B sl;omega,rfl⟩
       unfold givA
       rw[List.map_map]
       exact List.mem_map.mpr ⟨[],h0,rfl⟩
      refine⟨rv,gv,xs,og,(givA zl sl).map (·.2),rfl,q6,s6 _ _ (s5 _ _ g1),al_vals g3,(fun e=>by rw[e] at hv0;cases hv0),fun m hm hle=>?_⟩
      have em:=max_eq hv0 hm hle
      have hm0:=hle 0 hv0
      have hm8:m<8:=by
       unfold givA at hm
       rw[List.map_map] at hm
       obtain⟨r,hr',e⟩:=List.mem_map.mp hm
       obtain⟨v,hv⟩:=Option.isSome_iff_exists.mp (giv_some r hr')
       have:m=v:=by rw[<- e];show(walkS sl r).getD 0=v;rw[hv];rfl
       rw[this]
       exact(walk_val hK r hv).2
      refine⟨_,_,rfl,rfl,_,_,rfl,?_⟩
      have etop:topM zl sl size=(if m+2<size then m+2 else size).toNat:=by
       unfold topM
       rw[<- em]
       congr 1
       split<;>omega
      refine⟨_,rfl,by split<;>omega,by split<;>omega,?_⟩
      have s06:=s05.trans s6
      have ht8:topM zl sl size<=8:=by rw[etop];split<;>omega
      rw[<- etop]
      have hq8:=walk_val hK p hq
      have hx8':=hx8 (p++[x]) (List.mem_of_getElem? er) x (by simp)
      refine for_range (n:=topM zl sl size) (fun i σ H7=>∃(v7 v9 v10:Option V),σ=[some (.ref st),some (.ref g),some (.ref b),some (.int size),some (.ref sd),some (.ref gv),some (.ref lsp),v7,some (.ref sp),v9,v10]/\Same H6 H7/\∀k:Nat,k<i->fsM zl gs bs size d (sl++[(stepM zl sl,(k:Int))])=none) ⟨none,none,none,rfl,Same.refl H6,fun k hk=>by omega⟩ ?_ ?_
      ·rintro i σ H7 hi ⟨v7,v9,v10,rfl,s7,hno⟩
       have i0:(0:Int)+(i:Int)=(i:Int):=Int.zero_add _
       rw[i0]
       have s07:=s06.trans s7
       obtain⟨ys,od,c1,c2,c3,c4,c5⟩:=hA.same s07
       have hks:(ys.map fun y=>(tupleKind (numKind P w)).hash y.1).Nodup:=by
        have e1:(ys.map fun y=>(tupleKind (numKind P w)).hash y.1)=(sl.map fun s=>(tupleKind (numKind P w)).hash s.1):=by
         have:=congrArg (List.map fun k=>(tupleKind (numKind P w)).hash k) (al_keys c3)
         rw[List.map_map,List.map_map] at this
         exact this
        rw[e1]
        exact hash_nodup hK c4
       refine⟨_,rfl,sd,ys,od,rfl,c1,al_tks c2,hks,fun mp om hmp=>?_⟩
       have s8:=(Same.refl H7).upd_free (o:=TD P w mp ys om) hmp
       have q8:upd H7 mp (TD P w mp ys om) mp=some (TD P w mp ys om):=upd_same
       generalize upd H7 mp (TD P w mp ys om)=H8 at s8 q8
       have hsp8:H8 sp=some (.tup (([q,x]:List Int).map V.int)):=s8 _ _ (s7 _ _ (s6 _ _ hsp5))
       have hyl:=al_len c3
       refine⟨_,rfl,_,rfl,_,rfl,mp,ys,om,sp,[q,x],rfl,q8,al_tks fun y hy=>s8 _ _ (c2 y hy),rfl,⟨_,hsp8,nums_ints _⟩,small1000 (by omega),fun o9=>?_⟩
       have hA9:=al_put (v:=(i:Int)) (o':=o9) q8 (fun y hy=>s8 _ _ (c2 y hy)) c3 c4 (by omega) hl hsp8
       have s9:Same H7 (upd H8 mp (TD P w mp (putH ys [q,x] sp (.int (i:Int))) o9)):=s8.upd_free hmp
       generalize upd H8 mp (TD P w mp (putH ys [q,x] sp (.int (i:Int))) o9)=H9 at hA9 s9
       have s09:=s07.trans s9
       rw[<- es] at hA9
       refine⟨_,rfl,_,rfl,_,rfl,_,rfl,_,rfl,st,g,b,mp,zs,zl,gs,bs,size,_,rfl,hZ.same s09,B,hg.same s09,hb.same s09,lg,lb,hA9,fun s' hs'=>?_,hx8,sz0,sz1,?_,?_,fun v H10 s10 hv=>?_⟩
       ·rcases List.mem_append.mp hs' with h|h
        ·exact hK s' h
        ·rw[List.mem_singleton.mp h]
         exact⟨q,x,es,hq8.1,hq8.2,hx8'.1,hx8'.2,by show(0:Int)<=(i:Int);omega,by show(i:Int)<8;omega⟩
       ·have:=giv_grow B hlt (i:Int)
        omega
       ·rw[List.length_append]
        show sl.length+1+d<=500
        omega
       ·cases ho:fsM zl gs bs size d (sl++[(stepM zl sl,(i:Int))]) with
        |none=>
         rw[ho] at hv
         cases(show v=.non from hv)
         refine⟨_,rfl,rfl,_,rfl,iteFK (by simp) ⟨_,_,_,rfl,s7.trans (s9.trans s10),fun k' hk'=>?_⟩⟩
         by_cases e:k'=i
         ·rw[e];exact ho
         ·exact hno k' (by omega)
        |some sl'=>
         rw[ho] at hv
         obtain⟨p',rfl,hp'⟩:=hv
         refine⟨_,rfl,rfl,_,rfl,iteTK (by simp) ⟨_,rfl,k (.ref p') H10 (s09.trans s10) ?_⟩⟩
         rw[hfs,range_find hi hno ho]
         exact⟨p',rfl,hp'⟩
      ·rintro σ H7 ⟨v7,v9,v10,rfl,s7,hno⟩
       refine k .non H7 (s06.trans s7) ?_
       rw[hfs]
       have:(List.range (topM zl sl size)).findSome? (fun(k:Nat)=>fsM zl gs bs size d (sl++[(stepM zl sl,(k:Int))]))=none:=List.findSome?_eq_none_iff.mpr fun k hk=>hno k (List.mem_range.mp hk)
       rw[this]
       rfl
end
end BG
namespace BG
open PySem L2 SO K20
def mbM (many size:Int)(sl:AL)(goods:List Int):Rms:=(List.range size.toNat).map fun(q:Nat)=>(decide ((q:Int)∈goods),(List.range many.toNat).map fun(x:Nat)=>(look sl [(q:Int),(x:Int)]).getD (q:Int))
section
variable {P:Program} {w:World} {K:W.Frag} {mg:Str->Option Value} {base:Heap}
def spMb (P:Program)(w:World):Sp:=fun vs H Q _=>∃(many size:Int) (sd l:Addr) (sl:AL) (goods:List Int),vs=[.int many,.int size,.ref sd,.ref l]/\0<=many/\many<=8/\0<=size/\size<=8/\AlA P w H sd sl/\H l=some (.lst (goods.map V.int))∧
 ∀(m:Addr) (H':Hp),Same H H'->MAt H' m many (mbM many size sl goods)->Q (.ref m) H'
abbrev nMb:List Str:=["many","size","steps","goods","rooms","room","nexts"]
theorem scMb:FnScope nMb ["many","size","steps","goods"] (defScope sMb):=.of (by decide +kernel)
def scopeMb:Scope:=⟨.function,[(".0",.local),("letter",.local),("room",.free),("steps",.free)],false,false,[]⟩
theorem scMb1:BlkScope (defScope sMb) nMb ["letter"] ["room","steps"] [5,2] scopeMb:=.of (by decide +kernel)
theorem rows_snoc {H:Hp}{qs:List Addr}{rs:Rms}{q z:Addr}{b:Bool}{ns:List Int}(h:RowsAt H qs rs)(hq:H q=some (.tup [.bl b,.ref z]))(hz:H z=some (.tup (ns.map V.int))):RowsAt H (qs++[q]) (rs++[(b,ns)]):=by
 refine⟨by rw[List.length_append,List.length_append,h.1];rfl,fun i r e=>?_⟩
 by_cases hi:i<rs.length
 ·rw[List.getElem?_append_left hi] at e
  obtain⟨q',z',e1,e2,e3⟩:=h.2 i r e
  exact⟨q',z',by rw[List.getElem?_append_left (by rw[h.1];exact hi)];exact e1,e2,e3⟩
 ·rw[List.getElem?_append_right (by omega)] at e
  have ej:i-rs.length=0:=by
   have:=(List.getElem?_eq_some_iff.mp e).1
   simp at this
   omega
  rw[ej] at e
  cases e
  exact⟨q,z,by rw[List.getElem?_append_right (by rw[h.1];omega),h.1,ej];rfl,hq,hz⟩
theorem rows_ts {H H':Hp}{qs:List Addr}{rs:Rms}(h:RowsAt H qs rs)(s:TSame H H'):RowsAt H' qs rs:=⟨h.1,fun i r e=>by
 obtain⟨q,z,h1,h2,h3⟩:=h.2 i r e
 exact⟨q,z,h1,s _ _ h2,s _ _ h3⟩⟩
theorem ok_mb (F:Fun K "machine_by" "machine_by" sMb f fd)(T:Txt mg):FnOk P w K mg base CX0 1 f fd ["many","size","steps","goods"] (spMb P w):=by
 refine F.ok scMb (fun vs H Q E h=>?_) (fun cdv A outer s H vs Q E hr h=>?_)
 ·obtain⟨many,size,sd,l,sl,goods,rfl,_⟩:=h
  rfl
 ·obtain⟨many,size,sd,l,sl,goods,rfl,m0,m1,z0,z1,hA,hl,k⟩:=h
  have hu64:=hr.units
  have hu2:=Nat.lt_of_le_of_lt (Nat.add_le_add_left (by decide:2<=64) _) hu64
  refine⟨_,pss_cons (ps_set (i:=4) scMb.nd rfl (Or.inl rfl) (pe_lst pa_nil))
   (pss_cons (ps_for PassesOwn.never rfl (pi_range1 rfl T.range (pa_cons (pv 1) pa_nil)) (pg_name (i:=5) scMb.nd rfl (Or.inr rfl))
    (pss_cons (ps_setlc (i:=6) scMb1 rfl rfl rfl (pi_range1 rfl T.range (pa_cons (pv 0) pa_nil)) (fun fp C s1 H1=>pg_name (i:=0) scMb1.nd rfl (Or.inl rfl)) (fun fp C s1 H1=>pts_nil)
     (fun fp C s1 H1=>pe_tget2W (P:=P) (w:=w) rfl rfl hu2 (pv 2) (pe_tup (pa_cons (pv 1) (pa_cons (pv 0) pa_nil))) (pv 1) ⟨rfl,rfl,rfl,rfl⟩) scMb.nd rfl rfl rfl)
    (pss_one (ps_expr (pe_bm PySem.F.plainAttrs_list PySem.F.slot_list_append PySem.F.type_list_append mt_append (pv 4) (pa_cons (pe_tup (pa_cons (pe_cmpR (r:=L2.rIn K false) op_in_seq (pv 5) (pv 3) (by with_unfolding_all rfl)) (pa_cons (pe_callTy call_tuple_of (by rfl) T.tuple PyProof.Rows.boot_tuple (pa_cons (pv 6) pa_nil)) pa_nil))) pa_nil))))))
   (pss_one (ps_ret (pe_tup (pa_cons (pv 0) (pa_cons (pe_callTy call_tuple_of (by rfl) T.tuple PyProof.Rows.boot_tuple (pa_cons (pv 4) pa_nil)) pa_nil)))))),?_⟩
  refine⟨Nat.zero_le _,fun lr hlr=>?_⟩
  have s1:Same H (upd H lr (.lst [])):=(Same.refl H).upd_free hlr
  refine⟨_,rfl,_,rfl,by omega,by omega,?_⟩
  refine for_range (n:=size.toNat) (fun i σ H2=>∃(qs:List Addr) (v5 v6:Option V),σ=[some (.int many),some (.int size),some (.ref sd),some (.ref l),some (.ref lr),v5,v6]/\Same H H2/\H2 lr=some (.lst (qs.map V.ref))/\RowsAt H2 qs ((List.range i).map fun(q:Nat)=>(decide ((q:Int)∈goods),(List.range many.toNat).map fun(x:Nat)=>(look sl [(q:Int),(x:Int)]).getD (q:Int))))
   ⟨[],none,none,rfl,s1,upd_same,⟨rfl,fun i r e=>by simp at e⟩⟩ ?_ ?_
  ·rintro i σ H2 hi ⟨qs,v5,v6,rfl,s2,hL,hR⟩
   have i0:(0:Int)+(i:Int)=(i:Int):=Int.zero_add _
   rw[i0]
   have hql:qs.length=i:=by rw[hR.1,List.length_map,List.length_range]
   refine⟨_,rfl,_,rfl,by omega,by omega,fun D hD=>?_⟩
   refine lc_range (n:=many.toNat) (fun j ys H3=>Same H2 H3/\H3 D=some (.lst ys)/\ys=((List.range j).map fun(x:Nat)=>(look sl [(i:Int),(x:Int)]).getD (i:Int)).map V.int) (Nat.le_of_lt (small1000 (by omega)))
    ⟨(Same.refl H2).upd_free hD,upd_same,rfl⟩ (fun j ys H3 h=>by rw[h.2.2,List.length_map,List.length_map,List.length_range];exact Nat.le_refl _) ?_ ?_
   ·rintro j ys H3 N M hj ⟨u1,u2,rfl⟩ hN hM
    have j0:(0:Int)+(j:Int)=(j:Int):=Int.zero_add _
    rw[j0]
    obtain⟨xs,o,a1,a2,a3,a4,a5⟩:=hA.same (s2.trans u1)
    refine⟨_,rfl,sd,xs,o,rfl,a1,_,rfl,_,rfl,(by show 2<=sizeLine;decide),fun kt hkt=>?_⟩
    have s4:=(Same.refl H3).upd_free (o:=.tup [.int (i:Int),.int (j:Int)]) hkt
    have q4:upd H3 kt (.tup [.int (i:Int),.int (j:Int)]) kt=some (.tup (([(i:Int),(j:Int)]:List Int).map V.int)):=upd_same
    generalize upd H3 kt (.tup [.int (i:Int),.int (j:Int)])=H4 at s4 q4
    refine⟨_,rfl,xs,o,kt,[(i:Int),(j:Int)],rfl,s4 _ _ a1,al_tks fun x hx=>s4 _ _ (a2 x hx),⟨_,q4,nums_ints _⟩,?_⟩
    rw[al_at a3]
    have ev:(Option.map V.int (look sl [(i:Int),(j:Int)])).getD (.int (i:Int))=.int ((look sl [(i:Int),(j:Int)]).getD (i:Int)):=by
     cases look sl [(i:Int),(j:Int)]<;>rfl
    rw[ev]
    refine hN _ H4 (s4 _ _ u2) ⟨(u1.trans s4).upd_free hD,upd_same,?_⟩
    rw[List.range_succ,List.map_append,List.map_append]
    rfl
   ·rintro ys H3 ⟨u1,u2,rfl⟩
    have s03:=s2.trans u1
    refine⟨_,rfl,.inl ⟨rfl,_,SqL.of (u1 _ _ hL)⟩,_,rfl,_,rfl,l,_,rfl,.inl (SqL.of (s03 _ _ hl)),rfl,flat_ints goods,_,rfl,D,_,rfl,.inl ⟨SqL.of u2,fun zt hzt=>?_⟩⟩
    refine⟨(by show 2<=sizeLine;decide),fun q hq=>?_⟩
    generalize hxs:((List.range many.toNat).map fun(x:Nat)=>(look sl [(i:Int),(x:Int)]).getD (i:Int))=xs at u2 hq hzt
    have eb:(if false=true then !inV (V.int (i:Int)) (goods.map V.int) else inV (V.int (i:Int)) (goods.map V.int))=decide ((i:Int)∈goods):=by
     rw[if_neg Bool.false_ne_true,inV_nums]
    have hq3:H3 q=none:=by
     by_cases e:q=zt
     ·rw[e];exact hzt
     ·rw[upd_ne e] at hq;exact hq
    have nzq:zt≠q:=fun e=>by rw[<- e,upd_same] at hq;cases hq
    have s4:Same H3 (upd (upd H3 zt (.tup (xs.map V.int))) q (.tup [.bl (if false=true then !inV (V.int (i:Int)) (goods.map V.int) else inV (V.int (i:Int)) (goods.map V.int)),.ref zt])):=((Same.refl H3).upd_free hzt).upd_free hq3
    have hz4:upd (upd H3 zt (.tup (xs.map V.int))) q (.tup [.bl (if false=true then !inV (V.int (i:Int)) (goods.map V.int) else inV (V.int (i:Int)) (goods.map V.int)),.ref zt]) zt=some (.tup (xs.map V.int)):=by rw[upd_ne nzq];exact upd_same
    have hq4:upd (upd H3 zt (.tup (xs.map V.int))) q (.tup [.bl (if false=true then !inV (V.int (i:Int)) (goods.map V.int) else inV (V.int (i:Int)) (goods.map V.int)),.ref zt]) q=some (.tup [.bl (decide ((i:Int)∈goods)),.ref zt]):=by rw[upd_same,eb]
    generalize upd (upd H3 zt (.tup (xs.map V.int))) q (.tup [.bl (if false=true then !inV (V.int (i:Int)) (goods.map V.int) else inV (V.int (i:Int)) (goods.map V.int)),.ref zt])=H4 at s4 hz4 hq4
    have hL4:=s4 _ _ (u1 _ _ hL)
    refine⟨lr,_,_,rfl,rfl,hL4,small1000 (by rw[List.length_map];omega),?_⟩
    have ts:TSame H4 (upd H4 lr (.lst (qs.map V.ref++[.ref q]))):=TSame.upd_lst (fun _ _ e=>e) hL4
    refine⟨qs++[q],_,_,rfl,(s03.trans s4).upd_free hlr,by rw[upd_same,List.map_append];rfl,?_⟩
    have hR4:=rows_ts (rows_ts hR (u1.trans s4).tups) ts
    have:=rows_snoc hR4 (ts _ _ hq4) (ts _ _ hz4)
    rw[List.range_succ,List.map_append]
    rw[<- hxs] at this
    exact this
  ·rintro σ H2 ⟨qs,v5,v6,rfl,s2,hL,hR⟩
   refine⟨_,rfl,_,rfl,lr,_,rfl,.inl ⟨SqL.of hL,fun zt hzt=>?_⟩⟩
   refine⟨(by show 2<=sizeLine;decide),fun m hm=>?_⟩
   have hm2:H2 m=none:=by
    by_cases e:m=zt
    ·rw[e];exact hzt
    ·rw[upd_ne e] at hm;exact hm
   have nzm:zt≠m:=fun e=>by rw[<- e,upd_same] at hm;cases hm
   have s3:Same H2 (upd (upd H2 zt (.tup (qs.map V.ref))) m (.tup [.int many,.ref zt])):=((Same.refl H2).upd_free hzt).upd_free hm2
   exact k m _ (s2.trans s3) ⟨zt,qs,upd_same,by rw[upd_ne nzm];exact upd_same,hR.same s3⟩
end
end BG
namespace L2
open PySem PyProof
theorem Same.noneW {H H':Hp}(s:Same H H'){b:PySem.Addr}(h:H' b=none):H b=none:=by
 cases e:H b with
 |none=>rfl
 |some o=>rw[s _ _ e] at h;cases h
theorem FunD.okX {P:Program}{w:World}{K:W.Frag}{mg:Str->Option Value}{base:Heap}{x qual:Str}{st:Stmt}{f:Addr}{fd:FuncData}{its:Array Value}{N ps:List Str}{k:Nat}{sp:Sp}(F:FunD K x qual st f fd its)(S:FnScope N ps (defScope st))(len:∀vs H Q E,sp vs H Q E->vs.length=ps.length)
  (hbody:∀(cdv:Value) (A:Around) (outer:List Env) (s:Shared) (H:Hp) (vs:List V) (Q:VK) (E:XK),Room k (A.deeper (PyProof.Rows.envOfC qual (defScope st) s.heap.objs.size f cdv))->sp vs H Q E→
   ∃t,PSs (cxOf (CX1 P w) P w K mg base N qual (defScope st) f cdv A outer s H E) (defBody st) t/\t { nx:=fun _ H'=>Q .non H',rt:=Q } (start N vs) H):FnOk P w K mg base (CX1 P w) (k+1) f fd ps sp:=by
 obtain⟨oc,od,dT,kV,doc,pm,an,cdv,ct,osl,rfl,lk,hcd,_⟩:=F.ex
 exact fn_of lk hcd S len fun A outer s H vs Q E hr hsp=>hbody cdv A outer s H vs Q E hr hsp
end L2
namespace BG
open PySem L2
def spNm (CN:Addr):Sp:=fun vs H Q _=>∃(a:Addr) (x:V),vs=[.ref a,x]/\H a=some (.ext (ExcNew a CN none))/\∀d,H d=none->d≠a->Q .non (upd (upd H a (.ext (ExcNew a CN (some d)))) d (.xd [("number",x)]))
theorem raiseN {K:W.Frag}{CN:Addr}{H:Hp}{E:XK}{x:V}(rz:excRz K CN=true)(kE:∀d H',Same H H'->H' d=some (.xd [("number",x)])->E (.ref CN) (some d) H')(H2:Hp)(E0':XK)(s2:Same H H2):∀a,H2 a=none->spNm CN (.ref a::([x]++[])) (upd H2 a (.ext (ExcNew a CN none))) (fun v H3=>v=.non/\∃a' C dd,V.ref a=.ref a'/\H3 a'=some (.ext (ExcNew a' C dd))/\H a'=none/\excRz K C=true/\E (.ref C) dd (untr H3 a')) E0':=by
 intro a ha
 have haH:H a=none:=s2.noneW ha
 refine⟨a,_,rfl,upd_same,fun d hd hn=>⟨rfl,a,CN,some d,rfl,by rw[upd_ne (Ne.symm hn),upd_same],haH,rz,?_⟩⟩
 have hd2:H2 d=none:=by rw[upd_ne hn] at hd;exact hd
 refine kE d _ (fun b o e=>?_) ?_
 ·have nb:b≠a:=ne_of_none e haH
  rw[untr_ne nb,upd_ne (ne_of_none (s2 _ _ e) hd2),upd_ne nb,upd_ne nb]
  exact s2 _ _ e
 ·rw[untr_ne hn,upd_same]
end BG
namespace BG
open PySem L2 SO K20
def rdM (many most:Int)(zl gs bs:List (List Int)):Option Rms:=(List.range most.toNat).findSome? fun(k:Nat)=>(fsM zl gs bs ((1:Int)+(k:Int)) 41 []).map fun sl=>mbM many ((1:Int)+(k:Int)) sl (roomsM gs (givA zl sl))
structure RdOk (many most:Int)(gs bs zl:List (List Int)):Prop where
 m0:0<=many
 m1:many<=8
 o0:1<=most
 o1:most<=4
 g12:gs.length<=12
 b12:bs.length<=12
 sh:∀r∈gs++bs,r.length<=8
 le:∀r∈gs++bs,∀x∈r,0<=x/\x<many
 dis:∀r∈gs,r∉bs
 srt:Srt zl
 mem:∀ns,ns∈zl↔isB (gs++bs) ns
 len:zl.length<=40
 wide:many*most<=9\/zl.length<=10
theorem RdOk.let' {many most:Int}{gs bs zl:List (List Int)}(R:RdOk many most gs bs zl):∀r∈zl,∀x∈r,0<=x/\x<many:=fun r hr x hx=>by
 rcases(R.mem r).mp hr with e|⟨q,hq,j,_,e⟩
 ·rw[e] at hx;cases hx
 ·rw[e] at hx
  exact R.le q hq x (List.mem_of_mem_take hx)
section
variable {P:Program} {w:World} {K:W.Frag} {mg:Str->Option Value} {base:Heap} {CG:Addr}
def spRd (CG:Addr):Sp:=fun vs H Q E=>∃(g b:Addr) (many most:Int) (gs bs zl:List (List Int)),vs=[.int many,.ref g,.ref b,.int most]/\RsT H g gs/\RsT H b bs/\RdOk many most gs bs zl∧
 (∀rms,rdM many most zl gs bs=some rms->∀(m:Addr) (H':Hp),Same H H'->MAt H' m many rms->Q (.ref m) H')∧
 (rdM many most zl gs bs=none->∀d H',Same H H'->H' d=some (.xd [("number",.int most)])->E (.ref CG) (some d) H')
theorem scXg:FnScope ["self","number"] ["self","number"] (defScope sXg):=.of (by decide +kernel)
theorem ok_xg (F:Fun K "__init__" "TooGreat.__init__" sXg f fd)(hS:excSet K CG "number"=true):FnOk P w K mg base CX0 1 f fd ["self","number"] (spNm CG):=by
 refine F.ok scXg (fun vs H Q E h=>?_) (fun cdv A outer s H vs Q E hr h=>?_)
 ·obtain⟨a,x,rfl,_⟩:=h
  rfl
 ·obtain⟨a,x,rfl,ha,k⟩:=h
  exact⟨_,pss_one (ps_xfld (pv 0) (pv 1) rfl),_,rfl,_,rfl,a,CG,rfl,ha,hS,fun d hd hn=>k d hd hn⟩
abbrev nRd:List Str:=["many","good","bad","most","run","starts","wide","size","steps"]
theorem scRd:FnScope nRd ["many","good","bad","most"] (defScope sRd):=.of (by decide +kernel)
theorem ok_rd {its:Array Value}(F:FunD K "read_off" "read_off" sRd f fd its)(T:Txt mg)(hmw:∃u,mg "MOST_WIDE"=some u/\RelV (.int 9) u)
  (FB:Fun K "beginnings" "beginnings" sBg fB fdB) (bB:Binds K fdB ["good","bad"] []) (gB:mg "beginnings"=some (.ref fB)) (GB:FnOk P w K mg base CX0 4 fB fdB ["good","bad"] spBg)
  (FF:Fun K "first_steps" "first_steps" sFs fF fdF) (bF:Binds K fdF ["starts","good","bad","size","steps"] []) (gF:mg "first_steps"=some (.ref fF)) (GF:FnOk P w K mg base CX0 44 fF fdF ["starts","good","bad","size","steps"] (spFs P w 41))
  (FM:Fun K "machine_by" "machine_by" sMb fM fdM) (bM:Binds K fdM ["many","size","steps","goods"] []) (gM:mg "machine_by"=some (.ref fM)) (GM:FnOk P w K mg base CX0 1 fM fdM ["many","size","steps","goods"] (spMb P w))
  (FO:Fun K "rooms_of" "rooms_of" sRo2 fO fdO) (bO:Binds K fdO ["runs","given"] []) (gO:mg "rooms_of"=some (.ref fO)) (GO:FnOk P w K mg base CX0 1 fO fdO ["runs","given"] (spRf P w))
  (FG:Fun K "rooms_given" "rooms_given" sRg fG fdG) (bG:Binds K fdG ["starts","steps"] []) (gG:mg "rooms_given"=some (.ref fG)) (GG:FnOk P w K mg base CX0 2 fG fdG ["starts","steps"] (spRg P w))
  (M:MkX K CG fI) (gN:mg "TooGreat"=some (.ref CG)) (bI:Binds K dI ["self","number"] []) (GI:FnOk P w K mg base CX0 1 fI dI ["self","number"] (spNm CG)) (rz:excRz K CG=true):
  FnOk P w K mg base (CX1 P w) 45 f fd ["many","good","bad","most"] (spRd CG):=by
 refine F.okX scRd (fun vs H Q E h=>?_) (fun cdv A outer s H vs Q E hr h=>?_)
 ·obtain⟨g,b,many,most,gs,bs,zl,rfl,_⟩:=h
  rfl
 ·obtain⟨g,b,many,most,gs,bs,zl,rfl,hg,hb,R,k1,k2⟩:=h
  obtain⟨u9,g9,r9⟩:=hmw
  have hr1:Room 1 _:=hr.mono (by decide)
  have hr2:Room 2 _:=hr.mono (by decide)
  have hr4:Room 4 _:=hr.mono (by decide)
  have hu64:=hr.units
  refine⟨_,pss_cons (ps_for PassesOwn.leaving rfl (pi_tup (pv 1)) (pg_name (i:=4) scRd.nd rfl (Or.inl rfl))
    (pss_one (ps_if (pt_cmpR (op_inD hu64) (pv 4) (pv 2) (by with_unfolding_all rfl)) pss_never pss_nil)))
   (pss_cons (ps_set (i:=5) scRd.nd rfl (Or.inl rfl) (pe_call GB hr4 rfl gB FB.kp bB .nil pass0 (pa_cons (pv 1) (pa_cons (pv 2) pa_nil))))
   (pss_cons (ps_set (i:=6) scRd.nd rfl (Or.inl rfl) (pe_callB (call_min2 rfl) (by rfl) T.min PyProof.Rows.boot_min (pa_cons (pe_op op_mul (pv 0) (pv 3)) (pa_cons (pe_op op_sub (pe_callB call_len_seq (by rfl) T.len PySem.boot_len (pa_cons (pv 5) pa_nil)) pe_int) pa_nil))))
   (pss_cons (ps_if (pt_cmpR op_gt (pv 6) (pe_glob (v:=.int 9) (by rfl) g9 r9) (nomark _)) pss_never pss_nil)
   (pss_cons (ps_for PassesOwn.leaving rfl (pi_range2 rfl T.range (pa_cons pe_int (pa_cons (pe_op op_add (pv 3) pe_int) pa_nil))) (pg_name (i:=7) scRd.nd rfl (Or.inl rfl))
    (pss_cons (ps_set (i:=8) scRd.nd rfl (Or.inl rfl) (pe_call GF hr rfl gF FF.kp bF .nil pass0 (pa_cons (pv 5) (pa_cons (pv 1) (pa_cons (pv 2) (pa_cons (pv 7) (pa_cons (pe_tnewW (P:=P) (w:=w) rfl rfl) pa_nil)))))))
    (pss_one (ps_if (pt_cmpR op_notN (pv 8) pe_non (nomark _)) (pss_one (ps_ret (pe_call GM hr1 rfl gM FM.kp bM .nil pass0 (pa_cons (pv 0) (pa_cons (pv 7) (pa_cons (pv 8) (pa_cons (pe_call GO hr1 rfl gO FO.kp bO .nil pass0 (pa_cons (pv 1) (pa_cons (pe_call GG hr2 rfl gG FG.kp bG .nil pass0 (pa_cons (pv 5) (pa_cons (pv 8) pa_nil))) pa_nil))) pa_nil))))))) pss_nil))))
   (pss_one (ps_raiseV rfl throwsV_cx (pe_makeX M GI hr2 rfl gN bI .nil pass0 (pa_cons (pv 3) pa_nil)))))))),?_⟩
  have hb':=hb
  have hg':=hg
  obtain⟨tg,hgt,hgT⟩:=hg'
  obtain⟨tb,hbt,hbT⟩:=hb'
  have hgt:H g=some (.tup (tg.map V.ref)):=hgt
  have hbt:H b=some (.tup (tb.map V.ref)):=hbt
  refine⟨_,rfl,g,rfl,⟨_,SqT.of hgt⟩,?_⟩
  refine for_tup (K:=K) (a:=g) (xs:=tg.map V.ref) (fun i σ H2=>∃v4:Option V,σ=[some (.int many),some (.ref g),some (.ref b),some (.int most),v4,none,none,none,none]/\H2=H) ⟨none,rfl,rfl⟩ (fun i σ H2 _ ⟨_,_,e⟩=>by rw[e];exact SqT.of hgt) ?_ ?_
  ·rintro i x σ H2 hx ⟨v4,rfl,rfl⟩
   have hi:i<gs.length:=by
    have:=(List.getElem?_eq_some_iff.mp hx).1
    rw[List.length_map,hgT.1] at this
    exact this
   have er:gs[i]?=some gs[i]:=List.getElem?_eq_getElem hi
   generalize gs[i]=r at er
   obtain⟨t,e1,e2⟩:=hgT.2 i r er
   rw[List.getElem?_map,e1] at hx
   cases hx
   refine⟨_,rfl,_,rfl,in_runs e2 (.inr (SqT.of hbt)) hbT ⟨_,rfl,iteFK (decide_eq_false (R.dis r (List.mem_of_getElem? er))) ⟨_,rfl,rfl⟩⟩⟩
  ·rintro σ H2 ⟨v4,rfl,rfl⟩
   refine⟨_,rfl,_,rfl,g,b,gs,bs,rfl,hg,hb,by have:=R.g12;omega,by have:=R.b12;omega,R.sh,⟨zl,fun ns=>(R.mem ns).mpr,by have:=R.len;omega⟩,fun st zs H1 s1 hst hZ=>?_⟩
   have ezl:zs.map (·.2)=zl:=srt_eq hZ.srt R.srt fun ns=>(hZ.mem ns).trans (R.mem ns).symm
   have hzl:zs.length=zl.length:=by rw[<- ezl,List.length_map]
   have hlen:=R.len
   have SA:StA H1 st zs zl:=⟨hst,hZ.at',ezl,by omega⟩
   have B:Beg zl:=beg_of R.srt R.mem
   have R0:=R.m0
   have R1:=R.m1
   have O0:=R.o0
   have O1:=R.o1
   have hw:(if ((zs.map fun z=>V.ref z.1).length:Int)-1<many*most then((zs.map fun z=>V.ref z.1).length:Int)-1 else many*most)<=9:=by
    have e:(zs.map fun z=>V.ref z.1).length=zl.length:=by rw[List.length_map,hzl]
    rw[e]
    rcases R.wide with h|h<;>split<;>omega
   refine⟨_,rfl,_,rfl,many,most,rfl,rfl,.inl ⟨by omega,by omega⟩,_,rfl,st,_,rfl,.inr (SqT.of hst),_,_,rfl,rfl,_,_,rfl,?_⟩
   refine⟨_,rfl,_,_,rfl,rfl,_,rfl,iteFK (decide_eq_false (by clear k1 k2;omega)) ?_⟩
   refine⟨_,rfl,_,_,rfl,rfl,_,_,rfl,⟨by decide,by decide,by omega,by omega⟩,?_⟩
   have hn:(most+1-1).toNat=most.toNat:=by congr 1;omega
   refine for_range (lo:=1) (n:=(most+1-1).toNat) (fun i σ H2=>∃(v4 v7 v8:Option V) (v6:V),σ=[some (.int many),some (.ref g),some (.ref b),some (.int most),v4,some (.ref st),some v6,v7,v8]/\Same H1 H2/\∀k:Nat,k<i->fsM zl gs bs ((1:Int)+(k:Int)) 41 []=none) ⟨_,none,none,_,rfl,Same.refl H1,fun k hk=>by omega⟩ ?_ ?_
   ·rintro i σ H2 hi ⟨v4,v7,v8,v6,rfl,s2,hno⟩
    rw[hn] at hi
    have s02:=s1.trans s2
    refine⟨_,rfl,_,rfl,_,rfl,_,rfl,fun p o hp=>?_⟩
    have s3:=(Same.refl H2).upd_free (o:=TD P w p [] o) hp
    have q3:upd H2 p (TD P w p [] o) p=some (TD P w p [] o):=upd_same
    generalize upd H2 p (TD P w p [] o)=H3 at s3 q3
    have s13:=s2.trans s3
    have s03:=s1.trans s13
    have hA:AlA P w H3 p []:=⟨[],o,q3,fun x hx=>by(cases hx),rfl,List.nodup_nil,Nat.zero_le _⟩
    refine⟨st,g,b,p,zs,zl,gs,bs,(1:Int)+(i:Int),[],rfl,SA.same s13,B,hg.same s03,hb.same s03,by have:=R.g12;omega,by have:=R.b12;omega,hA,fun x hx=>by(cases hx),fun r hr x hx=>⟨(R.let' r hr x hx).1,by have:=(R.let' r hr x hx).2;omega⟩,by omega,by omega,by omega,by show 0+41<=500;omega,fun v H4 s4 hv=>?_⟩
    have s04:=s03.trans s4
    cases ho:fsM zl gs bs ((1:Int)+(i:Int)) 41 [] with
    |none=>
     rw[ho] at hv
     cases(show v=.non from hv)
     refine⟨_,rfl,rfl,_,rfl,iteFK (by simp) ⟨_,_,_,_,rfl,s13.trans s4,fun k' hk'=>?_⟩⟩
     by_cases e:k'=i
     ·rw[e];exact ho
     ·exact hno k' (by omega)
    |some sl=>
     rw[ho] at hv
     obtain⟨p',rfl,hp'⟩:=hv
     refine⟨_,rfl,rfl,_,rfl,iteTK (by simp) ?_⟩
     refine⟨_,rfl,_,rfl,_,rfl,_,rfl,_,rfl,_,rfl,st,p',zs,zl,sl,rfl,SA.same (s13.trans s4),B,hp',fun gv H5 s5 _ hG=>?_⟩
     refine⟨g,gv,gs,_,rfl,hg.same (s04.trans s5),by have:=R.g12;omega,hG,fun lg H6 s6 _ hl=>?_⟩
     refine⟨many,(1:Int)+(i:Int),p',lg,sl,_,rfl,R0,R1,by omega,by omega,hp'.same (s5.trans s6),hl,fun m H7 s7 hM=>?_⟩
     refine k1 _ ?_ m H7 (s04.trans (s5.trans (s6.trans s7))) hM
     unfold rdM
     refine range_find hi (fun k hk=>by rw[hno k hk];rfl) ?_
     rw[ho]
     rfl
   ·rintro σ H2 ⟨v4,v7,v8,v6,rfl,s2,hno⟩
    rw[hn] at hno
    refine⟨_,rfl,(by show 1<=sizeLine;decide),raiseN rz (fun d H' s' hd=>k2 ?_ d H' s' hd) H2 _ (s1.trans s2)⟩
    unfold rdM
    exact List.findSome?_eq_none_iff.mpr fun k hk=>by rw[hno k (List.mem_range.mp hk)];rfl
end
end BG
namespace BG
open PySem L2 SO K20
def Vok (size:Int)(sl:AL):Prop:=∀s∈sl,0<=s.2/\s.2<size
theorem fs_sound {zl gs bs:List (List Int)}{size:Int}:∀(d:Nat) (sl sl':AL),fsM zl gs bs size d sl=some sl'->Vok size sl->Vok size sl'/\givN zl sl'=zl.length/\∀q∈roomsM gs (givA zl sl'),q∉roomsM bs (givA zl sl')
 |0,_,_,h,_=>by cases h
 |d+1,sl,sl',h,hv=>by
  rw[fsM] at h
  by_cases h1:(roomsM gs (givA zl sl)).any (fun q=>decide (q∈roomsM bs (givA zl sl)))=true
  ·rw[if_pos h1] at h;cases h
  ·rw[if_neg h1] at h
   by_cases h2:givN zl sl=zl.length
   ·rw[if_pos h2] at h
    cases h
    exact⟨hv,h2,fun q hq hb=>h1 (List.any_eq_true.mpr ⟨q,hq,decide_eq_true hb⟩)⟩
   ·rw[if_neg h2] at h
    obtain⟨k,hk,hf⟩:=List.exists_of_findSome?_eq_some h
    refine fs_sound d _ sl' hf fun s hs=>?_
    rcases List.mem_append.mp hs with hs|hs
    ·exact hv s hs
    ·rw[List.mem_singleton.mp hs]
     have:=List.mem_range.mp hk
     unfold topM at this
     show 0<=(k:Int)/\(k:Int)<size
     omega
theorem walk_valS {sl:AL}{size:Int}(h1:1<=size)(hk:Vok size sl):∀(r:List Int) {v:Int},walkS sl r=some v->0<=v/\v<size:=by
 intro r v h
 by_cases e:r=[]
 ·subst e
  cases h
  omega
 ·obtain⟨p,x,rfl⟩:∃p x,r=p++[x]:=⟨r.dropLast,r.getLast e,(List.dropLast_concat_getLast e).symm⟩
  rw[walkS_snoc] at h
  obtain⟨q,_,h2⟩:=Option.bind_eq_some_iff.mp h
  exact hk _ (look_some h2)
theorem mb_len (many size:Int)(sl:AL)(goods:List Int):(mbM many size sl goods).length=size.toNat:=by
 unfold mbM
 rw[List.length_map,List.length_range]
theorem mb_row {many size:Int}{sl:AL}{goods:List Int}{q:Int}(q0:0<=q)(q1:q<size):(mbM many size sl goods)[q.toNat]?=some (decide (q∈goods),(List.range many.toNat).map fun(x:Nat)=>(look sl [q,(x:Int)]).getD q):=by
 unfold mbM
 rw[List.getElem?_map,List.getElem?_range (by omega)]
 show some (decide ((q.toNat:Int)∈goods),_)=_
 rw[show((q.toNat:Nat):Int)=q by omega]
theorem mb_good {many size:Int}{sl:AL}{goods:List Int}(m0:0<=many)(m1:many<=8)(z0:1<=size)(z1:size<=100)(hv:Vok size sl):Good many (mbM many size sl goods):=by
 refine⟨⟨m0,m1⟩,by rw[mb_len];omega,by rw[mb_len];omega,fun r hr=>?_⟩
 rw[mb_len]
 unfold mbM at hr
 obtain⟨q,hq,rfl⟩:=List.mem_map.mp hr
 have hq:=List.mem_range.mp hq
 refine⟨by rw[List.length_map,List.length_range];omega,fun n hn=>?_⟩
 obtain⟨x,_,rfl⟩:=List.mem_map.mp hn
 cases e:look sl [(q:Int),(x:Int)] with
 |none=>show 0<=(q:Int)/\(q:Int)<_;omega
 |some v=>
  have:=hv _ (look_some e)
  show 0<=v/\v<_
  have h1:0<=v:=this.1
  have h2:v<size:=this.2
  omega
theorem mb_next {many size:Int}{sl:AL}{goods:List Int}{q x:Int}(q0:0<=q)(q1:q<size)(x0:0<=x)(x1:x<many):nextOf (mbM many size sl goods) q x=(look sl [q,x]).getD q:=by
 unfold nextOf
 rw[getD_of (mb_row q0 q1)]
 refine getD_of ?_
 rw[List.getElem?_map,List.getElem?_range (by omega)]
 show some ((look sl [q,((x.toNat:Nat):Int)]).getD q)=_
 rw[show((x.toNat:Nat):Int)=x by omega]
theorem mb_walk {many size:Int}{sl:AL}{goods:List Int}(h1:1<=size)(hk:Vok size sl):∀(r:List Int),(∀x∈r,0<=x/\x<many)->∀{v:Int},walkS sl r=some v->walkM (mbM many size sl goods) 0 r=v:=by
 intro r
 induction hn:r.length generalizing r with
 |zero=>
  intro _ v h
  rw[List.length_eq_zero_iff.mp hn] at h ⊢
  cases h
  rfl
 |succ n ih=>
  intro hx v h
  have hne:r≠[]:=fun e=>by rw[e] at hn;cases hn
  obtain⟨p,x,rfl⟩:∃p x,r=p++[x]:=⟨r.dropLast,r.getLast hne,(List.dropLast_concat_getLast hne).symm⟩
  rw[walkS_snoc] at h
  obtain⟨q,h2,h3⟩:=Option.bind_eq_some_iff.mp h
  have hw:=ih p (by simpa using hn) (fun y hy=>hx y (List.mem_append_left _ hy)) h2
  have hq:=walk_valS h1 hk p h2
  have hxx:=hx x (by simp)
  unfold walkM at hw ⊢
  rw[List.foldl_append,hw]
  show nextOf _ q x=v
  rw[mb_next hq.1 hq.2 hxx.1 hxx.2,h3]
  rfl
theorem mb_gdw {many size:Int}{sl:AL}{goods:List Int}(h1:1<=size)(hk:Vok size sl){r:List Int}(hx:∀x∈r,0<=x/\x<many){v:Int}(hw:walkS sl r=some v):gdw (mbM many size sl goods) r=decide (v∈goods):=by
 unfold gdw
 rw[mb_walk h1 hk r hx hw]
 have:=walk_valS h1 hk r hw
 rw[getD_of (mb_row this.1 this.2)]
theorem isB_self {rs:List (List Int)}{r:List Int}(h:r∈rs):isB rs r:=.inr ⟨r,h,r.length,Nat.le_refl _,(List.take_length).symm⟩
theorem all_walk {zl:List (List Int)}{sl:AL}(h:givN zl sl=zl.length){r:List Int}(hr:r∈zl):∃v,walkS sl r=some v:=
 Option.isSome_iff_exists.mp (giv_some r (by rw[h,List.take_length];exact hr))
theorem room_mem {zl rs:List (List Int)}{sl:AL}(nd:zl.Nodup)(h:givN zl sl=zl.length){r:List Int}(hr:r∈rs)(hz:r∈zl){v:Int}(hv:walkS sl r=some v):v∈roomsM rs (givA zl sl):=by
 unfold roomsM
 refine List.mem_filterMap.mpr ⟨r,hr,?_⟩
 rw[look_giv nd (by rw[h,List.take_length];exact hz),hv]
structure Fits (many most:Int)(gs bs:List (List Int))(rms:Rms):Prop where
 good:Good many rms
 l1:1<=rms.length
 l2:(rms.length:Int)<=most
 yes:∀r∈gs,gdw rms r=true
 no:∀r∈bs,gdw rms r=false
theorem rd_sound {many most:Int}{gs bs zl:List (List Int)}(R:RdOk many most gs bs zl){rms:Rms}(h:rdM many most zl gs bs=some rms):Fits many most gs bs rms:=by
 unfold rdM at h
 obtain⟨k,hk,hf⟩:=List.exists_of_findSome?_eq_some h
 have hk:=List.mem_range.mp hk
 obtain⟨sl,hs,rfl⟩:=Option.map_eq_some_iff.mp hf
 have hv0:Vok ((1:Int)+(k:Int)) []:=fun s hs=>by cases hs
 obtain⟨hv,hn,hd⟩:=fs_sound 41 [] sl hs hv0
 have B:Beg zl:=beg_of R.srt R.mem
 have O0:=R.o0
 have O1:=R.o1
 have zin:∀r∈gs++bs,r∈zl:=fun r hr=>(R.mem r).mpr (isB_self hr)
 refine⟨mb_good R.m0 R.m1 (by omega) (by omega) hv,by rw[mb_len];omega,by rw[mb_len];omega,fun r hr=>?_,fun r hr=>?_⟩
 ·obtain⟨v,hw⟩:=all_walk hn (zin r (List.mem_append_left _ hr))
  rw[mb_gdw (by omega) hv (R.le r (List.mem_append_left _ hr)) hw]
  exact decide_eq_true (room_mem B.nd hn hr (zin r (List.mem_append_left _ hr)) hw)
 ·obtain⟨v,hw⟩:=all_walk hn (zin r (List.mem_append_right _ hr))
  rw[mb_gdw (by omega) hv (R.le r (List.mem_append_right _ hr)) hw]
  exact decide_eq_false fun q=>hd v q (room_mem B.nd hn hr (zin r (List.mem_append_right _ hr)) hw)
end BG
namespace BG
open PySem L2 SO K20
theorem range_first {α:Type}{f:Nat->Option α}{x:α}:∀{n:Nat},(List.range n).findSome? f=some x->∃k,k<n/\f k=some x/\∀j,j<k->f j=none
 |0,h=>by cases h
 |n+1,h=>by
  rw[List.range_succ,List.findSome?_append] at h
  cases e:(List.range n).findSome? f with
  |some y=>
   rw[e] at h
   obtain⟨k,h1,h2,h3⟩:=range_first e
   have:y=x:=Option.some.inj h
   rw[this] at h2
   exact⟨k,by omega,h2,h3⟩
  |none=>
   rw[e,Option.none_or,List.findSome?_cons] at h
   cases ef:f n with
   |none=>rw[ef] at h;cases h
   |some y=>
    rw[ef] at h
    have:y=x:=Option.some.inj h
    rw[this] at ef
    exact⟨n,by omega,ef,fun j hj=>List.findSome?_eq_none_iff.mp e j (List.mem_range.mpr hj)⟩
structure Fin (zl:List (List Int))(sl:AL):Prop where
 keyed:∀s∈sl,∃p x q,(p++[x])∈zl.take (givN zl sl)/\walkS sl p=some q/\s.1=[q,x]/\walkS sl (p++[x])=some s.2
 stair:∀i r v,i<givN zl sl->zl[i]?=some r->walkS sl r=some v->v=0\/∃j r' u,j<i/\zl[j]?=some r'/\walkS sl r'=some u/\v<=u+1
theorem mem_take_at {zl:List (List Int)}{n:Nat}{r:List Int}(h:r∈zl.take n):∃j,j<n/\zl[j]?=some r:=by
 obtain⟨j,hj,e⟩:=List.mem_take_iff_getElem.mp h
 exact⟨j,by omega,by rw[<- e];exact List.getElem?_eq_getElem _⟩
theorem at_mem_take {zl:List (List Int)}{n j:Nat}{r:List Int}(hj:j<n)(h:zl[j]?=some r):r∈zl.take n:=by
 obtain⟨h1,h2⟩:=List.getElem?_eq_some_iff.mp h
 rw[<- h2]
 exact List.mem_take_iff_getElem.mpr ⟨j,by omega,rfl⟩
theorem Fin.grow {zl:List (List Int)}{sl:AL}(B:Beg zl)(F:Fin zl sl)(h:givN zl sl<zl.length){size:Int}{k:Nat}(hk:k<topM zl sl size):Fin zl (sl++[(stepM zl sl,(k:Int))]):=by
 obtain⟨p,x,q,er,hp,hq,es,hl⟩:=step_is B h
 have hgr:=giv_grow B h (k:Int)
 have hwn:walkS (sl++[(stepM zl sl,(k:Int))]) (p++[x])=some (k:Int):=by
  rw[walkS_snoc,walk_mono p hq]
  show look (sl++[(stepM zl sl,(k:Int))]) [q,x]=_
  rw[look_app,hl,es,look_cons,if_pos rfl]
  rfl
 refine⟨fun s hs=>?_,fun i r v hi hr hv=>?_⟩
 ·rcases List.mem_append.mp hs with hs|hs
  ·obtain⟨p',x',q',h1,h2,h3,h4⟩:=F.keyed s hs
   refine⟨p',x',q',?_,walk_mono _ h2,h3,walk_mono _ h4⟩
   obtain⟨j,hj,ej⟩:=mem_take_at h1
   exact at_mem_take (by omega) ej
  ·rw[List.mem_singleton.mp hs]
   exact⟨p,x,q,at_mem_take hgr er,walk_mono _ hq,es,hwn⟩
 ·by_cases h1:i<givN zl sl
  ·obtain⟨u,hu⟩:=Option.isSome_iff_exists.mp (giv_some r (at_mem_take h1 hr))
   have:v=u:=by
    have:=walk_mono (el:=[(stepM zl sl,(k:Int))]) r hu
    rw[hv] at this
    exact Option.some.inj this
   subst this
   rcases F.stair i r v h1 hr hu with e|⟨j,r',u,a1,a2,a3,a4⟩
   ·exact .inl e
   ·exact .inr ⟨j,r',u,a1,a2,walk_mono _ a3,a4⟩
  ·by_cases h2:i=givN zl sl
   ·subst h2
    rw[er] at hr
    cases hr
    have:v=(k:Int):=Option.some.inj (hv.symm.trans hwn)
    subst this
    unfold topM at hk
    have hmx:(k:Int)<=maxM ((givA zl sl).map (·.2))+1:=by omega
    rcases foldl_max_mem ((givA zl sl).map (·.2)) 0 with e|e
    ·have e:maxM ((givA zl sl).map (·.2))=0:=e
     exact .inr ⟨0,[],0,givN_pos B sl,B.hd,rfl,by omega⟩
    ·obtain⟨y,hy,ey⟩:=List.mem_map.mp e
     unfold givA at hy
     obtain⟨r',hr',rfl⟩:=List.mem_map.mp hy
     obtain⟨j,hj,ej⟩:=mem_take_at hr'
     obtain⟨u,hu⟩:=Option.isSome_iff_exists.mp (giv_some r' hr')
     have ey:(walkS sl r').getD 0=maxM ((givA zl sl).map (·.2)):=ey
     rw[hu] at ey
     have ey:u=maxM ((givA zl sl).map (·.2)):=ey
     exact .inr ⟨j,r',u,hj,ej,walk_mono _ hu,by omega⟩
   ·obtain⟨p',x',e',_⟩:=B.pre i r (by omega) hr
    rw[e',walkS_snoc] at hv
    obtain⟨q',_,hlk⟩:=Option.bind_eq_some_iff.mp hv
    have hin:=look_some hlk
    rcases List.mem_append.mp hin with hs|hs
    ·obtain⟨p2,x2,q2,b1,b2,b3,b4⟩:=F.keyed _ hs
     obtain⟨j,hj,ej⟩:=mem_take_at b1
     exact .inr ⟨j,_,v,by omega,ej,walk_mono _ b4,by omega⟩
    ·have:v=(k:Int):=by
      have:=List.mem_singleton.mp hs
      exact(Prod.mk.inj this).2
     subst this
     exact .inr ⟨givN zl sl,_,(k:Int),by omega,er,hwn,by omega⟩
theorem walkS_nilS {r:List Int}{v:Int}(h:walkS [] r=some v):r=[]/\v=0:=by
 by_cases e:r=[]
 ·subst e;cases h;exact⟨rfl,rfl⟩
 ·obtain⟨p,x,rfl⟩:∃p x,r=p++[x]:=⟨r.dropLast,r.getLast e,(List.dropLast_concat_getLast e).symm⟩
  rw[walkS_snoc] at h
  obtain⟨q,_,h2⟩:=Option.bind_eq_some_iff.mp h
  cases h2
theorem fin_nil (zl:List (List Int)):Fin zl []:=⟨fun s hs=>by(cases hs),fun i r v _ _ hv=>.inl (walkS_nilS hv).2⟩
end BG
namespace BG
open PySem L2 SO K20
def wD (δ:Int->Int->Int)(r:List Int):Int:=r.foldl δ 0
theorem wD_snoc (δ:Int->Int->Int)(r:List Int)(x:Int):wD δ (r++[x])=δ (wD δ r) x:=by
 unfold wD
 rw[List.foldl_append]
 rfl
structure Ren (size:Int)(pi ka:Int->Int):Prop where
 p:∀q,0<=q->q<size->0<=pi q/\pi q<size
 k:∀q,0<=q->q<size->0<=ka q/\ka q<size
 pk:∀q,0<=q->q<size->pi (ka q)=q
 kp:∀q,0<=q->q<size->ka (pi q)=q
 z:pi 0=0
def sw (a b q:Int):Int:=if q=a then b else if q=b then a else q
theorem sw_sw (a b q:Int):sw a b (sw a b q)=q:=by
 unfold sw
 by_cases h1:q=a
 ·rw[if_pos h1]
  by_cases h2:b=a
  ·rw[if_pos h2,h1,h2]
  ·rw[if_neg h2,if_pos rfl,h1]
 ·rw[if_neg h1]
  by_cases h2:q=b
  ·rw[if_pos h2,if_pos rfl,h2]
  ·rw[if_neg h2,if_neg h1,if_neg h2]
theorem sw_in {size a b q:Int}(a0:0<=a)(a1:a<size)(b0:0<=b)(b1:b<size)(q0:0<=q)(q1:q<size):0<=sw a b q/\sw a b q<size:=by
 unfold sw
 split
 ·exact⟨b0,b1⟩
 ·split
  ·exact⟨a0,a1⟩
  ·exact⟨q0,q1⟩
theorem Ren.swap {size a b:Int}{pi ka:Int->Int}(R:Ren size pi ka)(a0:1<=a)(a1:a<size)(b0:1<=b)(b1:b<size):Ren size (fun q=>pi (sw a b q)) (fun q=>sw a b (ka q)):=by
 have si:∀q,0<=q->q<size->0<=sw a b q/\sw a b q<size:=fun q q0 q1=>sw_in (by omega) a1 (by omega) b1 q0 q1
 refine⟨fun q q0 q1=>R.p _ (si q q0 q1).1 (si q q0 q1).2,fun q q0 q1=>si _ (R.k q q0 q1).1 (R.k q q0 q1).2,fun q q0 q1=>?_,fun q q0 q1=>?_,?_⟩
 ·show pi (sw a b (sw a b (ka q)))=q
  rw[sw_sw]
  exact R.pk q q0 q1
 ·show sw a b (ka (pi (sw a b q)))=q
  rw[R.kp _ (si q q0 q1).1 (si q q0 q1).2,sw_sw]
 ·show pi (sw a b 0)=0
  have:sw a b 0=0:=by
   unfold sw
   rw[if_neg (by omega),if_neg (by omega)]
  rw[this]
  exact R.z
theorem look_giv_some {zl:List (List Int)}{sl:AL}(nd:zl.Nodup){r:List Int}{v:Int}(h:look (givA zl sl) r=some v):walkS sl r=some v/\r∈zl.take (givN zl sl):=by
 by_cases hr:r∈zl.take (givN zl sl)
 ·rw[look_giv nd hr] at h
  exact⟨h,hr⟩
 ·rw[look_giv_none hr] at h
  cases h
theorem walk_ren {sl:AL}{δ:Int->Int->Int}{pi:Int->Int}(z:pi 0=0)(rel:∀s∈sl,∀q x,s.1=[q,x]->pi s.2=δ (pi q) x):∀(r:List Int) {v:Int},walkS sl r=some v->wD δ r=pi v:=by
 intro r
 induction hn:r.length generalizing r with
 |zero=>
  intro v h
  rw[List.length_eq_zero_iff.mp hn] at h ⊢
  cases h
  exact z.symm
 |succ n ih=>
  intro v h
  have hne:r≠[]:=fun e=>by rw[e] at hn;cases hn
  obtain⟨p,x,rfl⟩:∃p x,r=p++[x]:=⟨r.dropLast,r.getLast hne,(List.dropLast_concat_getLast hne).symm⟩
  rw[walkS_snoc] at h
  obtain⟨q,h2,h3⟩:=Option.bind_eq_some_iff.mp h
  rw[wD_snoc,ih p (by simpa using hn) h2]
  exact(rel _ (look_some h3) q x rfl).symm
theorem walk_top {zl:List (List Int)}{sl:AL}{r:List Int}{v:Int}(hr:r∈zl.take (givN zl sl))(h:walkS sl r=some v):v<=maxM ((givA zl sl).map (·.2)):=by
 refine(foldl_max_le ((givA zl sl).map (·.2)) 0).2 v ?_
 unfold givA
 rw[List.map_map]
 exact List.mem_map.mpr ⟨r,hr,by show(walkS sl r).getD 0=v;rw[h];rfl⟩
theorem keys_top {zl:List (List Int)}{sl:AL}(B:Beg zl)(F:Fin zl sl){s:List Int×Int}(hs:s∈sl):s.2<=maxM ((givA zl sl).map (·.2))/\∀q x,s.1=[q,x]->q<=maxM ((givA zl sl).map (·.2)):=by
 obtain⟨p,x,q,b1,b2,b3,b4⟩:=F.keyed s hs
 refine⟨walk_top b1 b4,fun q' x' e=>?_⟩
 rw[b3] at e
 injection e with e1 _
 subst e1
 obtain⟨j,hj,ej⟩:=mem_take_at b1
 by_cases h0:j=0
 ·subst h0
  have:=B.hd.symm.trans ej
  have:=Option.some.inj this
  simp at this
 ·obtain⟨p',x'',e,hp'⟩:=B.pre j _ (by omega) ej
  obtain⟨e1,_⟩:=List.append_inj' e rfl
  subst e1
  obtain⟨i,hi,ei⟩:=mem_take_at hp'
  exact walk_top (at_mem_take (by omega) ei) b2
theorem find_isSome {α:Type}{f:Nat->Option α}{n k:Nat}(hk:k<n)(h:(f k).isSome=true):((List.range n).findSome? f).isSome=true:=by
 cases e:(List.range n).findSome? f with
 |some _=>rfl
 |none=>
  rw[List.findSome?_eq_none_iff.mp e k (List.mem_range.mpr hk)] at h
  cases h
theorem fs_full {zl gs bs:List (List Int)}{size:Int}{δ:Int->Int->Int}(B:Beg zl)(h1:1<=size)(hd:∀q,0<=q->q<size->∀r∈zl,∀x∈r,0<=δ q x/\δ q x<size)(sep:∀r∈gs,∀r'∈bs,wD δ r≠wD δ r'):
  ∀(d:Nat) (sl:AL) (pi ka:Int->Int),zl.length-givN zl sl<d->Fin zl sl->Vok size sl->Ren size pi ka->(∀s∈sl,∀q x,s.1=[q,x]->pi s.2=δ (pi q) x)->(fsM zl gs bs size d sl).isSome=true
 |0,_,_,_,h,_,_,_,_=>by omega
 |d+1,sl,pi,ka,hg,F,hv,R,rel=>by
  rw[fsM]
  have hno:¬(roomsM gs (givA zl sl)).any (fun q=>decide (q∈roomsM bs (givA zl sl)))=true:=fun hany=>by
   obtain⟨q,hq,hb⟩:=List.any_eq_true.mp hany
   have hb:=of_decide_eq_true hb
   unfold roomsM at hq hb
   obtain⟨r,hr,er⟩:=List.mem_filterMap.mp hq
   obtain⟨r',hr',er'⟩:=List.mem_filterMap.mp hb
   refine sep r hr r' hr' ?_
   rw[walk_ren R.z rel r (look_giv_some B.nd er).1,walk_ren R.z rel r' (look_giv_some B.nd er').1]
  rw[if_neg hno]
  by_cases h2:givN zl sl=zl.length
  ·rw[if_pos h2]
   rfl
  ·rw[if_neg h2]
   have hlt:givN zl sl<zl.length:=Nat.lt_of_le_of_ne (givN_le _ _) h2
   obtain⟨p,x,q,er,hp,hq,es,hl⟩:=step_is B hlt
   have hq2:=walk_valS h1 hv p hq
   have hpq:=R.p q hq2.1 hq2.2
   have ht:=hd (pi q) hpq.1 hpq.2 (p++[x]) (List.mem_of_getElem? er) x (by simp)
   have hk:=R.k _ ht.1 ht.2
   have hpk:=R.pk _ ht.1 ht.2
   have hqM:=walk_top hp hq
   have hM0:0<=maxM ((givA zl sl).map (·.2)):=by
    unfold maxM
    exact(foldl_max_le _ 0).1
   generalize hM:maxM ((givA zl sl).map (·.2))=M at hqM hM0
   have grow:∀(k:Nat),(k:Int)<size->k<topM zl sl size->Fin zl (sl++[(stepM zl sl,(k:Int))])/\Vok size (sl++[(stepM zl sl,(k:Int))])/\zl.length-givN zl (sl++[(stepM zl sl,(k:Int))])<d:=fun k hk1 hk2=>by
    refine⟨F.grow B hlt hk2,fun s hs=>?_,?_⟩
    ·rcases List.mem_append.mp hs with hs|hs
     ·exact hv s hs
     ·rw[List.mem_singleton.mp hs]
      exact⟨Int.natCast_nonneg k,hk1⟩
    ·have:=giv_grow B hlt (k:Int)
     omega
   by_cases hkM:ka (δ (pi q) x)<=M+1
   ·have hkt:(ka (δ (pi q) x)).toNat<topM zl sl size:=by
     unfold topM
     rw[hM]
     omega
    have hc:(((ka (δ (pi q) x)).toNat:Nat):Int)=ka (δ (pi q) x):=by omega
    obtain⟨g1,g2,g3⟩:=grow _ (by omega) hkt
    refine find_isSome hkt (fs_full B h1 hd sep d _ pi ka g3 g1 g2 R fun s hs q' x' e=>?_)
    rcases List.mem_append.mp hs with hs|hs
    ·exact rel s hs q' x' e
    ·rw[List.mem_singleton.mp hs] at e ⊢
     have e:stepM zl sl=[q',x']:=e
     rw[es] at e
     injection e with e1 e2
     injection e2 with e2 _
     subst e1 e2
     show pi (((ka (δ (pi q) x)).toNat:Nat):Int)=_
     rw[hc]
     exact hpk
   ·have hkt:(M+1).toNat<topM zl sl size:=by
     unfold topM
     rw[hM]
     omega
    have hc:(((M+1).toNat:Nat):Int)=M+1:=by omega
    obtain⟨g1,g2,g3⟩:=grow _ (by omega) hkt
    have sid:∀y,y<=M->sw (ka (δ (pi q) x)) (M+1) y=y:=fun y hy=>by
     unfold sw
     rw[if_neg (by omega),if_neg (by omega)]
    refine find_isSome hkt (fs_full B h1 hd sep d _ _ _ g3 g1 g2 (R.swap (a:=ka (δ (pi q) x)) (b:=M+1) (by omega) hk.2 (by omega) (by omega)) fun s hs q' x' e=>?_)
    rcases List.mem_append.mp hs with hs|hs
    ·obtain⟨k1,k2⟩:=keys_top B F hs
     rw[hM] at k1 k2
     show pi (sw _ _ s.2)=δ (pi (sw _ _ q')) x'
     rw[sid _ k1,sid _ (k2 q' x' e)]
     exact rel s hs q' x' e
    ·rw[List.mem_singleton.mp hs] at e ⊢
     have e:stepM zl sl=[q',x']:=e
     rw[es] at e
     injection e with e1 e2
     injection e2 with e2 _
     subst e1 e2
     show pi (sw _ _ (((M+1).toNat:Nat):Int))=δ (pi (sw _ _ q)) x
     rw[hc,sid q hqM]
     have:sw (ka (δ (pi q) x)) (M+1) (M+1)=ka (δ (pi q) x):=by
      unfold sw
      rw[if_neg (by omega),if_pos rfl]
     rw[this]
     exact hpk
theorem rd_full {many most:Int}{gs bs zl:List (List Int)}(R:RdOk many most gs bs zl){size:Int}{δ:Int->Int->Int}(h1:1<=size)(h2:size<=most)(hd:∀q,0<=q->q<size->∀x,0<=x->x<many->0<=δ q x/\δ q x<size)(sep:∀r∈gs,∀r'∈bs,wD δ r≠wD δ r'):
  ∃rms,rdM many most zl gs bs=some rms/\(rms.length:Int)<=size:=by
 have B:Beg zl:=beg_of R.srt R.mem
 have hl:=R.len
 have O1:=R.o1
 have v0:Vok size []:=fun s hs=>by cases hs
 have idr:Ren size (fun q=>q) (fun q=>q):=⟨fun q a b=>⟨a,b⟩,fun q a b=>⟨a,b⟩,fun q _ _=>rfl,fun q _ _=>rfl,rfl⟩
 have hs:=fs_full B h1 (fun q q0 q1 r hr x hx=>hd q q0 q1 x (R.let' r hr x hx).1 (R.let' r hr x hx).2) sep 41 [] (fun q=>q) (fun q=>q) (by omega) (fin_nil zl) v0 idr (fun s hs=>by cases hs)
 have es:(1:Int)+((size-1).toNat:Int)=size:=by omega
 cases e:rdM many most zl gs bs with
 |none=>
  exfalso
  unfold rdM at e
  have:=List.findSome?_eq_none_iff.mp e (size-1).toNat (List.mem_range.mpr (by omega))
  have:=Option.map_eq_none_iff.mp this
  rw[es] at this
  rw[this] at hs
  cases hs
 |some rms=>
  refine⟨rms,rfl,?_⟩
  unfold rdM at e
  obtain⟨k,hk,hf,hno⟩:=range_first e
  obtain⟨sl,_,rfl⟩:=Option.map_eq_some_iff.mp hf
  rw[mb_len]
  refine Int.not_lt.mp fun hlt=>?_
  have:=hno (size-1).toNat (by omega)
  have:=Option.map_eq_none_iff.mp this
  rw[es] at this
  rw[this] at hs
  cases hs
end BG
namespace BG
open PySem L2 SO K20
def SzA (H:Hp)(p:Addr):Prop:=∃m o l t:Int,H p=some (.tup [.int m,.int o,.int l,.int t])/\0<=m/\m<=8/\1<=o/\o<=4/\1<=l/\l<=8/\1<=t/\t<=40/\m*o<=9
section
variable {P:Program} {w:World} {K:W.Frag} {mg:Str->Option Value} {base:Heap} {CG:Addr}
def spSz:Sp:=fun vs H Q _=>∃c:Int,vs=[.int c]/\∀(p:Addr) (H':Hp),Same H H'->SzA H' p->Q (.ref p) H'
theorem scSz:FnScope ["_law_cell","_law_some"] ["_law_cell"] (defScope sSz):=.of (by decide +kernel)
theorem ok_sz (F:Fun K "_law_sizes" "_law_sizes" sSz f fd):FnOk P w K mg base CX0 1 f fd ["_law_cell"] spSz:=by
 refine F.ok scSz (fun vs H Q E h=>?_) (fun cdv A outer s H vs Q E hr h=>?_)
 ·obtain⟨c,rfl,_⟩:=h
  rfl
 ·obtain⟨c,rfl,k⟩:=h
  refine⟨_,@pss_cons _ _ _ _ _ (@ps_set _ _ 1 _ _ _ _ scSz.nd rfl (Or.inl rfl) (@pe_lst _ _ _ _ (@pa_cons _ _ _ _ _ (@pe_tup _ _ _ _ _ (@pa_cons _ _ _ _ _ pe_int (@pa_cons _ _ _ _ _ pe_int (@pa_cons _ _ _ _ _ pe_int (@pa_cons _ _ _ _ _ pe_int pa_nil (by rfl)) (by rfl)) (by rfl)) (by rfl))) (@pa_cons _ _ _ _ _ (@pe_tup _ _ _ _ _ (@pa_cons _ _ _ _ _ pe_int (@pa_cons _ _ _ _ _ pe_int (@pa_cons _ _ _ _ _ pe_int (@pa_cons _ _ _ _ _ pe_int pa_nil (by rfl)) (by rfl)) (by rfl)) (by rfl))) (@pa_cons _ _ _ _ _ (@pe_tup _ _ _ _ _ (@pa_cons _ _ _ _ _ pe_int (@pa_cons _ _ _ _ _ pe_int (@pa_cons _ _ _ _ _ pe_int (@pa_cons _ _ _ _ _ pe_int pa_nil (by rfl)) (by rfl)) (by rfl)) (by rfl))) (@pa_cons _ _ _ _ _ (@pe_tup _ _ _ _ _ (@pa_cons _ _ _ _ _ pe_int (@pa_cons _ _ _ _ _ pe_int (@pa_cons _ _ _ _ _ pe_int (@pa_cons _ _ _ _ _ pe_int pa_nil (by rfl)) (by rfl)) (by rfl)) (by rfl))) (@pa_cons _ _ _ _ _ (@pe_tup _ _ _ _ _ (@pa_cons _ _ _ _ _ pe_int (@pa_cons _ _ _ _ _ pe_int (@pa_cons _ _ _ _ _ pe_int (@pa_cons _ _ _ _ _ pe_int pa_nil (by rfl)) (by rfl)) (by rfl)) (by rfl))) pa_nil (by rfl)) (by rfl)) (by rfl)) (by rfl)) (by rfl))) (by rfl) (by first|exact Or.inl rfl|exact Or.inr rfl))
   (@pss_cons _ _ _ _ _ (@ps_set _ _ 1 _ _ _ _ scSz.nd rfl (Or.inl rfl) (@pe_op _ _ _ _ _ _ _ _ op_catL (pv 1) (@pe_lst _ _ _ _ (@pa_cons _ _ _ _ _ (@pe_tup _ _ _ _ _ (@pa_cons _ _ _ _ _ pe_int (@pa_cons _ _ _ _ _ pe_int (@pa_cons _ _ _ _ _ pe_int (@pa_cons _ _ _ _ _ pe_int pa_nil (by rfl)) (by rfl)) (by rfl)) (by rfl))) (@pa_cons _ _ _ _ _ (@pe_tup _ _ _ _ _ (@pa_cons _ _ _ _ _ pe_int (@pa_cons _ _ _ _ _ pe_int (@pa_cons _ _ _ _ _ pe_int (@pa_cons _ _ _ _ _ pe_int pa_nil (by rfl)) (by rfl)) (by rfl)) (by rfl))) (@pa_cons _ _ _ _ _ (@pe_tup _ _ _ _ _ (@pa_cons _ _ _ _ _ pe_int (@pa_cons _ _ _ _ _ pe_int (@pa_cons _ _ _ _ _ pe_int (@pa_cons _ _ _ _ _ pe_int pa_nil (by rfl)) (by rfl)) (by rfl)) (by rfl))) (@pa_cons _ _ _ _ _ (@pe_tup _ _ _ _ _ (@pa_cons _ _ _ _ _ pe_int (@pa_cons _ _ _ _ _ pe_int (@pa_cons _ _ _ _ _ pe_int (@pa_cons _ _ _ _ _ pe_int pa_nil (by rfl)) (by rfl)) (by rfl)) (by rfl))) (@pa_cons _ _ _ _ _ (@pe_tup _ _ _ _ _ (@pa_cons _ _ _ _ _ pe_int (@pa_cons _ _ _ _ _ pe_int (@pa_cons _ _ _ _ _ pe_int (@pa_cons _ _ _ _ _ pe_int pa_nil (by rfl)) (by rfl)) (by rfl)) (by rfl))) pa_nil (by rfl)) (by rfl)) (by rfl)) (by rfl)) (by rfl)))) (by rfl) (by first|exact Or.inl rfl|exact Or.inr rfl))
   (pss_one (ps_ret (pe_ix ix_list (pv 1) (pe_op op_mod (pv 0) pe_int) (fun _ _=>rfl))))),?_⟩
  refine⟨(by show 4<=sizeLine;decide),fun u0 hu0=>?_⟩
  have su0:=(Same.refl H).upd_free (o:=.tup [V.int 2,.int 3,.int 4,.int 40]) hu0
  have qu0:upd H u0 (.tup [V.int 2,.int 3,.int 4,.int 40]) u0=some (.tup [V.int 2,.int 3,.int 4,.int 40]):=upd_same
  generalize upd H u0 (.tup [V.int 2,.int 3,.int 4,.int 40])=Hu0 at su0 qu0 ⊢
  refine⟨(by show 4<=sizeLine;decide),fun u1 hu1=>?_⟩
  have su1:=(Same.refl Hu0).upd_free (o:=.tup [V.int 1,.int 4,.int 8,.int 40]) hu1
  have qu1:upd Hu0 u1 (.tup [V.int 1,.int 4,.int 8,.int 40]) u1=some (.tup [V.int 1,.int 4,.int 8,.int 40]):=upd_same
  generalize upd Hu0 u1 (.tup [V.int 1,.int 4,.int 8,.int 40])=Hu1 at su1 qu1 ⊢
  refine⟨(by show 4<=sizeLine;decide),fun u2 hu2=>?_⟩
  have su2:=(Same.refl Hu1).upd_free (o:=.tup [V.int 3,.int 2,.int 4,.int 30]) hu2
  have qu2:upd Hu1 u2 (.tup [V.int 3,.int 2,.int 4,.int 30]) u2=some (.tup [V.int 3,.int 2,.int 4,.int 30]):=upd_same
  generalize upd Hu1 u2 (.tup [V.int 3,.int 2,.int 4,.int 30])=Hu2 at su2 qu2 ⊢
  refine⟨(by show 4<=sizeLine;decide),fun u3 hu3=>?_⟩
  have su3:=(Same.refl Hu2).upd_free (o:=.tup [V.int 2,.int 4,.int 4,.int 8]) hu3
  have qu3:upd Hu2 u3 (.tup [V.int 2,.int 4,.int 4,.int 8]) u3=some (.tup [V.int 2,.int 4,.int 4,.int 8]):=upd_same
  generalize upd Hu2 u3 (.tup [V.int 2,.int 4,.int 4,.int 8])=Hu3 at su3 qu3 ⊢
  refine⟨(by show 4<=sizeLine;decide),fun u4 hu4=>?_⟩
  have su4:=(Same.refl Hu3).upd_free (o:=.tup [V.int 2,.int 2,.int 5,.int 40]) hu4
  have qu4:upd Hu3 u4 (.tup [V.int 2,.int 2,.int 5,.int 40]) u4=some (.tup [V.int 2,.int 2,.int 5,.int 40]):=upd_same
  generalize upd Hu3 u4 (.tup [V.int 2,.int 2,.int 5,.int 40])=Hu4 at su4 qu4 ⊢
  refine⟨(by show 5<=sizeLine;decide),fun l hl=>?_⟩
  have sl:=(Same.refl Hu4).upd_free (o:=.lst [V.ref u0,.ref u1,.ref u2,.ref u3,.ref u4]) hl
  have ql:upd Hu4 l (.lst [V.ref u0,.ref u1,.ref u2,.ref u3,.ref u4]) l=some (.lst [V.ref u0,.ref u1,.ref u2,.ref u3,.ref u4]):=upd_same
  generalize upd Hu4 l (.lst [V.ref u0,.ref u1,.ref u2,.ref u3,.ref u4])=Hl at sl ql ⊢
  refine⟨_,rfl,?_⟩
  refine⟨(by show 4<=sizeLine;decide),fun v0 hv0=>?_⟩
  have sv0:=(Same.refl Hl).upd_free (o:=.tup [V.int 3,.int 3,.int 3,.int 8]) hv0
  have qv0:upd Hl v0 (.tup [V.int 3,.int 3,.int 3,.int 8]) v0=some (.tup [V.int 3,.int 3,.int 3,.int 8]):=upd_same
  generalize upd Hl v0 (.tup [V.int 3,.int 3,.int 3,.int 8])=Hv0 at sv0 qv0 ⊢
  refine⟨(by show 4<=sizeLine;decide),fun v1 hv1=>?_⟩
  have sv1:=(Same.refl Hv0).upd_free (o:=.tup [V.int 8,.int 1,.int 3,.int 30]) hv1
  have qv1:upd Hv0 v1 (.tup [V.int 8,.int 1,.int 3,.int 30]) v1=some (.tup [V.int 8,.int 1,.int 3,.int 30]):=upd_same
  generalize upd Hv0 v1 (.tup [V.int 8,.int 1,.int 3,.int 30])=Hv1 at sv1 qv1 ⊢
  refine⟨(by show 4<=sizeLine;decide),fun v2 hv2=>?_⟩
  have sv2:=(Same.refl Hv1).upd_free (o:=.tup [V.int 4,.int 2,.int 3,.int 30]) hv2
  have qv2:upd Hv1 v2 (.tup [V.int 4,.int 2,.int 3,.int 30]) v2=some (.tup [V.int 4,.int 2,.int 3,.int 30]):=upd_same
  generalize upd Hv1 v2 (.tup [V.int 4,.int 2,.int 3,.int 30])=Hv2 at sv2 qv2 ⊢
  refine⟨(by show 4<=sizeLine;decide),fun v3 hv3=>?_⟩
  have sv3:=(Same.refl Hv2).upd_free (o:=.tup [V.int 0,.int 3,.int 1,.int 1]) hv3
  have qv3:upd Hv2 v3 (.tup [V.int 0,.int 3,.int 1,.int 1]) v3=some (.tup [V.int 0,.int 3,.int 1,.int 1]):=upd_same
  generalize upd Hv2 v3 (.tup [V.int 0,.int 3,.int 1,.int 1])=Hv3 at sv3 qv3 ⊢
  refine⟨(by show 4<=sizeLine;decide),fun v4 hv4=>?_⟩
  have sv4:=(Same.refl Hv3).upd_free (o:=.tup [V.int 2,.int 3,.int 8,.int 40]) hv4
  have qv4:upd Hv3 v4 (.tup [V.int 2,.int 3,.int 8,.int 40]) v4=some (.tup [V.int 2,.int 3,.int 8,.int 40]):=upd_same
  generalize upd Hv3 v4 (.tup [V.int 2,.int 3,.int 8,.int 40])=Hv4 at sv4 qv4 ⊢
  refine⟨(by show 5<=sizeLine;decide),fun m hm=>?_⟩
  have sm:=(Same.refl Hv4).upd_free (o:=.lst [V.ref v0,.ref v1,.ref v2,.ref v3,.ref v4]) hm
  have qm:upd Hv4 m (.lst [V.ref v0,.ref v1,.ref v2,.ref v3,.ref v4]) m=some (.lst [V.ref v0,.ref v1,.ref v2,.ref v3,.ref v4]):=upd_same
  generalize upd Hv4 m (.lst [V.ref v0,.ref v1,.ref v2,.ref v3,.ref v4])=Hm at sm qm ⊢
  have sV:Same Hl Hm:=sv0.trans (sv1.trans (sv2.trans (sv3.trans (sv4.trans sm))))
  have sU:Same H Hl:=su0.trans (su1.trans (su2.trans (su3.trans (su4.trans sl))))
  refine⟨l,m,_,_,rfl,rfl,SqL.of (sV _ _ ql),SqL.of qm,(by show 10<=sizeLine;decide),fun n hn=>?_⟩
  have sn:=(Same.refl Hm).upd_free (o:=.lst ([V.ref u0,.ref u1,.ref u2,.ref u3,.ref u4]++[V.ref v0,.ref v1,.ref v2,.ref v3,.ref v4])) hn
  have qn:upd Hm n (.lst ([V.ref u0,.ref u1,.ref u2,.ref u3,.ref u4]++[V.ref v0,.ref v1,.ref v2,.ref v3,.ref v4])) n=some (.lst (([u0,u1,u2,u3,u4,v0,v1,v2,v3,v4]:List Addr).map V.ref)):=upd_same
  generalize upd Hm n (.lst ([V.ref u0,.ref u1,.ref u2,.ref u3,.ref u4]++[V.ref v0,.ref v1,.ref v2,.ref v3,.ref v4]))=Hn at sn qn ⊢
  have sW:Same Hl Hn:=sV.trans sn
  have fu0:SzA Hn u0:=⟨2,3,4,40,((su1.trans (su2.trans (su3.trans (su4.trans (sl.trans sW)))))) _ _ qu0,by decide,by decide,by decide,by decide,by decide,by decide,by decide,by decide,by decide⟩
  have fu1:SzA Hn u1:=⟨1,4,8,40,((su2.trans (su3.trans (su4.trans (sl.trans sW))))) _ _ qu1,by decide,by decide,by decide,by decide,by decide,by decide,by decide,by decide,by decide⟩
  have fu2:SzA Hn u2:=⟨3,2,4,30,((su3.trans (su4.trans (sl.trans sW)))) _ _ qu2,by decide,by decide,by decide,by decide,by decide,by decide,by decide,by decide,by decide⟩
  have fu3:SzA Hn u3:=⟨2,4,4,8,((su4.trans (sl.trans sW))) _ _ qu3,by decide,by decide,by decide,by decide,by decide,by decide,by decide,by decide,by decide⟩
  have fu4:SzA Hn u4:=⟨2,2,5,40,((sl.trans sW)) _ _ qu4,by decide,by decide,by decide,by decide,by decide,by decide,by decide,by decide,by decide⟩
  have fv0:SzA Hn v0:=⟨3,3,3,8,((sv1.trans (sv2.trans (sv3.trans (sv4.trans (sm.trans sn)))))) _ _ qv0,by decide,by decide,by decide,by decide,by decide,by decide,by decide,by decide,by decide⟩
  have fv1:SzA Hn v1:=⟨8,1,3,30,((sv2.trans (sv3.trans (sv4.trans (sm.trans sn))))) _ _ qv1,by decide,by decide,by decide,by decide,by decide,by decide,by decide,by decide,by decide⟩
  have fv2:SzA Hn v2:=⟨4,2,3,30,((sv3.trans (sv4.trans (sm.trans sn)))) _ _ qv2,by decide,by decide,by decide,by decide,by decide,by decide,by decide,by decide,by decide⟩
  have fv3:SzA Hn v3:=⟨0,3,1,1,((sv4.trans (sm.trans sn))) _ _ qv3,by decide,by decide,by decide,by decide,by decide,by decide,by decide,by decide,by decide⟩
  have fv4:SzA Hn v4:=⟨2,3,8,40,((sm.trans sn)) _ _ qv4,by decide,by decide,by decide,by decide,by decide,by decide,by decide,by decide,by decide⟩
  have hall:∀p∈([u0,u1,u2,u3,u4,v0,v1,v2,v3,v4]:List Addr),SzA Hn p:=fun p hp=>by
   simp only[List.mem_cons,List.not_mem_nil,or_false] at hp
   rcases hp with rfl|rfl|rfl|rfl|rfl|rfl|rfl|rfl|rfl|rfl<;>assumption
  have c0:0<=c%10:=Int.emod_nonneg _ (by decide)
  have c1:c%10<10:=Int.emod_lt_of_pos _ (by decide)
  obtain⟨x,hx,ex,_⟩:=atI_some (([u0,u1,u2,u3,u4,v0,v1,v2,v3,v4]:List Addr).map V.ref) (c%10) c0 (by rw[List.length_map];exact c1)
  obtain⟨p,hp,rfl⟩:=List.mem_map.mp hx
  refine⟨_,rfl,_,rfl,_,_,rfl,rfl,(by show(0:Int)<10;decide),n,_,_,_,rfl,rfl,SqL.of qn,ex,?_⟩
  exact k p Hn (sU.trans sW) (hall p hp)
end
end BG
namespace BG
open PySem L2 SO K20
def MoA (H:Hp)(v:V)(many:Int):Option Rms->Prop
 |none=>v=.non
 |some rms=>∃m,v=.ref m/\MAt H m many rms
section
variable {P:Program} {w:World} {K:W.Frag} {mg:Str->Option Value} {base:Heap} {CG:Addr}
def spLr:Sp:=fun vs H Q _=>∃(g b:Addr) (many most:Int) (gs bs zl:List (List Int)),vs=[.int many,.ref g,.ref b,.int most]/\RsT H g gs/\RsT H b bs/\RdOk many most gs bs zl∧
 ∀(v:V) (H':Hp),Same H H'->MoA H' v many (rdM many most zl gs bs)->Q v H'
theorem scLr:FnScope ["_law_many","_law_good","_law_bad","_law_most","_law_found"] ["_law_many","_law_good","_law_bad","_law_most"] (defScope sLr):=.of (by decide +kernel)
theorem ok_lr {its:Array Value}(F:Fun K "_law_read" "_law_read" sLr f fd)
  (FR:FunD K "read_off" "read_off" sRd fR fdR its) (bR:Binds K fdR ["many","good","bad","most"] []) (gR:mg "read_off"=some (.ref fR)) (GR:FnOk P w K mg base (CX1 P w) 45 fR fdR ["many","good","bad","most"] (spRd CG))
  (gN:mg "TooGreat"=some (.ref CG)) (tk:takesX K CG (.ref CG)=true):
  FnOk P w K mg base CX0 46 f fd ["_law_many","_law_good","_law_bad","_law_most"] spLr:=by
 refine F.ok scLr (fun vs H Q E h=>?_) (fun cdv A outer s H vs Q E hr h=>?_)
 ·obtain⟨g,b,many,most,gs,bs,zl,rfl,_⟩:=h
  rfl
 ·obtain⟨g,b,many,most,gs,bs,zl,rfl,hg,hb,R,k⟩:=h
  refine⟨_,pss_cons (ps_set (i:=4) scLr.nd rfl (Or.inl rfl) pe_non)
   (pss_cons (ps_tryH ⟨rfl,rfl⟩ (pssx_one (psx_set (i:=4) scLr.nd rfl (Or.inl rfl) (pex_call GR hr rfl gR FR.kp bR .nil (pa_cons (pv 0) (pa_cons (pv 1) (pa_cons (pv 2) (pa_cons (pv 3) pa_nil))))))) (ph_no ⟨by rfl,by decide,.inl gN⟩ (fun a=>pss_one (ps_set (i:=4) scLr.nd rfl (Or.inl rfl) pe_non)) ph_nil))
   (pss_one (ps_ret (pv 4)))),?_⟩
  refine⟨_,rfl,_,rfl,_,rfl,_,rfl,g,b,many,most,gs,bs,zl,rfl,hg,hb,R,fun rms hrd m H1 s1 hM=>?_,fun hn d H1 s1 hd=>⟨CG,rfl,fun a ha=>.inl ⟨tk,?_⟩⟩⟩
  ·refine⟨_,rfl,k _ H1 s1 ?_⟩
   rw[hrd]
   exact⟨m,rfl,hM⟩
  ·refine⟨_,rfl,k _ _ (s1.trans ((Same.refl H1).upd_free ha)) ?_⟩
   rw[hn]
   rfl
end
end BG
namespace BG
open PySem L2 SO K20
section
variable {P:Program} {w:World} {K:W.Frag} {mg:Str->Option Value} {base:Heap}
def spWk:Sp:=fun vs H Q _=>∃(r t:Addr) (many:Int) (rs:Rms) (ns:List Int),vs=[.ref r,.ref t]/\RmS H r rs/\Good many rs/\RA H t ns/\(∀x∈ns,0<=x/\x<many)/\Q (.int (walkM rs 0 ns)) H
theorem scWk:FnScope ["_law_rooms","_law_run_here","_law_room","_law_letter"] ["_law_rooms","_law_run_here"] (defScope sWk):=.of (by decide +kernel)
theorem ok_wk (F:Fun K "_law_walked" "_law_walked" sWk f fd):FnOk P w K mg base CX0 1 f fd ["_law_rooms","_law_run_here"] spWk:=by
 refine F.ok scWk (fun vs H Q E h=>?_) (fun cdv A outer s H vs Q E hr h=>?_)
 ·obtain⟨r,t,many,rs,ns,rfl,_⟩:=h
  rfl
 ·obtain⟨r,t,many,rs,ns,rfl,⟨qs,hq,hR⟩,G,ht,hx,k⟩:=h
  have gpos:=G.pos
  refine⟨_,pss_cons (ps_set (i:=2) scWk.nd rfl (Or.inl rfl) pe_int)
   (pss_cons (ps_for PassesOwn.never rfl (pi_tup (pv 1)) (pg_name (i:=3) scWk.nd rfl (Or.inl rfl))
    (pss_one (ps_set (i:=2) scWk.nd rfl (Or.inl rfl) (pe_ix ix_both (pe_ix ix_tup (pe_ix ix_both (pv 0) (pv 2) (fun _ _=>rfl)) pe_int (fun _ _=>rfl)) (pv 3) (fun _ _=>rfl)))))
   (pss_one (ps_ret (pv 2)))),?_⟩
  refine⟨_,rfl,t,rfl,⟨_,SqT.of ht⟩,?_⟩
  have hw:∀i,0<=walkM rs 0 (ns.take i)/\walkM rs 0 (ns.take i)<(rs.length:Int):=fun i=>walk_in G _ _ (Int.le_refl 0) (by omega) fun l hl=>hx l (List.mem_of_mem_take hl)
  refine for_tup (K:=K) (a:=t) (xs:=ns.map V.int) (fun i σ H2=>∃v3:Option V,σ=[some (.ref r),some (.ref t),some (.int (walkM rs 0 (ns.take i))),v3]/\H2=H) ⟨none,rfl,rfl⟩ (fun i σ H2 _ ⟨_,_,e⟩=>by rw[e];exact SqT.of ht) ?_ ?_
  ·rintro i x σ H2 ex ⟨v3,rfl,rfl⟩
   rw[List.getElem?_map] at ex
   obtain⟨l,el,rfl⟩:=Option.map_eq_some_iff.mp ex
   obtain⟨l0,l1⟩:=hx l (List.mem_of_getElem? el)
   obtain⟨q,z,zs,a1,a2,a3,a4⟩:=room_at G hR (hw i).1 (hw i).2
   refine⟨_,rfl,_,rfl,r,_,_,_,rfl,rfl,sq_or hq,a1,q,_,_,_,rfl,rfl,SqT.of a2,rfl,_,rfl,z,_,_,_,rfl,rfl,sq_or a3,a4 l l0 l1,?_⟩
   have e1:=walk_take rs 0 ns i l el
   refine⟨some (.int l),?_,rfl⟩
   rw[e1]
   rfl
  ·rintro σ H2 ⟨v3,rfl,rfl⟩
   rw[List.length_map,List.take_length]
   exact⟨_,rfl,k⟩
end
end BG
namespace BG
open PySem L2
structure Clq (n:Nat)(ad:Int->Int->Bool)(r:List Int):Prop where
 inc:r.Pairwise (· < ·)
 ran:∀x∈r,0<=x/\x<(n:Int)
 far:r.Pairwise fun a b=>ad a b=true
theorem Clq.cons {n:Nat}{ad:Int->Int->Bool}{x:Int}{r:List Int}(h:Clq n ad (x::r)):Clq n ad r/\(0<=x/\x<(n:Int))/\(∀y∈r,x<y)/\∀y∈r,ad x y=true:=by
 obtain⟨h1,h2⟩:=List.pairwise_cons.mp h.inc
 obtain⟨h3,h4⟩:=List.pairwise_cons.mp h.far
 exact⟨⟨h2,fun y hy=>h.ran y (List.mem_cons_of_mem _ hy),h4⟩,h.ran x List.mem_cons_self,h1,h3⟩
theorem Clq.mk' {n:Nat}{ad:Int->Int->Bool}{x:Int}{r:List Int}(h:Clq n ad r)(hx:0<=x/\x<(n:Int))(h1:∀y∈r,x<y)(h2:∀y∈r,ad x y=true):Clq n ad (x::r):=
 ⟨List.pairwise_cons.mpr ⟨h1,h.inc⟩,fun y hy=>(List.mem_cons.mp hy).elim (fun e=>by rw[e];exact hx) (h.ran y),List.pairwise_cons.mpr ⟨h2,h.far⟩⟩
theorem Clq.nil {n:Nat}{ad:Int->Int->Bool}:Clq n ad []:=⟨.nil,fun x hx=>by(cases hx),.nil⟩
def IsF (C:List Int->Prop):Option (List Int)->Prop
 |none=>∀r,¬C r
 |some r=>C r/\∀r',C r'->HT.lexLt r' r=false
theorem IsF.iff {C C':List Int->Prop}(e:∀r,C r↔C' r):∀{o:Option (List Int)},IsF C o->IsF C' o
 |none,h=>fun r q=>h r ((e r).mpr q)
 |some r,h=>⟨(e r).mp h.1,fun r' q=>h.2 r' ((e r').mpr q)⟩
def CL (n:Nat)(ad:Int->Int->Bool)(ls:List Int)(m:Nat)(r:List Int):Prop:=Clq n ad r/\r.length=m/\∀x∈r,x∈ls
def nearM (n:Nat)(ad:Int->Int->Bool)(x:Int):List Int:=(rangeI (x+1) ((n:Int)-(x+1)).toNat).filter fun y=>ad x y
theorem mem_rangeI {lo:Int}{n:Nat}{y:Int}:y∈rangeI lo n↔lo<=y/\y<lo+(n:Int):=by
 unfold rangeI
 rw[List.mem_map]
 constructor
 ·rintro⟨k,hk,rfl⟩
  have:=List.mem_range.mp hk
  exact⟨by omega,by omega⟩
 ·rintro⟨h0,h1⟩
  exact⟨(y-lo).toNat,List.mem_range.mpr (by omega),by omega⟩
theorem rangeI_inc {lo:Int}{n:Nat}:(rangeI lo n).Pairwise (· < ·):=by
 unfold rangeI
 rw[List.pairwise_map]
 exact List.pairwise_lt_range.imp fun h=>by omega
theorem mem_near {n:Nat}{ad:Int->Int->Bool}{x y:Int}:y∈nearM n ad x↔(x<y/\y<(n:Int))/\ad x y=true:=by
 unfold nearM
 rw[List.mem_filter,mem_rangeI]
 constructor
 ·rintro⟨h1,h2⟩
  exact⟨⟨by omega,by omega⟩,h2⟩
 ·rintro⟨h1,h2⟩
  exact⟨⟨by omega,by omega⟩,h2⟩
theorem near_inc {n:Nat}{ad:Int->Int->Bool}{x:Int}:(nearM n ad x).Pairwise (· < ·):=List.Pairwise.filter _ rangeI_inc
theorem near_len {n:Nat}{ad:Int->Int->Bool}{x:Int}(hx:0<=x):(nearM n ad x).length<=n:=by
 unfold nearM
 refine Nat.le_trans (List.length_filter_le _ _) ?_
 unfold rangeI
 rw[List.length_map,List.length_range]
 omega
theorem rangeI_succ (lo:Int)(n:Nat):rangeI lo (n+1)=rangeI lo n++[lo+(n:Int)]:=by
 unfold rangeI
 rw[List.range_succ,List.map_append]
 rfl
theorem rangeI_len (lo:Int)(n:Nat):(rangeI lo n).length=n:=by
 unfold rangeI
 rw[List.length_map,List.length_range]
theorem rangeI_at {lo:Int}{n i:Nat}(h:i<n):(rangeI lo n)[i]?=some (lo+(i:Int)):=by
 unfold rangeI
 rw[List.getElem?_map,List.getElem?_range h]
 rfl
theorem CL.head {n m:Nat}{ad:Int->Int->Bool}{ls r:List Int}{x:Int}(h:CL n ad ls (m+1) (x::r)):x∈ls/\CL n ad ((nearM n ad x).filter fun y=>decide (y∈ls)) m r:=by
 obtain⟨h1,h2,h3⟩:=h
 obtain⟨c1,c2,c3,c4⟩:=h1.cons
 refine⟨h3 x List.mem_cons_self,c1,by simpa using h2,fun y hy=>?_⟩
 rw[List.mem_filter,mem_near,decide_eq_true_iff]
 exact⟨⟨⟨c3 y hy,(c1.ran y hy).2⟩,c4 y hy⟩,h3 y (List.mem_cons_of_mem _ hy)⟩
theorem CL.put {n m:Nat}{ad:Int->Int->Bool}{ls r:List Int}{x:Int}(hx:x∈ls)(hr:0<=x/\x<(n:Int))(h:CL n ad ((nearM n ad x).filter fun y=>decide (y∈ls)) m r):CL n ad ls (m+1) (x::r):=by
 obtain⟨h1,h2,h3⟩:=h
 have q:∀y∈r,(0<=y/\y<(n:Int))/\x<y/\ad x y=true/\y∈ls:=fun y hy=>by
  have:=h3 y hy
  rw[List.mem_filter,mem_near,decide_eq_true_iff] at this
  exact⟨⟨by omega,this.1.1.2⟩,this.1.1.1,this.1.2,this.2⟩
 refine⟨h1.mk' hr (fun y hy=>(q y hy).2.1) fun y hy=>(q y hy).2.2.1,by rw[List.length_cons,h2],fun y hy=>?_⟩
 rcases List.mem_cons.mp hy with e|e
 ·rw[e];exact hx
 ·exact(q y e).2.2.2
theorem first_step {n m i:Nat}{ad:Int->Int->Bool}{ls l:List Int}{x:Int}(inc:ls.Pairwise (· < ·))(hx:ls[i]?=some x)(hr:0<=x/\x<(n:Int))(hno:∀r,CL n ad ls (m+1) r->∀y t,r=y::t->y∉ls.take i)(h:IsF (CL n ad ((nearM n ad x).filter fun y=>decide (y∈ls)) m) (some l)):IsF (CL n ad ls (m+1)) (some (x::l)):=by
 refine⟨h.1.put (List.mem_of_getElem? hx) hr,fun r' hr'=>?_⟩
 cases r' with
 |nil=>have:=hr'.2.1;cases this
 |cons y t=>
  obtain⟨hy,ht⟩:=hr'.head
  have hnt:=hno _ hr' y t rfl
  obtain⟨j,hj,ej⟩:=List.getElem_of_mem hy
  have hij:i<=j:=Nat.le_of_not_lt fun q=>hnt (by rw[<- ej];exact List.mem_take_iff_getElem.mpr ⟨j,by omega,rfl⟩)
  rw[HT.lexLt_cons]
  by_cases e:y=x
  ·subst e
   rw[if_pos rfl]
   exact h.2 t ht
  ·rw[if_neg e]
   obtain⟨hi,ei⟩:=List.getElem?_eq_some_iff.mp hx
   have hlt:i<j:=Nat.lt_of_le_of_ne hij fun q=>e (by subst q;rw[<- ej,<- ei])
   have:=List.pairwise_iff_getElem.mp inc i j hi hj hlt
   exact decide_eq_false (by omega)
theorem first_no {n m i:Nat}{ad:Int->Int->Bool}{ls:List Int}{x:Int}(hx:ls[i]?=some x)(hno:∀r,CL n ad ls (m+1) r->∀y t,r=y::t->y∉ls.take i)(h:IsF (CL n ad ((nearM n ad x).filter fun y=>decide (y∈ls)) m) none):∀r,CL n ad ls (m+1) r->∀y t,r=y::t->y∉ls.take (i+1):=by
 rintro r hr y t rfl q
 rw[List.take_add_one,hx] at q
 rcases List.mem_append.mp q with q|q
 ·exact hno _ hr y t rfl q
 ·have e:y=x:=by simpa using q
  subst e
  exact h t hr.head.2
theorem first_end {n m:Nat}{ad:Int->Int->Bool}{ls:List Int}(hno:∀r,CL n ad ls (m+1) r->∀y t,r=y::t->y∉ls.take ls.length):IsF (CL n ad ls (m+1)) none:=by
 intro r hr
 cases r with
 |nil=>have:=hr.2.1;cases this
 |cons y t=>
  have:=hno _ hr y t rfl
  rw[List.take_length] at this
  exact this hr.head.1
def CX (n:Nat)(ad:Int->Int->Bool)(m:Nat)(tk r:List Int):Prop:=Clq n ad r/\r.length=m/\∃t,r=tk++t
end BG
namespace BG
open PySem L2 SO K20
open Classical in
noncomputable def adB (gs bs zl:List (List Int)) (i k:Int):Bool:=decide (∃t,AP gs bs (zl.getD i.toNat []) (zl.getD k.toNat []) t)
open Classical in
theorem adB_iff {gs bs zl:List (List Int)}{i k:Int}:adB gs bs zl i k=true↔∃t,AP gs bs (zl.getD i.toNat []) (zl.getD k.toNat []) t:=by
 unfold adB
 exact decide_eq_true_iff
theorem inc_len {n:Int}:∀(r:List Int) (a:Int),r.Pairwise (· < ·)->(∀x∈r,a<=x/\x<n)->r.length<=(n-a).toNat
 | [],_,_,_=>Nat.zero_le _
 |x::r,a,h,q=>by
  obtain⟨h1,h2⟩:=List.pairwise_cons.mp h
  have hx:=q x List.mem_cons_self
  have:=inc_len r (x+1) h2 fun y hy=>⟨by have:=h1 y hy;omega,(q y (List.mem_cons_of_mem _ hy)).2⟩
  rw[List.length_cons]
  omega
def TuO (H:Hp)(v:V):Option (List Int)->Prop
 |none=>v=.non
 |some r=>∃p,v=.ref p/\H p=some (.tup (r.map V.int))
section
variable {P:Program} {w:World} {K:W.Frag} {mg:Str->Option Value} {base:Heap}
def spAb:Sp:=fun vs H Q _=>∃(i:Int) (st g b:Addr) (zs:List (Addr×List Int)) (gs bs:List (List Int)),vs=[.int i,.ref st,.ref g,.ref b]/\H st=some (.tup (zs.map fun z=>V.ref z.1))/\(∀z∈zs,RA H z.1 z.2/\z.2.length<=8)/\RsT H g gs/\RsT H b bs/\gs.length<=24/\bs.length<=24/\(∀r∈gs,r.length<=8)/\zs.length<=500/\0<=i/\i<zs.length∧
 ∀(l:Addr) (H':Hp),Same H H'->H l=none->H' l=some (.lst ((nearM zs.length (adB gs bs (zs.map (·.2))) i).map V.int))->Q (.ref l) H'
abbrev nAb:List Str:=["number","starts","good","bad","here"]
theorem scAb:FnScope nAb ["number","starts","good","bad"] (defScope sAb):=.of (by decide +kernel)
def scopeAb:Scope:=⟨.function,[(".0",.local),("other",.local),("apart",.globalImplicit),("bad",.free),("good",.free),("here",.free),("starts",.free)],false,false,[]⟩
theorem scAb1:BlkScope (defScope sAb) nAb ["other"] ["bad","good","here","starts"] [3,2,4,1] scopeAb:=.of (by decide +kernel)
theorem zs_at {zs:List (Addr×List Int)}{i:Int}(h0:0<=i)(h1:i<zs.length):∃z,z∈zs/\atI (zs.map fun z=>V.ref z.1) i=some (.ref z.1)/\(zs.map (·.2)).getD i.toNat []=z.2:=by
 obtain⟨z,hz,_,e⟩:=atI_some zs i h0 h1
 exact⟨z,hz,atI_int h0 (by rw[List.getElem?_map,e];rfl),getD_of (by rw[List.getElem?_map,e];rfl)⟩
theorem ok_ab (F:Fun K "apart_behind" "apart_behind" sAb f fd)(T:Txt mg)
  (FA:Fun K "apart" "apart" sAp fA fdA) (bA:Binds K fdA ["good","bad","one","other"] []) (gA:mg "apart"=some (.ref fA)) (GA:FnOk P w K mg base CX0 3 fA fdA ["good","bad","one","other"] spAp):
  FnOk P w K mg base CX0 4 f fd ["number","starts","good","bad"] spAb:=by
 refine F.ok scAb (fun vs H Q E h=>?_) (fun cdv A outer s H vs Q E hr h=>?_)
 ·obtain⟨i,st,g,b,zs,gs,bs,rfl,_⟩:=h
  rfl
 ·obtain⟨i,st,g,b,zs,gs,bs,rfl,hst,hz,hg,hb,lg,lb,g8,lz,i0,i1,k⟩:=h
  refine⟨_,pss_cons (ps_set (i:=4) scAb.nd rfl (Or.inr rfl) (pe_ix ix_tup (pv 1) (pv 0) (fun _ _=>rfl)))
   (pss_one (ps_ret (pe_lc scAb1 rfl rfl rfl (pi_range2 rfl T.range (pa_cons (pe_op op_add (pv 0) pe_int) (pa_cons (pe_callB call_len_seq (by rfl) T.len PySem.boot_len (pa_cons (pv 1) pa_nil)) pa_nil))) (fun fp C s1 H1=>pg_name (i:=0) scAb1.nd rfl (Or.inl rfl))
    (fun fp C s1 H1=>pts_one (pt_cmpR op_notN (pe_call GA hr rfl gA FA.kp bA .nil pass0 (pa_cons (pv 2) (pa_cons (pv 1) (pa_cons (pv 3) (pa_cons (pe_ix (r:=rIxT K) ix_tup (pv 4) (pv 0) (fun _ _=>rfl)) pa_nil))))) pe_non (nomark _))) (fun fp C s1 H1=>pv 0)))),?_⟩
  obtain⟨z,hzm,hza,hzd⟩:=zs_at i0 i1
  have hzl:(zs.map fun z=>V.ref z.1).length=zs.length:=List.length_map _
  refine⟨_,rfl,_,rfl,st,_,_,_,rfl,rfl,SqT.of hst,hza,?_⟩
  refine⟨_,rfl,_,_,rfl,rfl,_,rfl,st,_,rfl,.inr (SqT.of hst),_,_,rfl,⟨by omega,by omega,by omega,by omega⟩,fun D hD=>?_⟩
  rw[hzl]
  refine lc_range (lo:=i+1) (n:=((zs.length:Int)-(i+1)).toNat) (fun j ys H2=>Same H H2/\H2 D=some (.lst ys)/\ys=((rangeI (i+1) j).filter fun y=>adB gs bs (zs.map (·.2)) i y).map V.int) (Nat.le_of_lt (small1000 (by omega)))
   ⟨(Same.refl H).upd_free hD,upd_same,rfl⟩ (fun j ys H2 h=>?_) ?_ ?_
  ·rw[h.2.2,List.length_map]
   refine Nat.le_trans (List.length_filter_le _ _) ?_
   rw[rangeI_len]
   exact Nat.le_refl _
  ·rintro j ys H2 N M hj ⟨u1,u2,rfl⟩ hN hM
   obtain⟨z2,hzm2,hza2,hzd2⟩:=zs_at (zs:=zs) (i:=i+1+(j:Int)) (by omega) (by omega)
   have hadd:adB gs bs (zs.map (·.2)) i (i+1+(j:Int))=true↔∃t,AP gs bs z.2 z2.2 t:=by
    rw[adB_iff,hzd,hzd2]
   have tk:(rangeI (i+1) (j+1)).filter (fun y=>adB gs bs (zs.map (·.2)) i y)=((rangeI (i+1) j).filter fun y=>adB gs bs (zs.map (·.2)) i y)++(if adB gs bs (zs.map (·.2)) i (i+1+(j:Int))=true then[i+1+(j:Int)] else[]):=by
    rw[rangeI_succ,List.filter_append]
    by_cases c:adB gs bs (zs.map (·.2)) i (i+1+(j:Int))=true
    ·rw[if_pos c];simp[c]
    ·rw[if_neg c];simp[c]
   have ra1:=u1 _ _ (hz z hzm).1
   have ra2:=u1 _ _ (hz z2 hzm2).1
   have l1:=(hz z hzm).2
   have l2:=(hz z2 hzm2).2
   refine⟨_,rfl,_,rfl,_,rfl,_,rfl,_,rfl,st,_,_,_,rfl,rfl,SqT.of (u1 _ _ hst),hza2,g,b,z.1,z2.1,gs,bs,z.2,z2.2,rfl,hg.same u1,hb.same u1,ra1,ra2,lg,lb,g8,by omega,by omega,fun H3 s3 hno=>?_,fun q t H3 s3 ra ap _=>?_⟩
   ·refine⟨rfl,_,rfl,iteFK (by simp) (hM H3 ⟨u1.trans s3,s3 _ _ u2,?_⟩)⟩
    rw[tk,if_neg (fun c=>by obtain⟨t,ap⟩:=hadd.mp c;exact hno t ap),List.append_nil]
   ·refine⟨rfl,_,rfl,iteTK (by simp) ⟨_,rfl,hN _ H3 (s3 _ _ u2) ⟨(u1.trans s3).upd_free hD,upd_same,?_⟩⟩⟩
    rw[tk,if_pos (hadd.mpr ⟨t,ap⟩),List.map_append]
    rfl
  ·rintro ys H2 ⟨u1,u2,rfl⟩
   exact k D H2 u1 hD u2
def NrA (H:Hp)(nr:Addr)(n:Nat)(ad:Int->Int->Bool):Prop:=∃qs:List Addr,H nr=some (.lst (qs.map V.ref))/\qs.length=n/\∀(i:Nat) (q:Addr),qs[i]?=some q->H q=some (.lst ((nearM n ad (i:Int)).map V.int))
theorem NrA.same {H H':Hp}{nr:Addr}{n:Nat}{ad:Int->Int->Bool}(h:NrA H nr n ad)(s:Same H H'):NrA H' nr n ad:=by
 obtain⟨qs,h1,h2,h3⟩:=h
 exact⟨qs,s _ _ h1,h2,fun i q e=>s _ _ (h3 i q e)⟩
def spFl (d:Nat):Sp:=fun vs H Q _=>∃(l nr:Addr) (m n:Nat) (ls:List Int) (ad:Int->Int->Bool),vs=[.ref l,.ref nr,.int (m:Int)]/\m<d/\H l=some (.lst (ls.map V.int))/\NrA H nr n ad/\ls.Pairwise (· < ·)/\(∀x∈ls,0<=x/\x<(n:Int))/\ls.length<=500/\n<=500∧
 ∀(v:V) (o:Option (List Int)) (H':Hp),Same H H'->IsF (CL n ad ls m) o->TuO H' v o->Q v H'
abbrev nFl:List Str:=["left","near","size","number","others"]
theorem scFl:FnScope nFl ["left","near","size"] (defScope sFl):=.of (by decide +kernel)
def scopeFl:Scope:=⟨.function,[(".0",.local),("other",.local),("left",.free)],false,false,[]⟩
theorem scFl1:BlkScope (defScope sFl) nFl ["other"] ["left"] [0] scopeFl:=.of (by decide +kernel)
theorem ok_fl (F:Fun K "first_lonely" "first_lonely" sFl f fd)(bF:Binds K fd ["left","near","size"] [])(gF:mg "first_lonely"=some (.ref f)):∀d:Nat,FnOk P w K mg base CX0 (d+1) f fd ["left","near","size"] (spFl d)
 |0=>by
  refine F.ok scFl (fun vs H Q E h=>?_) (fun cdv A outer s H vs Q E hr h=>?_)
  ·obtain⟨l,nr,m,n,ls,ad,rfl,_⟩:=h
   rfl
  ·obtain⟨l,nr,m,n,ls,ad,rfl,hm,_⟩:=h
   exact absurd hm (Nat.not_lt_zero _)
 |d+1=>by
  have GF:=ok_fl F bF gF d
  refine F.ok scFl (fun vs H Q E h=>?_) (fun cdv A outer s H vs Q E hr h=>?_)
  ·obtain⟨l,nr,m,n,ls,ad,rfl,_⟩:=h
   rfl
  ·obtain⟨l,nr,m,n,ls,ad,rfl,hm,hl,hn,inc,ran,l500,n500,k⟩:=h
   refine⟨_,pss_cons (ps_if (pt_cmpR op_eq (pv 2) pe_int (nomark _)) (pss_one (ps_ret (pe_tup pa_nil))) pss_nil)
    (pss_cons (ps_for PassesOwn.never rfl (pi_list (pv 0)) (pg_name (i:=3) scFl.nd rfl (Or.inl rfl))
     (pss_cons (ps_cut (ps_set (i:=4) scFl.nd rfl (Or.inl rfl) (pe_call GF hr rfl gF F.kp bF .nil pass0 (pa_cons (pe_lc scFl1 rfl rfl rfl (pi_list (pe_ix ix_list (pv 1) (pv 3) (fun _ _=>rfl))) (fun fp C s1 H1=>pg_name (i:=0) scFl1.nd rfl (Or.inl rfl))
      (fun fp C s1 H1=>pts_one (pt_cmpR (r:=rIn K false) op_in_seq (pv 0) (pv 1) (by with_unfolding_all rfl))) (fun fp C s1 H1=>pv 0)) (pa_cons (pv 1) (pa_cons (pe_op op_sub (pv 2) pe_int) pa_nil))))))
     (pss_one (ps_if (pt_cmpR op_notN (pv 4) pe_non (nomark _)) (pss_one (ps_ret (pe_op op_catA (pe_tup (pa_cons (pv 3) pa_nil)) (pv 4)))) pss_nil))))
    (pss_one (ps_ret pe_non))),?_⟩
   refine⟨_,rfl,rfl,_,rfl,?_⟩
   refine ite2 (fun h0=>?_) (fun h0=>?_)
   ·have hm0:m=0:=by
     have:=of_decide_eq_true h0
     injection this with e
     omega
    subst hm0
    refine⟨Nat.zero_le _,fun p hp=>?_⟩
    refine k (.ref p) (some []) _ ((Same.refl H).upd_free hp) ⟨⟨.nil,rfl,fun x hx=>by(cases hx)⟩,fun r' hr'=>?_⟩ ⟨p,rfl,upd_same⟩
    have:=hr'.2.1
    cases r' with
    |nil=>rfl
    |cons x r=>cases this
   ·obtain⟨m',rfl⟩:∃m',m=m'+1:=by
     cases m with
     |zero=>exact absurd (decide_eq_true rfl) h0
     |succ m'=>exact⟨m',rfl⟩
    refine⟨_,rfl,l,rfl,⟨_,SqL.of hl⟩,?_⟩
    refine for_list (K:=K) (a:=l) (xs:=ls.map V.int) (fun i σ H2=>∃v3 v4:Option V,σ=[some (.ref l),some (.ref nr),some (.int ((m'+1:Nat):Int)),v3,v4]/\Same H H2/\∀r,CL n ad ls (m'+1) r->∀y t,r=y::t->y∉ls.take i) ⟨none,none,rfl,Same.refl H,fun r _ y t _ h=>by cases h⟩ (fun i σ H2 _ ⟨_,_,_,h,_⟩=>SqL.of (h _ _ hl)) ?_ ?_
    ·rintro i x σ H2 hx ⟨v3,v4,rfl,s2,hno⟩
     rw[List.getElem?_map] at hx
     obtain⟨x,ex,rfl⟩:=Option.map_eq_some_iff.mp hx
     have hxr:=ran x (List.mem_of_getElem? ex)
     obtain⟨qs,hn1,hn2,hn3⟩:=hn.same s2
     obtain⟨q,_,_,eq⟩:=atI_some qs x hxr.1 (by rw[hn2];exact hxr.2)
     have hq:=hn3 _ q eq
     rw[show((x.toNat:Nat):Int)=x by omega] at hq
     refine⟨fun σ' H'=>∃(v:V) (o:Option (List Int)),σ'=[some (.ref l),some (.ref nr),some (.int ((m'+1:Nat):Int)),some (.int x),some v]/\Same H2 H'/\IsF (CL n ad ((nearM n ad x).filter fun y=>decide (y∈ls)) m') o/\TuO H' v o,?_,?_⟩
     ·refine⟨_,rfl,_,rfl,nr,_,_,.ref q,rfl,rfl,SqL.of hn1,atI_int hxr.1 (by rw[List.getElem?_map,eq];rfl),q,rfl,⟨_,SqL.of hq⟩,fun D hD=>?_⟩
      have hnl:=near_len (n:=n) (ad:=ad) hxr.1
      refine lc_list (K:=K) (a:=q) (xs:=(nearM n ad x).map V.int) (fun j ys H3=>Same H2 H3/\H3 D=some (.lst ys)/\ys.length<=j/\ys=(((nearM n ad x).take j).filter fun y=>decide (y∈ls)).map V.int) (Nat.le_of_lt (small1000 (by rw[List.length_map];omega)))
       ⟨(Same.refl H2).upd_free hD,upd_same,Nat.le_refl _,rfl⟩ (fun j ys H3 h=>h.2.2.1) (fun j ys H3 h=>SqL.of (h.1 _ _ hq)) ?_ ?_
      ·rintro j ys H3 y N M hy ⟨u1,u2,u3,rfl⟩ hN hM
       rw[List.getElem?_map] at hy
       obtain⟨y,ey,rfl⟩:=Option.map_eq_some_iff.mp hy
       have tk:(nearM n ad x).take (j+1)=(nearM n ad x).take j++[y]:=by rw[List.take_add_one,ey];rfl
       refine⟨_,rfl,_,rfl,l,_,rfl,.inl (SqL.of ((s2.trans u1) _ _ hl)),rfl,flat_ints ls,_,rfl,?_⟩
       show(if inV (.int y) (ls.map V.int)=true then _ else _)
       rw[inV_nums]
       by_cases c:y∈ls
       ·refine iteTK (decide_eq_true c) ⟨_,rfl,hN _ H3 u2 ⟨u1.upd_free hD,upd_same,by rw[List.length_append,List.length_singleton];omega,?_⟩⟩
        rw[tk,List.filter_append,List.map_append]
        simp[c]
       ·refine iteFK (decide_eq_false c) (hM H3 ⟨u1,u2,by omega,?_⟩)
        rw[tk,List.filter_append,List.map_append]
        simp[c]
      ·rintro ys H3 ⟨u1,u2,u3,rfl⟩
       rw[List.length_map,List.take_length] at u2
       refine⟨_,rfl,_,rfl,_,_,rfl,rfl,D,nr,m',n,_,ad,?_,by omega,u2,⟨qs,u1 _ _ hn1,hn2,fun i q e=>u1 _ _ (hn3 i q e)⟩,List.Pairwise.filter _ near_inc,fun y hy=>?_,?_,n500,fun v o H4 s4 ho hv=>⟨v,o,rfl,u1.trans s4,ho,hv⟩⟩
       ·have:((m'+1:Nat):Int)-1=(m':Int):=by omega
        show[V.ref D,V.ref nr,V.int (((m'+1:Nat):Int)-1)]=_
        rw[this]
       ·have:=mem_near.mp (List.mem_filter.mp hy).1
        exact⟨by omega,this.1.2⟩
       ·exact Nat.le_trans (List.length_filter_le _ _) (by omega)
     rintro σ' H3 ⟨v,o,rfl,s3,ho,hv⟩
     cases o with
     |none=>
      cases(show v=.non from hv)
      refine⟨_,rfl,rfl,_,rfl,iteFK (by simp) ?_⟩
      exact⟨_,_,rfl,s2.trans s3,first_no ex hno ho⟩
     |some r=>
      obtain⟨p,rfl,hp⟩:=hv
      refine⟨_,rfl,rfl,_,rfl,iteTK (by simp) ?_⟩
      refine⟨_,rfl,(by show 1<=sizeLine;decide),fun p1 hp1=>?_⟩
      have s4:=(Same.refl H3).upd_free (o:=.tup [.int x]) hp1
      have q1:upd H3 p1 (.tup [.int x]) p1=some (.tup [.int x]):=upd_same
      generalize upd H3 p1 (.tup [.int x])=H4 at s4 q1
      have hrl:r.length=m':=ho.1.2.1
      have hrn:r.length<=500:=by
       have:=inc_len r 0 ho.1.1.inc ho.1.1.ran
       omega
      refine⟨_,rfl,p1,p,_,_,rfl,rfl,q1,s4 _ _ hp,?_,fun p2 H5 s5 hp2=>?_⟩
      ·rw[List.length_map]
       show 1+r.length<=_
       exact Nat.le_of_lt (small1000 (by omega))
      ·refine k (.ref p2) (some (x::r)) H5 (((s2.trans s3).trans s4).trans s5) (first_step inc ex hxr hno ho) ⟨p2,rfl,?_⟩
       rw[List.map_cons]
       exact hp2
    ·rintro σ H2 ⟨v3,v4,rfl,s2,hno⟩
     rw[List.length_map] at hno
     exact k .non none H2 s2 (first_end hno) rfl
end
end BG
namespace BG
open PySem L2 SO K20
def RuO (H:Hp)(v:V)(zl:List (List Int)):Option (List Int)->Prop
 |none=>v=.non
 |some r=>∃p ps,v=.ref p/\H p=some (.tup (ps.map V.ref))/\TupsAt H ps (r.map fun i=>zl.getD i.toNat [])
section
variable {P:Program} {w:World} {K:W.Frag} {mg:Str->Option Value} {base:Heap}
def spLo:Sp:=fun vs H Q _=>∃(g b:Addr) (gs bs:List (List Int)) (m:Nat),vs=[.ref g,.ref b,.int (m:Int)]/\RsT H g gs/\RsT H b bs/\gs.length<=24/\bs.length<=24/\(∀r∈gs++bs,r.length<=8)/\Cnt (gs++bs) 63/\m<=6∧
 ∀(v:V) (zl:List (List Int)) (o:Option (List Int)) (H':Hp),Same H H'->Srt zl->(∀ns,ns∈zl↔isB (gs++bs) ns)->IsF (fun r=>Clq zl.length (adB gs bs zl) r/\r.length=m) o->RuO H' v zl o->Q v H'
abbrev nLo:List Str:=["good","bad","size","starts","numbers","near","chosen"]
theorem scLo:FnScope nLo ["good","bad","size"] (defScope sLo):=.of (by decide +kernel)
def scopeLo1:Scope:=⟨.function,[(".0",.local),("number",.local),("apart_behind",.globalImplicit),("bad",.free),("good",.free),("starts",.free)],false,false,[]⟩
def scopeLo2:Scope:=⟨.function,[(".0",.local),("number",.local),("starts",.free)],false,false,[]⟩
theorem scLo1:BlkScope (defScope sLo) nLo ["number"] ["bad","good","starts"] [1,0,3] scopeLo1:=.of (by decide +kernel)
theorem scLo2:BlkScope (defScope sLo) nLo ["number"] ["starts"] [3] scopeLo2:=.of (by decide +kernel)
theorem ok_lo (F:Fun K "lonely" "lonely" sLo f fd)(T:Txt mg)
  (FB:Fun K "beginnings" "beginnings" sBg fB fdB) (bB:Binds K fdB ["good","bad"] []) (gB:mg "beginnings"=some (.ref fB)) (GB:FnOk P w K mg base CX0 4 fB fdB ["good","bad"] spBg)
  (FA:Fun K "apart_behind" "apart_behind" sAb fA fdA) (bA:Binds K fdA ["number","starts","good","bad"] []) (gA:mg "apart_behind"=some (.ref fA)) (GA:FnOk P w K mg base CX0 4 fA fdA ["number","starts","good","bad"] spAb)
  (FF:Fun K "first_lonely" "first_lonely" sFl fF fdF) (bF:Binds K fdF ["left","near","size"] []) (gF:mg "first_lonely"=some (.ref fF)) (GF:FnOk P w K mg base CX0 8 fF fdF ["left","near","size"] (spFl 7)):
  FnOk P w K mg base CX0 9 f fd ["good","bad","size"] spLo:=by
 refine F.ok scLo (fun vs H Q E h=>?_) (fun cdv A outer s H vs Q E hr h=>?_)
 ·obtain⟨g,b,gs,bs,m,rfl,_⟩:=h
  rfl
 ·obtain⟨g,b,gs,bs,m,rfl,hg,hb,lg,lb,hsh,hC,hm6,k⟩:=h
  have hr4:Room 4 _:=hr.mono (by decide)
  refine⟨_,pss_cons (ps_set (i:=3) scLo.nd rfl (Or.inr rfl) (pe_call GB hr4 rfl gB FB.kp bB .nil pass0 (pa_cons (pv 0) (pa_cons (pv 1) pa_nil))))
   (pss_cons (ps_set (i:=4) scLo.nd rfl (Or.inl rfl) (pe_callTy (call_list_rng rfl) (by rfl) T.list PyProof.Rows.boot_list (pa_cons (pe_callTy call_rng1 (by rfl) T.range PyProof.Rows.boot_range (pa_cons (pe_callB call_len_seq (by rfl) T.len PySem.boot_len (pa_cons (pv 3) pa_nil)) pa_nil)) pa_nil)))
   (pss_cons (ps_setlc (i:=5) scLo1 rfl rfl rfl (pi_list (pv 4)) (fun fp C s1 H1=>pg_name (i:=0) scLo1.nd rfl (Or.inl rfl)) (fun fp C s1 H1=>pts_nil)
    (fun fp C s1 H1=>pe_call GA hr4 rfl gA FA.kp bA .nil pass0 (pa_cons (pv 0) (pa_cons (pv 3) (pa_cons (pv 2) (pa_cons (pv 1) pa_nil))))) scLo.nd rfl rfl rfl)
   (pss_cons (ps_set (i:=6) scLo.nd rfl (Or.inl rfl) (pe_call GF hr rfl gF FF.kp bF .nil pass0 (pa_cons (pv 4) (pa_cons (pv 5) (pa_cons (pv 2) pa_nil)))))
   (pss_one (ps_ret (pe_ifExp (pt_cmpR op_isN (pv 6) pe_non (nomark _)) pe_non (pe_callTy call_tuple_of (by rfl) T.tuple PyProof.Rows.boot_tuple (pa_cons (pe_lc scLo2 rfl rfl rfl (pi_tup (pv 6)) (fun fp C s1 H1=>pg_name (i:=0) scLo2.nd rfl (Or.inl rfl)) (fun fp C s1 H1=>pts_nil)
    (fun fp C s1 H1=>pe_ix (r:=rIxT K) ix_tup (pv 1) (pv 0) (fun _ _=>rfl))) pa_nil)))))))),?_⟩
  refine⟨_,rfl,_,rfl,g,b,gs,bs,rfl,hg,hb,lg,lb,hsh,hC.few (by decide),fun st zs H1 s1 hst hz=>?_⟩
  have hz400:=hC.len hz
  have hzl:(zs.map fun z=>V.ref z.1).length=zs.length:=List.length_map _
  refine⟨_,rfl,st,_,rfl,.inr (SqT.of hst),_,rfl,fun rg hrg=>?_⟩
  rw[hzl]
  have s2:=(Same.refl H1).upd_free (o:=.rng 0 (zs.length:Int)) hrg
  have q2:upd H1 rg (.rng 0 (zs.length:Int)) rg=some (.rng 0 (zs.length:Int)):=upd_same
  generalize upd H1 rg (.rng 0 (zs.length:Int))=H2 at s2 q2
  refine⟨rg,0,(zs.length:Int),rfl,q2,by omega,by omega,by omega,by omega,by omega,fun ln hln=>?_⟩
  have en:((zs.length:Int)-0).toNat=zs.length:=by omega
  rw[en]
  have s3:=(Same.refl H2).upd_free (o:=.lst ((rangeI 0 zs.length).map V.int)) hln
  have q3:upd H2 ln (.lst ((rangeI 0 zs.length).map V.int)) ln=some (.lst ((rangeI 0 zs.length).map V.int)):=upd_same
  generalize upd H2 ln (.lst ((rangeI 0 zs.length).map V.int))=H3 at s3 q3
  have s13:=s2.trans s3
  have sH3:=s1.trans s13
  refine⟨_,rfl,ln,rfl,⟨_,SqL.of q3⟩,fun D hD=>?_⟩
  have hg8:∀r∈gs,r.length<=8:=fun r hr'=>hsh r (List.mem_append_left _ hr')
  have hll:((rangeI 0 zs.length).map V.int).length=zs.length:=by rw[List.length_map,rangeI_len]
  refine lc_list (K:=K) (a:=ln) (xs:=(rangeI 0 zs.length).map V.int) (fun i ys H4=>Same H3 H4/\H4 D=some (.lst ys)/\∃qs:List Addr,ys=qs.map V.ref/\qs.length=i/\∀(j:Nat) (q:Addr),qs[j]?=some q->q≠D/\H4 q=some (.lst ((nearM zs.length (adB gs bs (zs.map (·.2))) (j:Int)).map V.int))) (Nat.le_of_lt (small1000 (by omega)))
   ⟨(Same.refl H3).upd_free hD,upd_same,[],rfl,rfl,fun j q e=>by simp at e⟩ (fun i ys H4 ⟨_,_,qs,e,h,_⟩=>by rw[e,List.length_map,h];exact Nat.le_refl _) (fun i ys H4 h=>SqL.of (h.1 _ _ q3)) ?_ ?_
  ·rintro i ys H4 x N M hx ⟨u1,u2,qs,rfl,hql,hqs⟩ hN hM
   have hi:i<zs.length:=by
    have:=(List.getElem?_eq_some_iff.mp hx).1
    omega
   rw[List.getElem?_map,rangeI_at hi] at hx
   cases hx
   have s14:=s13.trans u1
   refine⟨_,rfl,_,rfl,_,rfl,_,rfl,(0+(i:Int)),st,g,b,zs,gs,bs,rfl,s14 _ _ hst,fun z hz'=>⟨s14 _ _ (hz.at' z hz'),hz.sh z hz'⟩,hg.same (s1.trans s14),hb.same (s1.trans s14),lg,lb,hg8,by omega,by omega,by omega,fun l H5 s5 hl5 hl=>?_⟩
   rw[Int.zero_add] at hl
   have nlD:l≠D:=fun e=>by rw[e] at hl5;rw[hl5] at u2;cases u2
   refine hN _ H5 (s5 _ _ u2) ⟨(u1.trans s5).upd_free hD,upd_same,qs++[l],by rw[List.map_append];rfl,by rw[List.length_append,hql];rfl,fun j q e=>?_⟩
   by_cases hj:j<qs.length
   ·rw[List.getElem?_append_left hj] at e
    obtain⟨e1,e2⟩:=hqs j q e
    exact⟨e1,by rw[upd_ne e1];exact s5 _ _ e2⟩
   ·rw[List.getElem?_append_right (by omega)] at e
    have ej:j-qs.length=0:=by
     have:=(List.getElem?_eq_some_iff.mp e).1
     simp at this
     omega
    rw[ej] at e
    cases e
    have:j=i:=by omega
    subst this
    exact⟨nlD,by rw[upd_ne nlD];exact hl⟩
  ·rintro ys H4 ⟨u1,u2,qs,rfl,hql,hqs⟩
   rw[hll] at hql
   have hmem:∀x∈rangeI 0 zs.length,0<=x/\x<(zs.length:Int):=fun x hx=>by
    have:=mem_rangeI.mp hx
    omega
   refine⟨_,rfl,_,rfl,_,rfl,ln,D,m,zs.length,rangeI 0 zs.length,adB gs bs (zs.map (·.2)),rfl,by omega,u1 _ _ q3,⟨qs,u2,hql,fun i q e=>(hqs i q e).2⟩,rangeI_inc,hmem,by rw[rangeI_len];omega,by omega,fun v o H5 s5 ho hv=>?_⟩
   have s15:=s13.trans (u1.trans s5)
   have ho':IsF (fun r=>Clq (zs.map (·.2)).length (adB gs bs (zs.map (·.2))) r/\r.length=m) o:=by
    rw[List.length_map]
    refine ho.iff fun r=>⟨fun h=>⟨h.1,h.2.1⟩,fun h=>⟨h.1,h.2,fun x hx=>mem_rangeI.mpr ?_⟩⟩
    have:=h.1.ran x hx
    omega
   cases o with
   |none=>
    cases(show v=.non from hv)
    exact⟨_,rfl,rfl,_,rfl,iteTK (by simp) (k .non (zs.map (·.2)) none H5 (s1.trans s15) hz.srt hz.mem ho' rfl)⟩
   |some r=>
    obtain⟨p,rfl,hp⟩:=hv
    refine⟨_,rfl,rfl,_,rfl,iteFK (by simp) ?_⟩
    have hr500:r.length<=zs.length:=by
     have:=inc_len r 0 ho.1.1.inc ho.1.1.ran
     omega
    refine⟨_,rfl,p,rfl,⟨_,SqT.of hp⟩,fun D2 hD2=>?_⟩
    refine lc_tup (K:=K) (a:=p) (xs:=r.map V.int) (fun i ys H6=>Same H5 H6/\H6 D2=some (.lst ys)/\∃ps:List Addr,ys=ps.map V.ref/\ps.length=i/\TupsAt H6 ps ((r.take i).map fun i=>(zs.map (·.2)).getD i.toNat [])) (Nat.le_of_lt (small1000 (by rw[List.length_map];omega)))
     ⟨(Same.refl H5).upd_free hD2,upd_same,[],rfl,rfl,tups_nil⟩ (fun i ys H6 ⟨_,_,ps,e,h,_⟩=>by rw[e,List.length_map,h];exact Nat.le_refl _) (fun i ys H6 h=>SqT.of (h.1 _ _ hp)) ?_ ?_
    ·rintro i ys H6 x N M hx ⟨w1,w2,ps,rfl,hpl,hT⟩ hN hM
     rw[List.getElem?_map] at hx
     obtain⟨x,ex,rfl⟩:=Option.map_eq_some_iff.mp hx
     have hxr:=ho.1.1.ran x (List.mem_of_getElem? ex)
     obtain⟨z,hzm,hza,hzd⟩:=zs_at (zs:=zs) hxr.1 hxr.2
     have s16:=s15.trans w1
     have tsD:TSame H6 (upd H6 D2 (.lst (ps.map V.ref++[.ref z.1]))):=TSame.upd_lst (fun _ _ e=>e) w2
     refine⟨_,rfl,_,rfl,st,_,_,_,rfl,rfl,SqT.of (s16 _ _ hst),hza,hN _ H6 w2 ⟨w1.upd_free hD2,upd_same,ps++[z.1],by rw[List.map_append];rfl,by rw[List.length_append,hpl];rfl,?_⟩⟩
     have tk:(r.take (i+1)).map (fun i=>(zs.map (·.2)).getD i.toNat [])=((r.take i).map fun i=>(zs.map (·.2)).getD i.toNat [])++[z.2]:=by
      rw[List.take_add_one,ex,List.map_append,<- hzd]
      rfl
     rw[tk]
     exact tups_snoc (hT.tsame tsD) (tsD _ _ (s16 _ _ (hz.at' z hzm)))
    ·rintro ys H6 ⟨w1,w2,ps,rfl,hpl,hT⟩
     rw[List.length_map,List.take_length] at hT
     refine⟨D2,_,rfl,.inl ⟨SqL.of w2,fun pt hpt=>?_⟩⟩
     have s7:=(Same.refl H6).upd_free (o:=.tup (ps.map V.ref)) hpt
     exact k (.ref pt) (zs.map (·.2)) (some r) _ (s1.trans (s15.trans (w1.trans s7))) hz.srt hz.mem ho' ⟨pt,ps,rfl,upd_same,hT.tsame s7.tups⟩
end
end BG
namespace BG
open PySem L2 SO K20 K21 K60 K23
theorem gdw_gd (rs:Rms)(r:List Int):gdw rs r=gd rs (walkM rs 0 r):=rfl
theorem wD_walk (rs:Rms)(r:List Int):wD (nextOf rs) r=walkM rs 0 r:=rfl
theorem least_size {many most:Int}{gs bs zl:List (List Int)}{rms:Rms}{ns ch:List Int}(R:RdOk many most gs bs zl)(h:rdM many most zl gs bs=some rms)(C:Cls rms many ns)(B:LB rms many ns ch ch.length):(minM rms ns ch).length=rms.length:=by
 have F:=rd_sound R h
 have Gm:=min_good F.good B
 have hl:(minM rms ns ch).length=ch.length:=by unfold minM;rw[List.length_map]
 have le:=ch_len B.nd B.ok
 have l2:=F.l2
 have pos:1<=ch.length:=(List.getElem?_eq_some_iff.mp B.hd).1
 have W:=min_whole F.good C B
 obtain⟨rms',e,hle⟩:=rd_full R (size:=(ch.length:Int)) (δ:=nextOf (minM rms ns ch)) (by omega) (by omega) (fun q q0 q1 x x0 x1=>by
  have:=next_in Gm q0 (by rw[hl];exact q1) x0 x1
  rw[hl] at this
  exact this) (fun r hr r' hr' z=>by
  have hx:Lts many r:=R.le r (List.mem_append_left _ hr)
  have hx':Lts many r':=R.le r' (List.mem_append_right _ hr')
  have y:=F.yes r hr
  have n:=F.no r' hr'
  rw[gdw_gd,W r hx] at y
  rw[gdw_gd,W r' hx'] at n
  rw[wD_walk,wD_walk] at z
  rw[z] at y
  rw[y] at n
  cases n)
 rw[h] at e
 cases e
 omega
theorem apart_rooms {many most:Int}{gs bs:List (List Int)}{rms:Rms}(F:Fits many most gs bs rms){a b t:List Int}(h:AP gs bs a b t):walkM rms 0 a≠walkM rms 0 b:=fun z=>by
 have e:walkM rms 0 (a++t)=walkM rms 0 (b++t):=by rw[walk_app,walk_app,z]
 rcases h with⟨h1,h2⟩|⟨h1,h2⟩
 ·have y:=F.yes _ h1
  have n:=F.no _ h2
  rw[gdw_gd] at y n
  rw[e,n] at y
  cases y
 ·have y:=F.yes _ h1
  have n:=F.no _ h2
  rw[gdw_gd] at y n
  rw[<- e,n] at y
  cases y
theorem clq_rooms {many most:Int}{gs bs zl:List (List Int)}{rms:Rms}(R:RdOk many most gs bs zl)(F:Fits many most gs bs rms){r:List Int}(h:Clq zl.length (adB gs bs zl) r):
  (r.map fun x=>walkM rms 0 (zl.getD x.toNat [])).Nodup/\∀v∈r.map fun x=>walkM rms 0 (zl.getD x.toNat []),0<=v/\v<(rms.length:Int):=by
 have l1:=F.l1
 constructor
 ·refine List.pairwise_map.mpr (h.far.imp fun {a b} q=>?_)
  obtain⟨t,ht⟩:=adB_iff.mp q
  exact apart_rooms F ht
 ·intro v hv
  obtain⟨x,hx,rfl⟩:=List.mem_map.mp hv
  have hr:=h.ran x hx
  have hm:zl.getD x.toNat []∈zl:=by
   have hlt:x.toNat<zl.length:=by omega
   rw[List.getD_eq_getElem?_getD,List.getElem?_eq_getElem hlt]
   exact List.getElem_mem hlt
  exact walk_in F.good _ 0 (Int.le_refl 0) (by omega) (R.let' _ hm)
theorem clq_len {many most:Int}{gs bs zl:List (List Int)}{rms:Rms}(R:RdOk many most gs bs zl)(F:Fits many most gs bs rms){r:List Int}(h:Clq zl.length (adB gs bs zl) r):r.length<=rms.length:=by
 obtain⟨h1,h2⟩:=clq_rooms R F h
 have:=nodup_le rms.length _ h1 h2
 rw[List.length_map] at this
 exact this
theorem isB_isB {rs qs:List (List Int)}(h:∀q∈qs,isB rs q){ns:List Int}(hn:isB qs ns):isB rs ns:=by
 rcases hn with e|⟨q,hq,j,hj,e⟩
 ·exact .inl e
 ·rcases h q hq with e2|⟨r,hr,i,hi,e2⟩
  ·subst e2
   exact .inl (by rw[e];simp)
  ·refine .inr ⟨r,hr,min j i,by omega,?_⟩
   rw[e,e2,List.take_take]
open Classical in
theorem again_ok {many most:Int}{gs bs zl:List (List Int)}{rms:Rms}(R:RdOk many most gs bs zl)(h:rdM many most zl gs bs=some rms){g2 b2:List (List Int)}(hg:∀r∈g2,isB (gs++bs) r/\gdw rms r=true)(hb:∀r∈b2,isB (gs++bs) r/\gdw rms r=false)(lg:g2.length<=12)(lb:b2.length<=12):
  ∃zl2 rms2,RdOk many most g2 b2 zl2/\rdM many most zl2 g2 b2=some rms2/\rms2.length<=rms.length:=by
 have F:=rd_sound R h
 have hall:∀r∈g2++b2,isB (gs++bs) r:=fun r hr=>by
  rcases List.mem_append.mp hr with q|q
  ·exact(hg r q).1
  ·exact(hb r q).1
 have hzl:∀r∈g2++b2,r∈zl:=fun r hr=>(R.mem r).mpr (hall r hr)
 have R2:RdOk many most g2 b2 (zl.filter fun ns=>decide (isB (g2++b2) ns)):=by
  refine⟨R.m0,R.m1,R.o0,R.o1,lg,lb,fun r hr=>?_,fun r hr=>R.let' r (hzl r hr),fun r hr hr'=>?_,List.Pairwise.filter _ R.srt,fun ns=>?_,Nat.le_trans (List.length_filter_le _ _) R.len,?_⟩
  ·rcases hall r hr with e|⟨q,hq,j,hj,e⟩
   ·rw[e];exact Nat.zero_le _
   ·have:=R.sh q hq
    rw[e,List.length_take]
    omega
  ·have y:=(hg r hr).2
   rw[(hb r hr').2] at y
   cases y
  ·rw[List.mem_filter,R.mem,decide_eq_true_iff]
   exact⟨fun q=>q.2,fun q=>⟨isB_isB hall q,q⟩⟩
  ·rcases R.wide with q|q
   ·exact .inl q
   ·exact .inr (Nat.le_trans (List.length_filter_le _ _) q)
 have l1:=F.l1
 obtain⟨rms2,e,hle⟩:=rd_full R2 (size:=(rms.length:Int)) (δ:=nextOf rms) (by omega) F.l2 (fun q q0 q1 x x0 x1=>next_in F.good q0 q1 x0 x1) (fun r hr r' hr' z=>by
  have y:=(hg r hr).2
  have n:=(hb r' hr').2
  rw[gdw_gd] at y n
  rw[wD_walk,wD_walk] at z
  rw[z,n] at y
  cases y)
 exact⟨_,rms2,R2,e,by omega⟩
end BG
namespace L2
open PySem PySem.Spec PyProof.Rows
theorem dedup_nd:∀(ns σ:List Int),ns.Nodup->(∀x∈ns,x∉σ)->ns.foldl step_dedup σ=σ++ns
 | [],σ,_,_=>(List.append_nil σ).symm
 |v::ns,σ,hn,hd=>by
  have hv:=hd v List.mem_cons_self
  obtain⟨h1,h2⟩:=List.nodup_cons.mp hn
  have e:step_dedup σ v=σ++[v]:=by
   unfold step_dedup
   rw[if_neg]
   intro z
   obtain⟨x,hx,ex⟩:=List.any_eq_true.mp z
   have:x=v:=by simpa using ex
   exact hv (this▸hx)
  rw[List.foldl_cons,e,dedup_nd ns _ h2 (fun x hx z=>by
   rcases List.mem_append.mp z with q|q
   ·exact hd x (List.mem_cons_of_mem _ hx) q
   ·rw[List.mem_singleton] at q
    exact h1 (q▸hx)),List.append_assoc]
  rfl
theorem many_nd {ns:List Int}(h:ns.Nodup):manyI ns=ns.length:=by
 unfold manyI firstMet
 rw[range_getD,dedup_nd ns [] h (fun x _ z=>by cases z),List.nil_append]
end L2
namespace BG
open PySem L2 SO K20
theorem atI_1 {x y:V}:atI [x,y] 1=some y:=rfl
theorem rms_of {H:Hp}{p:Addr}{qs:List Addr}{rms:Rms}(h:H p=some (.tup (qs.map V.ref)))(R:RowsAt H qs rms):RmS H p rms:=⟨qs,.inr h,R.1,fun i r e=>by
 obtain⟨q,z,h1,h2,h3⟩:=R.2 i r e
 exact⟨q,z,h1,h2,.inr h3⟩⟩
theorem rst_of {H:Hp}{t:Addr}{ys:List (Addr×List Int)}(h:H t=some (.tup (ys.map fun z=>V.ref z.1)))(ha:∀z∈ys,RA H z.1 z.2):RsT H t (ys.map (·.2)):=
 ⟨ys.map (·.1),by rw[List.map_map];exact h,by rw[List.length_map,List.length_map],fun i n e=>by
  rw[List.getElem?_map] at e
  obtain⟨z,ez,rfl⟩:=Option.map_eq_some_iff.mp e
  exact⟨z.1,by rw[List.getElem?_map,ez];rfl,ha z (List.mem_of_getElem? ez)⟩⟩
theorem lc_flt {K:W.Frag}{l D:Addr}{H1:Hp}{Q:Hp->Prop}{caps:St}{tt:TT}(zs:List (Addr×List Int))(p:List Int->Bool)(hz:zs.length<=1000)(hl:H1 l=some (.lst (zs.map fun z=>V.ref z.1)))(hD:H1 D=none)
  (htt:∀z∈zs,∀(H3:Hp) (R:Bool->Hp->Prop),Same H1 H3->R (p z.2) H3->tt (some (.ref z.1)::caps) H3 R)
  (k:∀H3:Hp,Same H1 H3->H3 D=some (.lst ((zs.filter fun z=>p z.2).map fun z=>V.ref z.1))->Q H3):
  ∃W:Nat->Nat->St->Hp->Prop,(∃m,W 0 m (none::caps) (upd H1 D (.lst [])))/\LcW (Itl K l) (gName 0) tt (tVar 0) D Q W:=by
 refine lc_list (K:=K) (a:=l) (xs:=zs.map fun z=>V.ref z.1) (fun i ys H3=>Same H1 H3/\H3 D=some (.lst ys)/\ys=((zs.take i).filter fun z=>p z.2).map fun z=>V.ref z.1) (Nat.le_of_lt (small1000 (by rw[List.length_map];exact hz))) ⟨(Same.refl H1).upd_free hD,upd_same,rfl⟩
  (fun i ys H3 h=>by rw[h.2.2,List.length_map];exact Nat.le_trans (List.length_filter_le _ _) (by rw[List.length_take];exact Nat.min_le_left _ _)) (fun i ys H3 h=>SqL.of (h.1 _ _ hl)) ?_ ?_
 ·rintro i ys H3 x N M hx ⟨s3,hD3,rfl⟩ hN hM
  rw[List.getElem?_map] at hx
  obtain⟨z,ez,rfl⟩:=Option.map_eq_some_iff.mp hx
  refine htt z (List.mem_of_getElem? ez) H3 _ s3 ?_
  have tk:zs.take (i+1)=zs.take i++[z]:=by rw[List.take_add_one,ez];rfl
  cases hp:p z.2 with
  |true=>
   refine iteT ⟨_,rfl,hN _ H3 hD3 ⟨s3.upd_free hD,upd_same,?_⟩⟩
   have ef:[z].filter (fun z=>p z.2)=[z]:=by simp[hp]
   rw[tk,List.filter_append,List.map_append,ef]
   rfl
  |false=>
   refine iteF (hM H3 ⟨s3,hD3,?_⟩)
   have ef:[z].filter (fun z=>p z.2)=[]:=by simp[hp]
   rw[tk,List.filter_append,ef,List.append_nil]
 ·rintro ys H3 ⟨s3,hD3,rfl⟩
  rw[List.length_map,List.take_length] at hD3
  exact k H3 s3 hD3
def spAg:Sp:=fun vs H Q _=>∃(p7 lb:Addr) (many most:Int) (r7:Rms) (gs bs zl:List (List Int)) (zs:List (Addr×List Int)),vs=[.ref p7,.int many,.ref lb,.int most]/\MAt H p7 many r7/\H lb=some (.lst (zs.map fun z=>V.ref z.1))/\SrA H zs (isB (gs++bs))/\RdOk many most gs bs zl/\rdM many most zl gs bs=some r7/\∀H':Hp,Same H H'->Q (.bl true) H'
section
variable {P:Program} {w:World} {K:W.Frag} {mg:Str->Option Value} {base:Heap}
abbrev nAg:List Str:=["_law_found","_law_many","_law_begins_here","_law_most","_law_good","_law_bad","_law_other"]
theorem scAg:FnScope nAg ["_law_found","_law_many","_law_begins_here","_law_most"] (defScope sAg):=.of (by decide +kernel)
def scopeG1:Scope:=⟨.function,[(".0",.local),("_law_run_here",.local),("_law_right",.globalImplicit),("_law_found",.free)],false,false,[]⟩
def scopeG2:Scope:=⟨.function,[(".0",.local),("_law_run_here",.local),("_law_right",.globalImplicit),("_law_other",.free)],false,false,[]⟩
theorem scG1:BlkScope (defScope sAg) nAg ["_law_run_here"] ["_law_found"] [0] scopeG1:=.of (by decide +kernel)
theorem scG2:BlkScope (defScope sAg) nAg ["_law_run_here"] ["_law_other"] [6] scopeG2:=.of (by decide +kernel)
theorem ok_ag (F:Fun K "_law_again" "_law_again" sAg f fd)(T:Txt mg)
  (FL:Fun K "_law_read" "_law_read" sLr fL fdL) (bL:Binds K fdL ["_law_many","_law_good","_law_bad","_law_most"] []) (gL:mg "_law_read"=some (.ref fL)) (GL:FnOk P w K mg base CX0 46 fL fdL ["_law_many","_law_good","_law_bad","_law_most"] spLr)
  (FI:Fun K "_law_right" "_law_right" sRi fI fdI) (bI:Binds K fdI ["_law_rooms","_law_run_here"] []) (gI:mg "_law_right"=some (.ref fI)) (GI:FnOk P w K mg base CX0 1 fI fdI ["_law_rooms","_law_run_here"] spRi):
  FnOk P w K mg base CX0 47 f fd ["_law_found","_law_many","_law_begins_here","_law_most"] spAg:=by
 refine F.ok scAg (fun vs H Q E h=>?_) (fun cdv A outer s H vs Q E hr h=>?_)
 ·obtain⟨p7,lb,many,most,r7,gs,bs,zl,zs,rfl,_⟩:=h
  rfl
 ·obtain⟨p7,lb,many,most,r7,gs,bs,zl,zs,rfl,M7,hlb,hzs,R,e7,k⟩:=h
  have hr1:Room 1 _:=hr.mono (by decide)
  have hu64:=hr.units
  refine⟨_,pss_cons (ps_set (i:=4) scAg.nd rfl (Or.inl rfl) (pe_slice sl_list (pe_lc scG1 rfl rfl rfl (pi_list (pv 2)) (fun fp C s1 H1=>pg_name (i:=0) scG1.nd rfl (Or.inl rfl)) (fun fp C s1 H1=>pts_one (pt_val (pe_call GI hr1 rfl gI FI.kp bI .nil pass0 (pa_cons (pe_ix (r:=rIxT K) ix_tup (pv 1) pe_int (fun _ _=>rfl)) (pa_cons (pv 0) pa_nil))))) (fun fp C s1 H1=>pv 0)) po_none (po_some pe_int)))
   (pss_cons (ps_set (i:=5) scAg.nd rfl (Or.inl rfl) (pe_slice sl_list (pe_lc scG1 rfl rfl rfl (pi_list (pv 2)) (fun fp C s1 H1=>pg_name (i:=0) scG1.nd rfl (Or.inl rfl)) (fun fp C s1 H1=>pts_one (pt_not (pt_val (pe_call GI hr1 rfl gI FI.kp bI .nil pass0 (pa_cons (pe_ix (r:=rIxT K) ix_tup (pv 1) pe_int (fun _ _=>rfl)) (pa_cons (pv 0) pa_nil)))))) (fun fp C s1 H1=>pv 0)) po_none (po_some pe_int)))
   (pss_cons (ps_set (i:=6) scAg.nd rfl (Or.inr rfl) (pe_call GL hr rfl gL FL.kp bL .nil pass0 (pa_cons (pv 1) (pa_cons (pe_callTy call_tuple_of (by rfl) T.tuple PyProof.Rows.boot_tuple (pa_cons (pv 4) pa_nil)) (pa_cons (pe_callTy call_tuple_of (by rfl) T.tuple PyProof.Rows.boot_tuple (pa_cons (pv 5) pa_nil)) (pa_cons (pv 3) pa_nil))))))
   (pss_cons (ps_if (PW.pt (pw_or (pt_cmpR op_isN (pv 6) pe_non (nomark _)) (pw_or1 (pt_cmpR op_gt (pe_callB call_len_seq (by rfl) T.len PySem.boot_len (pa_cons (pe_ix ix_tup (pv 6) pe_int (fun _ _=>rfl)) pa_nil)) (pe_callB call_len_seq (by rfl) T.len PySem.boot_len (pa_cons (pe_ix ix_tup (pv 0) pe_int (fun _ _=>rfl)) pa_nil)) (nomark _))))) (pss_one (ps_ret pe_bl)) pss_nil)
   (pss_cons (ps_if (pt_cmpR (op_neD hu64) (pe_lc scG2 rfl rfl rfl (pi_list (pv 4)) (fun fp C s1 H1=>pg_name (i:=0) scG2.nd rfl (Or.inl rfl)) (fun fp C s1 H1=>pts_one (pt_not (pt_val (pe_call GI hr1 rfl gI FI.kp bI .nil pass0 (pa_cons (pe_ix (r:=rIxT K) ix_tup (pv 1) pe_int (fun _ _=>rfl)) (pa_cons (pv 0) pa_nil)))))) (fun fp C s1 H1=>pv 0)) (pe_lst pa_nil) (nomark _)) (pss_one (ps_ret pe_bl)) pss_nil)
   (pss_one (ps_ret (pe_cmpR (op_eqD hu64) (pe_lc scG2 rfl rfl rfl (pi_list (pv 5)) (fun fp C s1 H1=>pg_name (i:=0) scG2.nd rfl (Or.inl rfl)) (fun fp C s1 H1=>pts_one (pt_val (pe_call GI hr1 rfl gI FI.kp bI .nil pass0 (pa_cons (pe_ix (r:=rIxT K) ix_tup (pv 1) pe_int (fun _ _=>rfl)) (pa_cons (pv 0) pa_nil))))) (fun fp C s1 H1=>pv 0)) (pe_lst pa_nil) (nomark _)))))))),?_⟩
  have F7:=rd_sound R e7
  obtain⟨a7,q7,c7,d7,x7⟩:=M7
  have hzl:∀z∈zs,isB (gs++bs) z.2:=fun z hz=>(hzs.mem z.2).mp (List.mem_map.mpr ⟨z,hz,rfl⟩)
  have hle:∀z∈zs,∀x∈z.2,0<=x/\x<many:=fun z hz=>R.let' z.2 ((R.mem z.2).mpr (hzl z hz))
  refine⟨_,rfl,lb,rfl,⟨_,SqL.of hlb⟩,fun D1 hD1=>?_⟩
  refine lc_flt zs (fun r=>gdw r7 r) hzs.len hlb hD1 (fun z hz H3 R3 s3 hR=>?_) fun H1 s1 h1=>?_
  ·exact⟨_,rfl,p7,_,_,_,rfl,rfl,SqT.of (s3 _ _ c7),atI_1,_,rfl,a7,z.1,many,r7,z.2,rfl,rms_of (s3 _ _ d7) (x7.same s3),F7.good,s3 _ _ (hzs.at' z hz),hle z hz,_,rfl,hR⟩
  refine⟨_,rfl,D1,_,rfl,SqL.of h1,fun lg hlg=>?_⟩
  have eg:cutV ((zs.filter fun z=>gdw r7 z.2).map fun z=>V.ref z.1) none (some (12:Int))=((zs.filter fun z=>gdw r7 z.2).take 12).map fun z=>V.ref z.1:=by
   rw[show(12:Int)=((12:Nat):Int) from rfl,cut_take,List.map_take]
  have s2:Same H1 (upd H1 lg (.lst (cutV ((zs.filter fun z=>gdw r7 z.2).map fun z=>V.ref z.1) none (some (12:Int))))):=(Same.refl H1).upd_free hlg
  have g2:upd H1 lg (.lst (cutV ((zs.filter fun z=>gdw r7 z.2).map fun z=>V.ref z.1) none (some (12:Int)))) lg=some (.lst (((zs.filter fun z=>gdw r7 z.2).take 12).map fun z=>V.ref z.1)):=by rw[upd_same,eg]
  show gName 4 (V.ref lg) _ (upd H1 lg (.lst (cutV ((zs.filter fun z=>gdw r7 z.2).map fun z=>V.ref z.1) none (some (12:Int))))) _
  generalize upd H1 lg (.lst (cutV ((zs.filter fun z=>gdw r7 z.2).map fun z=>V.ref z.1) none (some (12:Int))))=H2 at s2 g2
  have t2:=s1.trans s2
  refine⟨_,rfl,lb,rfl,⟨_,SqL.of (t2 _ _ hlb)⟩,fun D2 hD2=>?_⟩
  refine lc_flt zs (fun r=>!gdw r7 r) hzs.len (t2 _ _ hlb) hD2 (fun z hz H3 R3 s3 hR=>?_) fun H3 s3 h3=>?_
  ·have s3':=t2.trans s3
   exact⟨_,rfl,p7,_,_,_,rfl,rfl,SqT.of (s3' _ _ c7),atI_1,_,rfl,a7,z.1,many,r7,z.2,rfl,rms_of (s3' _ _ d7) (x7.same s3'),F7.good,s3' _ _ (hzs.at' z hz),hle z hz,_,rfl,hR⟩
  refine⟨_,rfl,D2,_,rfl,SqL.of h3,fun lh hlh=>?_⟩
  have eh:cutV ((zs.filter fun z=>!gdw r7 z.2).map fun z=>V.ref z.1) none (some (12:Int))=((zs.filter fun z=>!gdw r7 z.2).take 12).map fun z=>V.ref z.1:=by
   rw[show(12:Int)=((12:Nat):Int) from rfl,cut_take,List.map_take]
  have s4:Same H3 (upd H3 lh (.lst (cutV ((zs.filter fun z=>!gdw r7 z.2).map fun z=>V.ref z.1) none (some (12:Int))))):=(Same.refl H3).upd_free hlh
  have g4:upd H3 lh (.lst (cutV ((zs.filter fun z=>!gdw r7 z.2).map fun z=>V.ref z.1) none (some (12:Int)))) lh=some (.lst (((zs.filter fun z=>!gdw r7 z.2).take 12).map fun z=>V.ref z.1)):=by rw[upd_same,eh]
  show gName 5 (V.ref lh) _ (upd H3 lh (.lst (cutV ((zs.filter fun z=>!gdw r7 z.2).map fun z=>V.ref z.1) none (some (12:Int))))) _
  generalize upd H3 lh (.lst (cutV ((zs.filter fun z=>!gdw r7 z.2).map fun z=>V.ref z.1) none (some (12:Int))))=H4 at s4 g4
  have g2':=(s3.trans s4) _ _ g2
  have t4:=t2.trans (s3.trans s4)
  have zg:∀z∈(zs.filter fun z=>gdw r7 z.2).take 12,z∈zs/\gdw r7 z.2=true:=fun z hz=>List.mem_filter.mp (List.mem_of_mem_take hz)
  have zb:∀z∈(zs.filter fun z=>!gdw r7 z.2).take 12,z∈zs/\gdw r7 z.2=false:=fun z hz=>by
   obtain⟨h1,h2⟩:=List.mem_filter.mp (List.mem_of_mem_take hz)
   exact⟨h1,by simpa using h2⟩
  have lg12:((zs.filter fun z=>gdw r7 z.2).take 12).length<=12:=by rw[List.length_take];exact Nat.min_le_left _ _
  have lb12:((zs.filter fun z=>!gdw r7 z.2).take 12).length<=12:=by rw[List.length_take];exact Nat.min_le_left _ _
  generalize (zs.filter fun z=>gdw r7 z.2).take 12=yg at g2' zg lg12
  generalize (zs.filter fun z=>!gdw r7 z.2).take 12=yb at g4 zb lb12
  obtain⟨zl2,rms2,R2,e2,hle2⟩:=again_ok R e7 (g2:=yg.map (·.2)) (b2:=yb.map (·.2)) (fun r hr=>by
   obtain⟨z,hz,rfl⟩:=List.mem_map.mp hr
   exact⟨hzl z (zg z hz).1,(zg z hz).2⟩) (fun r hr=>by
   obtain⟨z,hz,rfl⟩:=List.mem_map.mp hr
   exact⟨hzl z (zb z hz).1,(zb z hz).2⟩) (by rw[List.length_map];exact lg12) (by rw[List.length_map];exact lb12)
  have F2:=rd_sound R2 e2
  refine⟨_,rfl,_,rfl,lg,_,rfl,.inl ⟨SqL.of g2',fun tg htg=>?_⟩⟩
  have s5:Same H4 (upd H4 tg (.tup (yg.map fun z=>V.ref z.1))):=(Same.refl H4).upd_free htg
  have g5:upd H4 tg (.tup (yg.map fun z=>V.ref z.1)) tg=some (.tup (yg.map fun z=>V.ref z.1)):=upd_same
  generalize upd H4 tg (.tup (yg.map fun z=>V.ref z.1))=H5 at s5 g5
  refine⟨_,rfl,lh,_,rfl,.inl ⟨SqL.of (s5 _ _ g4),fun tb htb=>?_⟩⟩
  have s6:Same H5 (upd H5 tb (.tup (yb.map fun z=>V.ref z.1))):=(Same.refl H5).upd_free htb
  have g6:upd H5 tb (.tup (yb.map fun z=>V.ref z.1)) tb=some (.tup (yb.map fun z=>V.ref z.1)):=upd_same
  generalize upd H5 tb (.tup (yb.map fun z=>V.ref z.1))=H6 at s6 g6
  have t6:=t4.trans (s5.trans s6)
  refine⟨_,rfl,tg,tb,many,most,_,_,zl2,rfl,rst_of (s6 _ _ g5) (fun z hz=>t6 _ _ (hzs.at' z (zg z hz).1)),rst_of g6 (fun z hz=>t6 _ _ (hzs.at' z (zb z hz).1)),R2,fun v8 H7 s7 hv8=>?_⟩
  rw[e2] at hv8
  obtain⟨p8,rfl,M8⟩:=hv8
  have t7:=t6.trans s7
  obtain⟨a8,q8,c8,d8,x8⟩:=M8
  refine⟨_,rfl,rfl,_,rfl,iteFK (by simp) ?_⟩
  refine⟨_,rfl,p8,_,_,_,rfl,rfl,SqT.of c8,atI_1,a8,_,rfl,.inr (SqT.of d8),_,rfl,p7,_,_,_,rfl,rfl,SqT.of (t7 _ _ c7),atI_1,a7,_,rfl,.inr (SqT.of (t7 _ _ d7)),_,_,rfl,rfl,_,rfl,iteFK (decide_eq_false ?_) ?_⟩
  ·rw[List.length_map,List.length_map,x8.1,x7.1]
   omega
  have t47:=(s5.trans s6).trans s7
  refine⟨_,rfl,lg,rfl,⟨_,SqL.of (t47 _ _ g2')⟩,fun D3 hD3=>?_⟩
  refine lc_flt yg (fun r=>!gdw rms2 r) (by omega) (t47 _ _ g2') hD3 (fun z hz H8 R8 s8 hR=>?_) fun H8 s8 h8=>?_
  ·exact⟨_,rfl,p8,_,_,_,rfl,rfl,SqT.of (s8 _ _ c8),atI_1,_,rfl,a8,z.1,many,rms2,z.2,rfl,rms_of (s8 _ _ d8) (x8.same s8),F2.good,s8 _ _ (t7 _ _ (hzs.at' z (zg z hz).1)),hle z (zg z hz).1,_,rfl,hR⟩
  have n1:(yg.filter fun z=>!gdw rms2 z.2)=[]:=List.filter_eq_nil_iff.mpr fun z hz=>by
   rw[F2.yes z.2 (List.mem_map.mpr ⟨z,hz,rfl⟩)]
   exact Bool.false_ne_true
  rw[n1] at h8
  refine⟨Nat.zero_le _,fun le hle'=>?_⟩
  have s9:Same H8 (upd H8 le (.lst [])):=(Same.refl H8).upd_free hle'
  refine⟨.list [],.list [],.lst (SqL.of (s9 _ _ h8)) .nil,.lst (SqL.of upd_same) .nil,⟨rfl,by decide⟩,⟨rfl,by decide⟩,_,rfl,iteFK (by rfl) ?_⟩
  generalize upd H8 le (.lst [])=H9 at s9
  have t9:=s8.trans s9
  refine⟨_,rfl,lh,rfl,⟨_,SqL.of ((t47.trans t9) _ _ g4)⟩,fun D4 hD4=>?_⟩
  refine lc_flt yb (fun r=>gdw rms2 r) (by omega) ((t47.trans t9) _ _ g4) hD4 (fun z hz Ha Ra sa hR=>?_) fun Ha sa ha=>?_
  ·have ta:=t9.trans sa
   exact⟨_,rfl,p8,_,_,_,rfl,rfl,SqT.of (ta _ _ c8),atI_1,_,rfl,a8,z.1,many,rms2,z.2,rfl,rms_of (ta _ _ d8) (x8.same ta),F2.good,ta _ _ (t7 _ _ (hzs.at' z (zb z hz).1)),hle z (zb z hz).1,_,rfl,hR⟩
  have n2:(yb.filter fun z=>gdw rms2 z.2)=[]:=List.filter_eq_nil_iff.mpr fun z hz=>by
   rw[F2.no z.2 (List.mem_map.mpr ⟨z,hz,rfl⟩)]
   exact Bool.false_ne_true
  rw[n2] at ha
  refine⟨Nat.zero_le _,fun lf hlf=>?_⟩
  have sb:Same Ha (upd Ha lf (.lst [])):=(Same.refl Ha).upd_free hlf
  exact⟨.list [],.list [],.lst (SqL.of (sb _ _ ha)) .nil,.lst (SqL.of upd_same) .nil,⟨rfl,by decide⟩,⟨rfl,by decide⟩,k _ (((t7.trans t9).trans sa).trans sb)⟩
end
end BG
namespace BG
open PySem L2 SO K20 K21 K60 K23
section
variable {P:Program} {w:World} {K:W.Frag} {mg:Str->Option Value} {base:Heap}
def spLaw (K:W.Frag):Sp:=fun vs H Q _=>∃(a:Addr) (ns:List Int),vs=[.ref a]/\SqL K H a (ns.map V.int)/\ns.length<=63/\∀H',Q (.bl true) H'
abbrev nLaw:List Str:=["_law_script","_law_many","_law_most","_law_longest","_law_limit","_law_good","_law_bad","_law_found","_law_size","_law_told"]
theorem scLaw:FnScope nLaw ["_law_script"] (defScope sLaw):=.of (by decide +kernel)
def scopeL:Scope:=⟨.function,[(".0",.local),("_law_run_here",.local),("_law_walked",.globalImplicit),("_law_found",.free)],false,false,[]⟩
theorem scL:BlkScope (defScope sLaw) nLaw ["_law_run_here"] ["_law_found"] [7] scopeL:=.of (by decide +kernel)
theorem ok_law (F:Fun K "law" "law" sLaw f fd)(T:Txt mg)(T2:K21.Txt mg)
  (FC:Fun K "_law_cell_at" "_law_cell_at" sCe fC fdC) (bC:Binds K fdC ["_law_script","_law_k"] []) (gC:mg "_law_cell_at"=some (.ref fC)) (GC:FnOk P w K mg base CX0 1 fC fdC ["_law_script","_law_k"] (spCe K))
  (FT:Fun K "_law_two" "_law_two" sTw fT fdT) (bT:Binds K fdT ["_law_script","_law_many","_law_size","_law_longest","_law_limit"] []) (gT:mg "_law_two"=some (.ref fT)) (GT:FnOk P w K mg base CX0 3 fT fdT ["_law_script","_law_many","_law_size","_law_longest","_law_limit"] (spTw K))
  (FZ:Fun K "_law_sizes" "_law_sizes" sSz fZ fdZ) (bZ:Binds K fdZ ["_law_cell"] []) (gZ:mg "_law_sizes"=some (.ref fZ)) (GZ:FnOk P w K mg base CX0 1 fZ fdZ ["_law_cell"] spSz)
  (FL:Fun K "_law_read" "_law_read" sLr fL fdL) (bL:Binds K fdL ["_law_many","_law_good","_law_bad","_law_most"] []) (gL:mg "_law_read"=some (.ref fL)) (GL:FnOk P w K mg base CX0 46 fL fdL ["_law_many","_law_good","_law_bad","_law_most"] spLr)
  (FS:Fun K "least" "least" K21.sLs fS fdS) (bS:Binds K fdS ["machine"] []) (gS:mg "least"=some (.ref fS)) (GS:FnOk P w K mg base CX0 3 fS fdS ["machine"] spLs)
  (FO:Fun K "lonely" "lonely" sLo fO fdO) (bO:Binds K fdO ["good","bad","size"] []) (gO:mg "lonely"=some (.ref fO)) (GO:FnOk P w K mg base CX0 9 fO fdO ["good","bad","size"] spLo)
  (FA:Fun K "_law_again" "_law_again" sAg fA fdA) (bA:Binds K fdA ["_law_found","_law_many","_law_begins_here","_law_most"] []) (gA:mg "_law_again"=some (.ref fA)) (GA:FnOk P w K mg base CX0 47 fA fdA ["_law_found","_law_many","_law_begins_here","_law_most"] spAg)
  (FB:Fun K "_law_begins" "_law_begins" sBe fB fdB) (bB:Binds K fdB ["_law_good","_law_bad"] []) (gB:mg "_law_begins"=some (.ref fB)) (GB:FnOk P w K mg base CX0 1 fB fdB ["_law_good","_law_bad"] spBe)
  (FW:Fun K "_law_walked" "_law_walked" sWk fW fdW) (bW:Binds K fdW ["_law_rooms","_law_run_here"] []) (gW:mg "_law_walked"=some (.ref fW)) (GW:FnOk P w K mg base CX0 1 fW fdW ["_law_rooms","_law_run_here"] spWk):
  FnOk P w K mg base CX0 48 f fd ["_law_script"] (spLaw K):=by
 refine F.ok scLaw (fun vs H Q E h=>?_) (fun cdv A outer s H vs Q E hr h=>?_)
 ·obtain⟨a,ns,rfl,_⟩:=h
  rfl
 ·obtain⟨a,ns,rfl,hS,hlen,k⟩:=h
  have hr1:Room 1 _:=hr.mono (by decide)
  have hr3:Room 3 _:=hr.mono (by decide)
  have hr9:Room 9 _:=hr.mono (by decide)
  have hr46:Room 46 _:=hr.mono (by decide)
  refine⟨_,pss_cons (ps_asg (pe_call GZ hr1 rfl gZ FZ.kp bZ .nil pass0 (pa_cons (pe_call GC hr1 rfl gC FC.kp bC .nil pass0 (pa_cons (pv 0) (pa_cons pe_int pa_nil))) pa_nil)) (pg_tup (n:=4) rfl (pgs_cons (pg_name (i:=1) scLaw.nd rfl (Or.inl rfl)) (pgs_cons (pg_name (i:=2) scLaw.nd rfl (Or.inl rfl)) (pgs_cons (pg_name (i:=3) scLaw.nd rfl (Or.inl rfl)) (pgs_cons (pg_name (i:=4) scLaw.nd rfl (Or.inl rfl)) pgs_nil))))))
   (pss_cons (ps_asg (pe_call GT hr3 rfl gT FT.kp bT .nil pass0 (pa_cons (pv 0) (pa_cons (pv 1) (pa_cons (pe_op op_add (pe_op op_mod (pe_op op_fdiv (pe_call GC hr1 rfl gC FC.kp bC .nil pass0 (pa_cons (pv 0) (pa_cons pe_int pa_nil))) pe_int) (pe_op op_add (pv 2) pe_int)) pe_int) (pa_cons (pv 3) (pa_cons (pv 4) pa_nil)))))) (pg_tup (n:=2) rfl (pgs_cons (pg_name (i:=5) scLaw.nd rfl (Or.inl rfl)) (pgs_cons (pg_name (i:=6) scLaw.nd rfl (Or.inl rfl)) pgs_nil))))
   (pss_cons (ps_set (i:=7) scLaw.nd rfl (Or.inr rfl) (pe_call GL hr46 rfl gL FL.kp bL .nil pass0 (pa_cons (pv 1) (pa_cons (pv 5) (pa_cons (pv 6) (pa_cons (pv 2) pa_nil))))))
   (pss_cons (ps_if (pt_cmpR op_isN (pv 7) pe_non (nomark _)) (pss_one (ps_ret pe_bl)) pss_nil)
   (pss_cons (ps_set (i:=8) scLaw.nd rfl (Or.inl rfl) (pe_callB call_len_seq (by rfl) T.len PySem.boot_len (pa_cons (pe_ix ix_tup (pv 7) pe_int (fun _ _=>rfl)) pa_nil)))
   (pss_cons (ps_if (PW.pt (pw_or (pt_cmpR op_ne (pe_callB call_len_seq (by rfl) T.len PySem.boot_len (pa_cons (pe_ix ix_tup (pe_call GS hr3 rfl gS FS.kp bS .nil pass0 (pa_cons (pv 7) pa_nil)) pe_int (fun _ _=>rfl)) pa_nil)) (pv 8) (nomark _)) (pw_or1 (pt_cmp (pc_notN (pe_call GO hr9 rfl gO FO.kp bO .nil pass0 (pa_cons (pv 5) (pa_cons (pv 6) (pa_cons (pe_op op_add (pv 8) pe_int) pa_nil))))))))) (pss_one (ps_ret pe_bl)) pss_nil)
   (pss_cons (ps_set (i:=9) scLaw.nd rfl (Or.inl rfl) (pe_call GO hr9 rfl gO FO.kp bO .nil pass0 (pa_cons (pv 5) (pa_cons (pv 6) (pa_cons (pv 8) pa_nil)))))
   (pss_cons (ps_cut (ps_if (pt_cmp (pc_notN (pv 9))) (pss_one (ps_if (pt_cmpR op_ne (pe_callB call_lenS (by rfl) T.len PySem.boot_len (pa_cons (pe_callTy (call_setI rfl) (by rfl) T2.set PyProof.Rows.boot_set (pa_cons (pe_lc scL rfl rfl rfl (pi_tup (pv 9)) (fun fp C s1 H1=>pg_name (i:=0) scL.nd rfl (Or.inl rfl)) (fun fp C s1 H1=>pts_nil) (fun fp C s1 H1=>pe_call GW hr1 rfl gW FW.kp bW .nil pass0 (pa_cons (pe_ix (r:=rIxT K) ix_tup (pv 1) pe_int (fun _ _=>rfl)) (pa_cons (pv 0) pa_nil)))) pa_nil)) pa_nil)) (pv 8) (nomark _)) (pss_one (ps_ret pe_bl)) pss_nil)) pss_nil))
   (pss_one (ps_ret (pe_call GA hr rfl gA FA.kp bA .nil pass0 (pa_cons (pv 7) (pa_cons (pv 1) (pa_cons (pe_call GB hr1 rfl gB FB.kp bB .nil pass0 (pa_cons (pv 5) (pa_cons (pv 6) pa_nil))) (pa_cons (pv 2) pa_nil)))))))))))))),?_⟩
  refine⟨_,rfl,a,ns,0,rfl,hS,by omega,by decide,by decide,fun H1 s1=>?_⟩
  refine⟨_,rfl,fun pz H2 s2 hz=>?_⟩
  obtain⟨many,most,longest,limit,hz,m0,m1,o0,o1,l0,l1,t0,t1,hmo⟩:=hz
  have s02:=s1.trans s2
  refine⟨pz,_,rfl,SqT.of hz,rfl,_,_,rfl,_,_,rfl,_,_,rfl,_,_,rfl,rfl,?_⟩
  refine⟨_,rfl,_,rfl,_,rfl,a,ns,0,rfl,s02.seq hS,by omega,by decide,by decide,fun H3 s3=>?_⟩
  have s03:=s02.trans s3
  have z4:0<=cellM ns 0 / 10%(most+1)/\cellM ns 0 / 10%(most+1)<most+1:=⟨Int.emod_nonneg _ (by omega),Int.emod_lt_of_pos _ (by omega)⟩
  refine⟨_,_,rfl,rfl,⟨by decide,by decide⟩,_,rfl,_,_,rfl,rfl,_,_,rfl,rfl,(by show(0:Int)<most+1;omega),_,_,rfl,rfl,_,rfl,_,rfl,a,ns,many,_,longest,limit,rfl,s03.seq hS,hlen,m0,m1,by omega,by omega,by omega,l1,t0,by omega,fun t g b gs bs rms H4 s4 ht hg hb Gr hrl tw cn=>?_⟩
  refine⟨t,[.ref g,.ref b],rfl,SqT.of ht,rfl,.ref g,[.ref b],rfl,.ref b,[],rfl,rfl,?_⟩
  obtain⟨zl,hsrt,hmem,hln⟩:=cn
  have R:RdOk many most gs bs zl:=⟨m0,m1,o0,o1,tw.g12,tw.b12,fun r hr'=>by have:=tw.sh r hr';omega,tw.le,tw.dis,hsrt,hmem,by omega,.inl hmo⟩
  have w1:=tw.g12
  have w2:=tw.b12
  refine⟨_,rfl,_,rfl,_,rfl,_,rfl,g,b,many,most,gs,bs,zl,rfl,hg,hb,R,fun v7 H5 s5 hv7=>?_⟩
  have hg5:=hg.same s5
  have hb5:=hb.same s5
  cases e7:rdM many most zl gs bs with
  |none=>
   rw[e7] at hv7
   cases(show v7=.non from hv7)
   exact⟨_,rfl,rfl,_,rfl,iteTK (by simp) (k _)⟩
  |some r7=>
   rw[e7] at hv7
   have F7:=rd_sound R e7
   have l1:=F7.l1
   have l2:=F7.l2
   have o1':=R.o1
   obtain⟨p7,rfl,M7⟩:=hv7
   refine⟨_,rfl,rfl,_,rfl,iteFK (by simp) ?_⟩
   obtain⟨a7,q7,c7,d7,x7⟩:=id M7
   have hql:(q7.map V.ref).length=r7.length:=by rw[List.length_map];exact x7.1
   refine⟨_,rfl,p7,_,_,_,rfl,rfl,SqT.of c7,atI_1,a7,_,rfl,.inr (SqT.of d7),?_⟩
   rw[hql]
   refine⟨_,rfl,p7,many,r7,rfl,M7,F7.good,fun m8 ns8 ch8 H6 s6 M8 C8 B8=>?_⟩
   have hls:=least_size R e7 C8 B8
   obtain⟨a8,q8,c8,d8,x8⟩:=M8
   have hql8:(q8.map V.ref).length=r7.length:=by rw[List.length_map,x8.1];exact hls
   refine⟨m8,_,_,_,rfl,rfl,SqT.of c8,atI_1,a8,_,rfl,.inr (SqT.of d8),_,rfl,rfl,_,rfl,iteFK (by rw[hql8];simp) ?_⟩
   refine⟨_,rfl,_,rfl,_,rfl,_,_,rfl,rfl,g,b,gs,bs,r7.length+1,rfl,hg5.same s6,hb5.same s6,by omega,by omega,R.sh,⟨zl,hsrt,hmem,by omega⟩,by omega,fun v9 zl9 o9 H7 s7 z1 z2 hF hv9=>?_⟩
   have ez:zl9=zl:=srt_eq z1 R.srt fun ns=>(z2 ns).trans (R.mem ns).symm
   subst ez
   cases o9 with
   |some r=>
    obtain⟨⟨hc,hl⟩,_⟩:=hF
    have:=clq_len R F7 hc
    omega
   |none=>
   cases(show v9=.non from hv9)
   refine⟨_,rfl,iteNS rfl ?_⟩
   have t7:=s6.trans s7
   refine⟨_,rfl,_,rfl,_,rfl,g,b,gs,bs,r7.length,rfl,hg5.same t7,hb5.same t7,by omega,by omega,R.sh,⟨zl9,hsrt,hmem,by omega⟩,by omega,fun va zla oa H8 s8 y1 y2 hFa hva=>?_⟩
   have ez:zla=zl9:=srt_eq y1 R.srt fun ns=>(y2 ns).trans (R.mem ns).symm
   subst ez
   have t8:=t7.trans s8
   refine⟨fun σ' H'=>Same H8 H'/\σ'=[some (.ref a),some (.int many),some (.int most),some (.int longest),some (.int limit),some (.ref g),some (.ref b),some (.ref p7),some (.int (r7.length:Nat)),some va],?_,?_⟩
   ·cases oa with
    |none=>
     cases(show va=.non from hva)
     exact⟨_,rfl,_,rfl,iteNS rfl ⟨Same.refl H8,rfl⟩⟩
    |some r=>
     obtain⟨pa,ps,rfl,hpa,hps⟩:=hva
     obtain⟨⟨hc,hl⟩,_⟩:=hFa
     obtain⟨nd,rn⟩:=clq_rooms R F7 hc
     have hpl:(ps.map V.ref).length=r.length:=by
      rw[List.length_map,hps.1,List.length_map]
     refine⟨_,rfl,_,rfl,?_⟩
     have nn:¬(V.ref pa=V.non):=fun z=>by cases z
     rw[decide_eq_false nn]
     refine iteT ?_
     refine⟨_,rfl,pa,rfl,⟨_,SqT.of hpa⟩,fun D hD=>?_⟩
     refine lc_tup (K:=K) (a:=pa) (xs:=ps.map V.ref) (fun i ys H9=>Same H8 H9/\H9 D=some (.lst ys)/\ys=((r.take i).map fun x=>walkM r7 0 (zla.getD x.toNat [])).map V.int) (Nat.le_of_lt (small1000 (by omega))) ⟨(Same.refl H8).upd_free hD,upd_same,rfl⟩
      (fun i ys H9 h=>by rw[h.2.2,List.length_map,List.length_map,List.length_take];exact Nat.min_le_left _ _) (fun i ys H9 h=>SqT.of (h.1 _ _ hpa)) ?_ ?_
     ·rintro i ys H9 x N M hx ⟨s9,hD9,rfl⟩ hN hM
      have hi:i<r.length:=by
       have:=(List.getElem?_eq_some_iff.mp hx).1
       omega
      have er:r[i]?=some r[i]:=List.getElem?_eq_getElem hi
      generalize r[i]=y at er
      obtain⟨tt,e1,e2⟩:=hps.2 i (zla.getD y.toNat []) (by rw[List.getElem?_map,er];rfl)
      rw[List.getElem?_map,e1] at hx
      cases hx
      have hy:=hc.ran y (List.mem_of_getElem? er)
      have hm:zla.getD y.toNat []∈zla:=by
       have hlt:y.toNat<zla.length:=by omega
       rw[List.getD_eq_getElem?_getD,List.getElem?_eq_getElem hlt]
       exact List.getElem_mem hlt
      have t9:=t8.trans s9
      refine⟨_,rfl,p7,_,_,_,rfl,rfl,SqT.of (t9 _ _ c7),atI_1,_,rfl,a7,tt,many,r7,_,rfl,rms_of (t9 _ _ d7) (x7.same t9),F7.good,s9 _ _ e2,R.let' _ hm,?_⟩
      refine hN _ H9 hD9 ⟨s9.upd_free hD,upd_same,?_⟩
      rw[List.take_add_one,er,List.map_append,List.map_append]
      rfl
     ·rintro ys H9 ⟨s9,hD9,rfl⟩
      rw[hpl,List.take_length] at hD9
      refine⟨D,_,rfl,SqL.of hD9,by rw[List.length_map];omega,fun st hst=>?_⟩
      refine⟨st,_,_,rfl,upd_same,_,rfl,rfl,_,rfl,iteFK ?_ ⟨s9.upd_free (s9.free hst),rfl⟩⟩
      rw[many_nd nd,List.length_map,hl]
      simp
   rintro σ' H9 ⟨s9,rfl⟩
   have t9:=t8.trans s9
   refine⟨_,rfl,_,rfl,_,rfl,_,rfl,g,b,false,gs,bs,rfl,hg5.same t9,hb5.same t9,by omega,by omega,R.sh,⟨_,fun ns=>(R.mem ns).mpr,Nat.le_trans R.len (by decide)⟩,fun lb zs Hb sb _ hlb hzs=>?_⟩
   exact⟨_,rfl,p7,lb,many,most,r7,gs,bs,zla,zs,rfl,M7.same (t9.trans sb),hlb,hzs,R,e7,fun H' _=>k _⟩
end
end BG
namespace BG
open PySem L2 SO K20
section
variable {P:Program} {w:World} {K:W.Frag} {mg:Str->Option Value} {base:Heap} {CG:Addr}
theorem ok_all (F:Fun K "law" "law" sLaw f fd)(T:Txt mg)
  {its:Array Value} (T2:Fx mg) (T3:K21.Txt mg) (hmw:∃u,mg "MOST_WIDE"=some u/\RelV (.int 9) u) (gN:mg "TooGreat"=some (.ref CG)) (tk:takesX K CG (.ref CG)=true) (MX:MkX K CG fXg) (FXg:Fun K "__init__" "TooGreat.__init__" sXg fXg dXg) (bXg:Binds K dXg ["self","number"] []) (hS:excSet K CG "number"=true) (rz:excRz K CG=true)
  (FCe:Fun K "_law_cell_at" "_law_cell_at" sCe fCe fdCe) (bCe:Binds K fdCe ["_law_script","_law_k"] []) (gCe:mg "_law_cell_at"=some (.ref fCe))
  (FPk:Fun K "_law_pick" "_law_pick" sPk fPk fdPk) (bPk:Binds K fdPk ["_law_cell","_law_k","_law_many"] []) (gPk:mg "_law_pick"=some (.ref fPk))
  (FHi:Fun K "_law_hidden" "_law_hidden" sHi fHi fdHi) (bHi:Binds K fdHi ["_law_cell","_law_many","_law_size"] []) (gHi:mg "_law_hidden"=some (.ref fHi))
  (FRu:Fun K "_law_run" "_law_run" sRu fRu fdRu) (bRu:Binds K fdRu ["_law_cell","_law_many","_law_longest"] []) (gRu:mg "_law_run"=some (.ref fRu))
  (FRi:Fun K "_law_right" "_law_right" sRi fRi fdRi) (bRi:Binds K fdRi ["_law_rooms","_law_run_here"] []) (gRi:mg "_law_right"=some (.ref fRi))
  (FBe:Fun K "_law_begins" "_law_begins" sBe fBe fdBe) (bBe:Binds K fdBe ["_law_good","_law_bad"] []) (gBe:mg "_law_begins"=some (.ref fBe))
  (FTw:Fun K "_law_two" "_law_two" sTw fTw fdTw) (bTw:Binds K fdTw ["_law_script","_law_many","_law_size","_law_longest","_law_limit"] []) (gTw:mg "_law_two"=some (.ref fTw))
  (FRo:Fun K "run_order" "run_order" sRo fRo fdRo) (bRo:Binds K fdRo ["run"] []) (gRo:mg "run_order"=some (.ref fRo))
  (FBg:Fun K "beginnings" "beginnings" sBg fBg fdBg) (bBg:Binds K fdBg ["good","bad"] []) (gBg:mg "beginnings"=some (.ref fBg))
  (FSt:Fun K "step_to" "step_to" sSt fSt fdSt) (bSt:Binds K fdSt ["run","given"] []) (gSt:mg "step_to"=some (.ref fSt))
  (FRg:Fun K "rooms_given" "rooms_given" sRg fRg fdRg) (bRg:Binds K fdRg ["starts","steps"] []) (gRg:mg "rooms_given"=some (.ref fRg))
  (FRf:Fun K "rooms_of" "rooms_of" sRo2 fRf fdRf) (bRf:Binds K fdRf ["runs","given"] []) (gRf:mg "rooms_of"=some (.ref fRf))
  (FFs:Fun K "first_steps" "first_steps" sFs fFs fdFs) (bFs:Binds K fdFs ["starts","good","bad","size","steps"] []) (gFs:mg "first_steps"=some (.ref fFs))
  (FMb:Fun K "machine_by" "machine_by" sMb fMb fdMb) (bMb:Binds K fdMb ["many","size","steps","goods"] []) (gMb:mg "machine_by"=some (.ref fMb))
  (FRd:FunD K "read_off" "read_off" sRd fRd fdRd its) (bRd:Binds K fdRd ["many","good","bad","most"] []) (gRd:mg "read_off"=some (.ref fRd))
  (FTb:Fun K "tails_behind" "tails_behind" sTb fTb fdTb) (bTb:Binds K fdTb ["head","runs"] []) (gTb:mg "tails_behind"=some (.ref fTb))
  (FAp:Fun K "apart" "apart" sAp fAp fdAp) (bAp:Binds K fdAp ["good","bad","one","other"] []) (gAp:mg "apart"=some (.ref fAp))
  (FAb:Fun K "apart_behind" "apart_behind" sAb fAb fdAb) (bAb:Binds K fdAb ["number","starts","good","bad"] []) (gAb:mg "apart_behind"=some (.ref fAb))
  (FFl:Fun K "first_lonely" "first_lonely" sFl fFl fdFl) (bFl:Binds K fdFl ["left","near","size"] []) (gFl:mg "first_lonely"=some (.ref fFl))
  (FLo:Fun K "lonely" "lonely" sLo fLo fdLo) (bLo:Binds K fdLo ["good","bad","size"] []) (gLo:mg "lonely"=some (.ref fLo))
  (FFk:Fun K "finer_kinds" "finer_kinds" K21.sFk fFk fdFk) (bFk:Binds K fdFk ["rooms","kinds"] []) (gFk:mg "finer_kinds"=some (.ref fFk))
  (FKl:Fun K "kinds_by_length" "kinds_by_length" K21.sKl fKl fdKl) (bKl:Binds K fdKl ["rooms"] []) (gKl:mg "kinds_by_length"=some (.ref fKl))
  (FMr:Fun K "merged_room" "merged_room" K21.sMr fMr fdMr) (bMr:Binds K fdMr ["room","kinds","numbers"] []) (gMr:mg "merged_room"=some (.ref fMr))
  (FLs:Fun K "least" "least" K21.sLs fLs fdLs) (bLs:Binds K fdLs ["machine"] []) (gLs:mg "least"=some (.ref fLs))
  (FSz:Fun K "_law_sizes" "_law_sizes" sSz fSz fdSz) (bSz:Binds K fdSz ["_law_cell"] []) (gSz:mg "_law_sizes"=some (.ref fSz))
  (FLr:Fun K "_law_read" "_law_read" sLr fLr fdLr) (bLr:Binds K fdLr ["_law_many","_law_good","_law_bad","_law_most"] []) (gLr:mg "_law_read"=some (.ref fLr))
  (FWk:Fun K "_law_walked" "_law_walked" sWk fWk fdWk) (bWk:Binds K fdWk ["_law_rooms","_law_run_here"] []) (gWk:mg "_law_walked"=some (.ref fWk))
  (FAg:Fun K "_law_again" "_law_again" sAg fAg fdAg) (bAg:Binds K fdAg ["_law_found","_law_many","_law_begins_here","_law_most"] []) (gAg:mg "_law_again"=some (.ref fAg))
  :FnOk P w K mg base CX0 48 f fd ["_law_script"] (spLaw K):=by
 have GCe:FnOk P w K mg base CX0 1 fCe fdCe ["_law_script","_law_k"] (spCe K):=ok_ce FCe T
 have GHi:FnOk P w K mg base CX0 2 fHi fdHi ["_law_cell","_law_many","_law_size"] spHi:=ok_hi FHi T FPk bPk gPk
 have GRu:FnOk P w K mg base CX0 1 fRu fdRu ["_law_cell","_law_many","_law_longest"] spRu:=ok_ru FRu T
 have GRi:FnOk P w K mg base CX0 1 fRi fdRi ["_law_rooms","_law_run_here"] spRi:=ok_ri FRi
 have GBe:FnOk P w K mg base CX0 1 fBe fdBe ["_law_good","_law_bad"] spBe:=ok_be FBe T
 have GTw:FnOk P w K mg base CX0 3 fTw fdTw ["_law_script","_law_many","_law_size","_law_longest","_law_limit"] (spTw K):=ok_tw FTw T FCe bCe gCe GCe FHi bHi gHi GHi FRu bRu gRu GRu FRi bRi gRi GRi FBe bBe gBe GBe
 have GBg:FnOk P w K mg base CX0 4 fBg fdBg ["good","bad"] spBg:=ok_bg FBg T FRo bRo gRo
 have GSt:FnOk P w K mg base CX0 1 fSt fdSt ["run","given"] (spSt P w):=ok_st FSt
 have GRg:FnOk P w K mg base CX0 2 fRg fdRg ["starts","steps"] (spRg P w):=ok_rg FRg FSt bSt gSt
 have GRf:FnOk P w K mg base CX0 1 fRf fdRf ["runs","given"] (spRf P w):=ok_rf FRf
 have GFs:FnOk P w K mg base CX0 44 fFs fdFs ["starts","good","bad","size","steps"] (spFs P w 41):=ok_fs FFs T T2 bFs gFs FRg bRg gRg GRg FRf bRf gRf GRf FSt bSt gSt GSt 41
 have GMb:FnOk P w K mg base CX0 1 fMb fdMb ["many","size","steps","goods"] (spMb P w):=ok_mb FMb T
 have GXg:FnOk P w K mg base CX0 1 fXg dXg ["self","number"] (spNm CG):=ok_xg FXg hS
 have GRd:FnOk P w K mg base (CX1 P w) 45 fRd fdRd ["many","good","bad","most"] (spRd CG):=ok_rd FRd T hmw FBg bBg gBg GBg FFs bFs gFs GFs FMb bMb gMb GMb FRf bRf gRf GRf FRg bRg gRg GRg MX gN bXg GXg rz
 have GAp:FnOk P w K mg base CX0 3 fAp fdAp ["good","bad","one","other"] spAp:=ok_ap FAp T FTb bTb gTb FRo bRo gRo
 have GAb:FnOk P w K mg base CX0 4 fAb fdAb ["number","starts","good","bad"] spAb:=ok_ab FAb T FAp bAp gAp GAp
 have GFl:FnOk P w K mg base CX0 8 fFl fdFl ["left","near","size"] (spFl 7):=ok_fl FFl bFl gFl 7
 have GLo:FnOk P w K mg base CX0 9 fLo fdLo ["good","bad","size"] spLo:=ok_lo FLo T FBg bBg gBg GBg FAb bAb gAb GAb FFl bFl gFl GFl
 have GLs:FnOk P w K mg base CX0 3 fLs fdLs ["machine"] K23.spLs:=K23.ok_ls FLs T3 FFk bFk gFk FKl bKl gKl FMr bMr gMr
 have GSz:FnOk P w K mg base CX0 1 fSz fdSz ["_law_cell"] spSz:=ok_sz FSz
 have GLr:FnOk P w K mg base CX0 46 fLr fdLr ["_law_many","_law_good","_law_bad","_law_most"] spLr:=ok_lr FLr FRd bRd gRd GRd gN tk
 have GWk:FnOk P w K mg base CX0 1 fWk fdWk ["_law_rooms","_law_run_here"] spWk:=ok_wk FWk
 have GAg:FnOk P w K mg base CX0 47 fAg fdAg ["_law_found","_law_many","_law_begins_here","_law_most"] spAg:=ok_ag FAg T FLr bLr gLr GLr FRi bRi gRi GRi
 exact ok_law F T T3 FCe bCe gCe GCe FTw bTw gTw GTw FSz bSz gSz GSz FLr bLr gLr GLr FLs bLs gLs GLs FLo bLo gLo GLo FAg bAg gAg GAg FBe bBe gBe GBe FWk bWk gWk GWk
end
end BG
namespace BG
open PySem L2
abbrev fO (x q:Str)(st:Stmt)(oc:Value)(od:Option Addr)(kV dc pm:Value)(an:Option Addr)(cd ct:Value)(sl:Array (Option Value)):Option Obj:=some ⟨oc,od,.func (W.fnOf x q (defArgs st) (defBody st) (defScope st) .none kV dc pm an cd ct),sl⟩
theorem all_mk {l:W.OpenLaw}{w:World}{K:W.Frag}{h:Heap}{mg:Str->Option Value}(X:K.In h)(G:h.Ns mainGlobals mg)(hfa:mg "law"=some (.ref fa))
  {tku:Tok}
  {tkdRd:Tok} {dTRd:Addr} {ddcRd:Value} {ddoRd:Option Addr} {ddsRd:Array (Option Value)} {ddnRd:Nat}
  (aCG:W.nsIn K mainGlobals "TooGreat"=some (some (.ref CG)))
  (kcCG:W.keepIn K (.ref CG)=true)
  (xtM:takesX K CG (.ref CG)=true)
  (xse:excSet K CG "number"=true)
  (xrz:excRz K CG=true)
  (aCe:W.nsIn K mainGlobals "_law_cell_at"=some (some (.ref fCe)))
  (lCe:K.lookup fCe=fO "_law_cell_at" "_law_cell_at" sCe ocCe odCe kVCe dcCe pmCe anCe cdCe ctCe slCe)
  (cCe:W.codeIn K cdCe "_law_cell_at"=true)
  (kCe:W.keepIn K (.ref fCe)=true)
  (aPk:W.nsIn K mainGlobals "_law_pick"=some (some (.ref fPk)))
  (lPk:K.lookup fPk=fO "_law_pick" "_law_pick" sPk ocPk odPk kVPk dcPk pmPk anPk cdPk ctPk slPk)
  (cPk:W.codeIn K cdPk "_law_pick"=true)
  (kPk:W.keepIn K (.ref fPk)=true)
  (aHi:W.nsIn K mainGlobals "_law_hidden"=some (some (.ref fHi)))
  (lHi:K.lookup fHi=fO "_law_hidden" "_law_hidden" sHi ocHi odHi kVHi dcHi pmHi anHi cdHi ctHi slHi)
  (cHi:W.codeIn K cdHi "_law_hidden"=true)
  (kHi:W.keepIn K (.ref fHi)=true)
  (aRu:W.nsIn K mainGlobals "_law_run"=some (some (.ref fRu)))
  (lRu:K.lookup fRu=fO "_law_run" "_law_run" sRu ocRu odRu kVRu dcRu pmRu anRu cdRu ctRu slRu)
  (cRu:W.codeIn K cdRu "_law_run"=true)
  (kRu:W.keepIn K (.ref fRu)=true)
  (aRi:W.nsIn K mainGlobals "_law_right"=some (some (.ref fRi)))
  (lRi:K.lookup fRi=fO "_law_right" "_law_right" sRi ocRi odRi kVRi dcRi pmRi anRi cdRi ctRi slRi)
  (cRi:W.codeIn K cdRi "_law_right"=true)
  (kRi:W.keepIn K (.ref fRi)=true)
  (aBe:W.nsIn K mainGlobals "_law_begins"=some (some (.ref fBe)))
  (lBe:K.lookup fBe=fO "_law_begins" "_law_begins" sBe ocBe odBe kVBe dcBe pmBe anBe cdBe ctBe slBe)
  (cBe:W.codeIn K cdBe "_law_begins"=true)
  (kBe:W.keepIn K (.ref fBe)=true)
  (aTw:W.nsIn K mainGlobals "_law_two"=some (some (.ref fTw)))
  (lTw:K.lookup fTw=fO "_law_two" "_law_two" sTw ocTw odTw kVTw dcTw pmTw anTw cdTw ctTw slTw)
  (cTw:W.codeIn K cdTw "_law_two"=true)
  (kTw:W.keepIn K (.ref fTw)=true)
  (aRo:W.nsIn K mainGlobals "run_order"=some (some (.ref fRo)))
  (lRo:K.lookup fRo=fO "run_order" "run_order" sRo ocRo odRo kVRo dcRo pmRo anRo cdRo ctRo slRo)
  (cRo:W.codeIn K cdRo "run_order"=true)
  (kRo:W.keepIn K (.ref fRo)=true)
  (aBg:W.nsIn K mainGlobals "beginnings"=some (some (.ref fBg)))
  (lBg:K.lookup fBg=fO "beginnings" "beginnings" sBg ocBg odBg kVBg dcBg pmBg anBg cdBg ctBg slBg)
  (cBg:W.codeIn K cdBg "beginnings"=true)
  (kBg:W.keepIn K (.ref fBg)=true)
  (aSt:W.nsIn K mainGlobals "step_to"=some (some (.ref fSt)))
  (lSt:K.lookup fSt=fO "step_to" "step_to" sSt ocSt odSt kVSt dcSt pmSt anSt cdSt ctSt slSt)
  (cSt:W.codeIn K cdSt "step_to"=true)
  (kSt:W.keepIn K (.ref fSt)=true)
  (aRg:W.nsIn K mainGlobals "rooms_given"=some (some (.ref fRg)))
  (lRg:K.lookup fRg=fO "rooms_given" "rooms_given" sRg ocRg odRg kVRg dcRg pmRg anRg cdRg ctRg slRg)
  (cRg:W.codeIn K cdRg "rooms_given"=true)
  (kRg:W.keepIn K (.ref fRg)=true)
  (aRf:W.nsIn K mainGlobals "rooms_of"=some (some (.ref fRf)))
  (lRf:K.lookup fRf=fO "rooms_of" "rooms_of" sRo2 ocRf odRf kVRf dcRf pmRf anRf cdRf ctRf slRf)
  (cRf:W.codeIn K cdRf "rooms_of"=true)
  (kRf:W.keepIn K (.ref fRf)=true)
  (aFs:W.nsIn K mainGlobals "first_steps"=some (some (.ref fFs)))
  (lFs:K.lookup fFs=fO "first_steps" "first_steps" sFs ocFs odFs kVFs dcFs pmFs anFs cdFs ctFs slFs)
  (cFs:W.codeIn K cdFs "first_steps"=true)
  (kFs:W.keepIn K (.ref fFs)=true)
  (aMb:W.nsIn K mainGlobals "machine_by"=some (some (.ref fMb)))
  (lMb:K.lookup fMb=fO "machine_by" "machine_by" sMb ocMb odMb kVMb dcMb pmMb anMb cdMb ctMb slMb)
  (cMb:W.codeIn K cdMb "machine_by"=true)
  (kMb:W.keepIn K (.ref fMb)=true)
  (aRd:W.nsIn K mainGlobals "read_off"=some (some (.ref fRd)))
  (lRd:K.lookup fRd=some ⟨ocRd,odRd,.func (W.fnOf "read_off" "read_off" (defArgs sRd) (defBody sRd) (defScope sRd) (.ref dTRd) kVRd dcRd pmRd anRd cdRd ctRd),slRd⟩)
  (ddRd:K.lookup dTRd=some ⟨ddcRd,ddoRd,.seq #[.int 3 tkdRd] ddnRd,ddsRd⟩)
  (cRd:W.codeIn K cdRd "read_off"=true)
  (kRd:W.keepIn K (.ref fRd)=true)
  (aTb:W.nsIn K mainGlobals "tails_behind"=some (some (.ref fTb)))
  (lTb:K.lookup fTb=fO "tails_behind" "tails_behind" sTb ocTb odTb kVTb dcTb pmTb anTb cdTb ctTb slTb)
  (cTb:W.codeIn K cdTb "tails_behind"=true)
  (kTb:W.keepIn K (.ref fTb)=true)
  (aAp:W.nsIn K mainGlobals "apart"=some (some (.ref fAp)))
  (lAp:K.lookup fAp=fO "apart" "apart" sAp ocAp odAp kVAp dcAp pmAp anAp cdAp ctAp slAp)
  (cAp:W.codeIn K cdAp "apart"=true)
  (kAp:W.keepIn K (.ref fAp)=true)
  (aAb:W.nsIn K mainGlobals "apart_behind"=some (some (.ref fAb)))
  (lAb:K.lookup fAb=fO "apart_behind" "apart_behind" sAb ocAb odAb kVAb dcAb pmAb anAb cdAb ctAb slAb)
  (cAb:W.codeIn K cdAb "apart_behind"=true)
  (kAb:W.keepIn K (.ref fAb)=true)
  (aFl:W.nsIn K mainGlobals "first_lonely"=some (some (.ref fFl)))
  (lFl:K.lookup fFl=fO "first_lonely" "first_lonely" sFl ocFl odFl kVFl dcFl pmFl anFl cdFl ctFl slFl)
  (cFl:W.codeIn K cdFl "first_lonely"=true)
  (kFl:W.keepIn K (.ref fFl)=true)
  (aLo:W.nsIn K mainGlobals "lonely"=some (some (.ref fLo)))
  (lLo:K.lookup fLo=fO "lonely" "lonely" sLo ocLo odLo kVLo dcLo pmLo anLo cdLo ctLo slLo)
  (cLo:W.codeIn K cdLo "lonely"=true)
  (kLo:W.keepIn K (.ref fLo)=true)
  (aFk:W.nsIn K mainGlobals "finer_kinds"=some (some (.ref fFk)))
  (lFk:K.lookup fFk=fO "finer_kinds" "finer_kinds" K21.sFk ocFk odFk kVFk dcFk pmFk anFk cdFk ctFk slFk)
  (cFk:W.codeIn K cdFk "finer_kinds"=true)
  (kFk:W.keepIn K (.ref fFk)=true)
  (aKl:W.nsIn K mainGlobals "kinds_by_length"=some (some (.ref fKl)))
  (lKl:K.lookup fKl=fO "kinds_by_length" "kinds_by_length" K21.sKl ocKl odKl kVKl dcKl pmKl anKl cdKl ctKl slKl)
  (cKl:W.codeIn K cdKl "kinds_by_length"=true)
  (kKl:W.keepIn K (.ref fKl)=true)
  (aMr:W.nsIn K mainGlobals "merged_room"=some (some (.ref fMr)))
  (lMr:K.lookup fMr=fO "merged_room" "merged_room" K21.sMr ocMr odMr kVMr dcMr pmMr anMr cdMr ctMr slMr)
  (cMr:W.codeIn K cdMr "merged_room"=true)
  (kMr:W.keepIn K (.ref fMr)=true)
  (aLs:W.nsIn K mainGlobals "least"=some (some (.ref fLs)))
  (lLs:K.lookup fLs=fO "least" "least" K21.sLs ocLs odLs kVLs dcLs pmLs anLs cdLs ctLs slLs)
  (cLs:W.codeIn K cdLs "least"=true)
  (kLs:W.keepIn K (.ref fLs)=true)
  (aSz:W.nsIn K mainGlobals "_law_sizes"=some (some (.ref fSz)))
  (lSz:K.lookup fSz=fO "_law_sizes" "_law_sizes" sSz ocSz odSz kVSz dcSz pmSz anSz cdSz ctSz slSz)
  (cSz:W.codeIn K cdSz "_law_sizes"=true)
  (kSz:W.keepIn K (.ref fSz)=true)
  (aLr:W.nsIn K mainGlobals "_law_read"=some (some (.ref fLr)))
  (lLr:K.lookup fLr=fO "_law_read" "_law_read" sLr ocLr odLr kVLr dcLr pmLr anLr cdLr ctLr slLr)
  (cLr:W.codeIn K cdLr "_law_read"=true)
  (kLr:W.keepIn K (.ref fLr)=true)
  (aWk:W.nsIn K mainGlobals "_law_walked"=some (some (.ref fWk)))
  (lWk:K.lookup fWk=fO "_law_walked" "_law_walked" sWk ocWk odWk kVWk dcWk pmWk anWk cdWk ctWk slWk)
  (cWk:W.codeIn K cdWk "_law_walked"=true)
  (kWk:W.keepIn K (.ref fWk)=true)
  (aAg:W.nsIn K mainGlobals "_law_again"=some (some (.ref fAg)))
  (lAg:K.lookup fAg=fO "_law_again" "_law_again" sAg ocAg odAg kVAg dcAg pmAg anAg cdAg ctAg slAg)
  (cAg:W.codeIn K cdAg "_law_again"=true)
  (kAg:W.keepIn K (.ref fAg)=true)
  (aZ:W.nsIn K mainGlobals "law"=some (some (.ref fZ)))
  (lZ:K.lookup fZ=fO "law" "law" sLaw ocZ odZ kVZ dcZ pmZ anZ cdZ ctZ slZ)
  (cZ:W.codeIn K cdZ "law"=true)
  (kZ:W.keepIn K (.ref fZ)=true)
  (aXg:W.findIn K (.ref CG) "__init__"=some (some (.ref fXg)))
  (iXg:W.isFn K (.ref fXg)=true)
  (lXg:K.lookup fXg=fO "__init__" "TooGreat.__init__" sXg ocXg odXg kVXg dcXg pmXg anXg cdXg ctXg slXg)
  (cXg:W.codeIn K cdXg "TooGreat.__init__"=true)
  (kXg:W.keepIn K (.ref fXg)=true)
  (mxCG:excInI K CG fXg=true)
  (tfCG:W.typeIn K (.ref fXg)=some (.type "function"))
  (qu:W.nsIn K mainGlobals "MOST_WIDE"=some (some (.int 9 tku)))
  (zany:W.nsIn K mainGlobals "any"=some none)
  (zdict:W.nsIn K mainGlobals "dict"=some none)
  (zzip:W.nsIn K mainGlobals "zip"=some none)
  (zset:W.nsIn K mainGlobals "set"=some none)
  (zlen:W.nsIn K mainGlobals "len"=some none)
  (zrange:W.nsIn K mainGlobals "range"=some none)
  (ztuple:W.nsIn K mainGlobals "tuple"=some none)
  (zlist:W.nsIn K mainGlobals "list"=some none)
  (zsorted:W.nsIn K mainGlobals "sorted"=some none)
  (zisin:W.nsIn K mainGlobals "isinstance"=some none)
  (zint:W.nsIn K mainGlobals "int"=some none)
  (zbool:W.nsIn K mainGlobals "bool"=some none)
  (zmax:W.nsIn K mainGlobals "max"=some none)
  (zmin:W.nsIn K mainGlobals "min"=some none)
  :∃fd:FuncData,(∀(s:Shared) (v:Value),BindsTo s fd ⟨[v],[]⟩ [("_law_script",v)])/\∀base:Heap,K.In base->base.Ns mainGlobals mg->FnOk l.prog w K mg base CX0 48 fa fd ["_law_script"] (spLaw K):=by
 have e:=hfa.symm.trans (W.mg_of X G aZ)
 cases e
 have T:Txt mg:=⟨W.mg_none_of X G zlen,W.mg_none_of X G zrange,W.mg_none_of X G ztuple,W.mg_none_of X G zlist,W.mg_none_of X G zsorted,W.mg_none_of X G zisin,W.mg_none_of X G zint,W.mg_none_of X G zbool,W.mg_none_of X G zmax,W.mg_none_of X G zmin⟩
 have mgCG:=W.mg_of X G aCG
 have FCe:=fun_mk (st:=sCe) lCe cCe kCe
 have bCe:=FCe.binds (ps:=["_law_script","_law_k"]) fun _ _ _ _ _ _ u h=>match u,h with | [_,_],_=>rfl
 have FPk:=fun_mk (st:=sPk) lPk cPk kPk
 have bPk:=FPk.binds (ps:=["_law_cell","_law_k","_law_many"]) fun _ _ _ _ _ _ u h=>match u,h with | [_,_,_],_=>rfl
 have FHi:=fun_mk (st:=sHi) lHi cHi kHi
 have bHi:=FHi.binds (ps:=["_law_cell","_law_many","_law_size"]) fun _ _ _ _ _ _ u h=>match u,h with | [_,_,_],_=>rfl
 have FRu:=fun_mk (st:=sRu) lRu cRu kRu
 have bRu:=FRu.binds (ps:=["_law_cell","_law_many","_law_longest"]) fun _ _ _ _ _ _ u h=>match u,h with | [_,_,_],_=>rfl
 have FRi:=fun_mk (st:=sRi) lRi cRi kRi
 have bRi:=FRi.binds (ps:=["_law_rooms","_law_run_here"]) fun _ _ _ _ _ _ u h=>match u,h with | [_,_],_=>rfl
 have FBe:=fun_mk (st:=sBe) lBe cBe kBe
 have bBe:=FBe.binds (ps:=["_law_good","_law_bad"]) fun _ _ _ _ _ _ u h=>match u,h with | [_,_],_=>rfl
 have FTw:=fun_mk (st:=sTw) lTw cTw kTw
 have bTw:=FTw.binds (ps:=["_law_script","_law_many","_law_size","_law_longest","_law_limit"]) fun _ _ _ _ _ _ u h=>match u,h with | [_,_,_,_,_],_=>rfl
 have FRo:=fun_mk (st:=sRo) lRo cRo kRo
 have bRo:=FRo.binds (ps:=["run"]) fun _ _ _ _ _ _ u h=>match u,h with | [_],_=>rfl
 have FBg:=fun_mk (st:=sBg) lBg cBg kBg
 have bBg:=FBg.binds (ps:=["good","bad"]) fun _ _ _ _ _ _ u h=>match u,h with | [_,_],_=>rfl
 have FSt:=fun_mk (st:=sSt) lSt cSt kSt
 have bSt:=FSt.binds (ps:=["run","given"]) fun _ _ _ _ _ _ u h=>match u,h with | [_,_],_=>rfl
 have FRg:=fun_mk (st:=sRg) lRg cRg kRg
 have bRg:=FRg.binds (ps:=["starts","steps"]) fun _ _ _ _ _ _ u h=>match u,h with | [_,_],_=>rfl
 have FRf:=fun_mk (st:=sRo2) lRf cRf kRf
 have bRf:=FRf.binds (ps:=["runs","given"]) fun _ _ _ _ _ _ u h=>match u,h with | [_,_],_=>rfl
 have FFs:=fun_mk (st:=sFs) lFs cFs kFs
 have bFs:=FFs.binds (ps:=["starts","good","bad","size","steps"]) fun _ _ _ _ _ _ u h=>match u,h with | [_,_,_,_,_],_=>rfl
 have FMb:=fun_mk (st:=sMb) lMb cMb kMb
 have bMb:=FMb.binds (ps:=["many","size","steps","goods"]) fun _ _ _ _ _ _ u h=>match u,h with | [_,_,_,_],_=>rfl
 have FRd:=funD_mk (st:=sRd) lRd ddRd cRd kRd
 have bRd:=FRd.binds (ps:=["many","good","bad","most"]) (ds:=[]) fun _ _ _ _ _ _ _ us hl=>match us,hl with | [_,_,_,_],_=>⟨_,rfl,rfl⟩
 have FTb:=fun_mk (st:=sTb) lTb cTb kTb
 have bTb:=FTb.binds (ps:=["head","runs"]) fun _ _ _ _ _ _ u h=>match u,h with | [_,_],_=>rfl
 have FAp:=fun_mk (st:=sAp) lAp cAp kAp
 have bAp:=FAp.binds (ps:=["good","bad","one","other"]) fun _ _ _ _ _ _ u h=>match u,h with | [_,_,_,_],_=>rfl
 have FAb:=fun_mk (st:=sAb) lAb cAb kAb
 have bAb:=FAb.binds (ps:=["number","starts","good","bad"]) fun _ _ _ _ _ _ u h=>match u,h with | [_,_,_,_],_=>rfl
 have FFl:=fun_mk (st:=sFl) lFl cFl kFl
 have bFl:=FFl.binds (ps:=["left","near","size"]) fun _ _ _ _ _ _ u h=>match u,h with | [_,_,_],_=>rfl
 have FLo:=fun_mk (st:=sLo) lLo cLo kLo
 have bLo:=FLo.binds (ps:=["good","bad","size"]) fun _ _ _ _ _ _ u h=>match u,h with | [_,_,_],_=>rfl
 have FFk:=fun_mk (st:=K21.sFk) lFk cFk kFk
 have bFk:=FFk.binds (ps:=["rooms","kinds"]) fun _ _ _ _ _ _ u h=>match u,h with | [_,_],_=>rfl
 have FKl:=fun_mk (st:=K21.sKl) lKl cKl kKl
 have bKl:=FKl.binds (ps:=["rooms"]) fun _ _ _ _ _ _ u h=>match u,h with | [_],_=>rfl
 have FMr:=fun_mk (st:=K21.sMr) lMr cMr kMr
 have bMr:=FMr.binds (ps:=["room","kinds","numbers"]) fun _ _ _ _ _ _ u h=>match u,h with | [_,_,_],_=>rfl
 have FLs:=fun_mk (st:=K21.sLs) lLs cLs kLs
 have bLs:=FLs.binds (ps:=["machine"]) fun _ _ _ _ _ _ u h=>match u,h with | [_],_=>rfl
 have FSz:=fun_mk (st:=sSz) lSz cSz kSz
 have bSz:=FSz.binds (ps:=["_law_cell"]) fun _ _ _ _ _ _ u h=>match u,h with | [_],_=>rfl
 have FLr:=fun_mk (st:=sLr) lLr cLr kLr
 have bLr:=FLr.binds (ps:=["_law_many","_law_good","_law_bad","_law_most"]) fun _ _ _ _ _ _ u h=>match u,h with | [_,_,_,_],_=>rfl
 have FWk:=fun_mk (st:=sWk) lWk cWk kWk
 have bWk:=FWk.binds (ps:=["_law_rooms","_law_run_here"]) fun _ _ _ _ _ _ u h=>match u,h with | [_,_],_=>rfl
 have FAg:=fun_mk (st:=sAg) lAg cAg kAg
 have bAg:=FAg.binds (ps:=["_law_found","_law_many","_law_begins_here","_law_most"]) fun _ _ _ _ _ _ u h=>match u,h with | [_,_,_,_],_=>rfl
 have FZ:=fun_mk (st:=sLaw) lZ cZ kZ
 have FXg:=fun_mk (st:=sXg) lXg cXg kXg
 have bXg:=FXg.binds (ps:=["self","number"]) fun _ _ _ _ _ _ u h=>match u,h with | [_,_],_=>rfl
 have gCe:=W.mg_of X G aCe
 have gPk:=W.mg_of X G aPk
 have gHi:=W.mg_of X G aHi
 have gRu:=W.mg_of X G aRu
 have gRi:=W.mg_of X G aRi
 have gBe:=W.mg_of X G aBe
 have gTw:=W.mg_of X G aTw
 have gRo:=W.mg_of X G aRo
 have gBg:=W.mg_of X G aBg
 have gSt:=W.mg_of X G aSt
 have gRg:=W.mg_of X G aRg
 have gRf:=W.mg_of X G aRf
 have gFs:=W.mg_of X G aFs
 have gMb:=W.mg_of X G aMb
 have gRd:=W.mg_of X G aRd
 have gTb:=W.mg_of X G aTb
 have gAp:=W.mg_of X G aAp
 have gAb:=W.mg_of X G aAb
 have gFl:=W.mg_of X G aFl
 have gLo:=W.mg_of X G aLo
 have gFk:=W.mg_of X G aFk
 have gKl:=W.mg_of X G aKl
 have gMr:=W.mg_of X G aMr
 have gLs:=W.mg_of X G aLs
 have gSz:=W.mg_of X G aSz
 have gLr:=W.mg_of X G aLr
 have gWk:=W.mg_of X G aWk
 have gAg:=W.mg_of X G aAg
 have MCG:MkX K CG fXg:=⟨mxCG,tfCG,kcCG⟩
 have T2:Fx mg:=⟨W.mg_none_of X G zany,W.mg_none_of X G zdict⟩
 have T3:K21.Txt mg:=⟨T.len,T.range,T.tuple,T.isin,T.int,T.bool,W.mg_none_of X G zzip,W.mg_none_of X G zset,T.max⟩
 exact⟨W.fnOf "law" "law" (defArgs sLaw) (defBody sLaw) (defScope sLaw) .none kVZ dcZ pmZ anZ cdZ ctZ,fun s v=>.of_eq rfl,fun base _ _=>ok_all FZ T T2 T3 ⟨_,W.mg_of X G qu,_,rfl⟩ mgCG xtM MCG FXg bXg xse xrz FCe bCe gCe FPk bPk gPk FHi bHi gHi FRu bRu gRu FRi bRi gRi FBe bBe gBe FTw bTw gTw FRo bRo gRo FBg bBg gBg FSt bSt gSt FRg bRg gRg FRf bRf gRf FFs bFs gFs FMb bMb gMb FRd bRd gRd FTb bTb gTb FAp bAp gAp FAb bAb gAb FFl bFl gFl FLo bLo gLo FFk bFk gFk FKl bKl gKl FMr bMr gMr FLs bLs gLs FSz bSz gSz FLr bLr gLr FWk bWk gWk FAg bAg gAg⟩
theorem walk {l:W.OpenLaw}{q:Program}{loose:List Str}{XP:(Str->Option Value)->Heap->Prop}{YP:World->Heap->Prop}{d:DefRec}{K:Params->W.Frag}(hn:l.most=some 63)(hdf:d.params.defaults=[])
  (hY:∀(w:World) (h:Heap),YP w h->(K w.params).In h)
  (F:∀(w:World) (mg:Str->Option Value) (fa:Addr) (h:Heap),(K w.params).In h->h.Ns mainGlobals mg->mg d.name=some (.ref fa)→
   ∃fd:FuncData,(∀(s:Shared) (u:Value),BindsTo s fd ⟨[u],[]⟩ [("_law_script",u)])/\∀base:Heap,(K w.params).In base->base.Ns mainGlobals mg->FnOk l.prog w (K w.params) mg base CX0 48 fa fd ["_law_script"] (spLaw (K w.params))):
  W.WalkO q loose XP YP l.row.toRowW d [] (fun f vs=>PySem.call f vs):=
 L2.walk_of (n:=63) (k:=48) (x:="_law_script") (CX:=fun _=>CX0) (sp:=fun w=>spLaw (K w.params)) hn (by decide) hdf ⟨rfl,by decide,by decide⟩ hY F (fun _ _ a ns hl _ hS=>⟨a,ns,rfl,hS,hl,fun _=>rfl⟩) fun _ _ _ _ _ z=>z
end BG
open PySem PySem.W PyProof.Rows
set_option maxRecDepth 100000 in
set_option maxHeartbeats 0 in
theorem PySem.Challenge.cw_logloom_k43_whole_fewest_shown_holds : PySem.Challenge.rw_logloom_k43_whole_fewest_shown.Holds := by
 w_on;o_law
 refine PySem.W.holds_open (q:=BG.hQ) (loose:=[PySem.Str.ofString "read_off"]) (Xt:=BG.hX)
  (XP:=PySem.W.XL BG.hQ [])
  (Yf:=(PySem.W.kHook BG.hK BG.hA BG.hE).obs) (Ya:=(PySem.W.kHook BG.hK BG.hA BG.hE).val)
  (YP:=(PySem.W.kHook BG.hK BG.hA BG.hE).says)
  (N:=3814) BG.hL (PySem.W.kHook BG.hK BG.hA BG.hE).of (PySem.W.kHook BG.hK BG.hA BG.hE).keeps
  (fun s e=>PySem.W.xl_of s (Bool.and_eq_true_iff.mp e).1) PySem.W.XL.keeps
  rfl rfl rfl
  (fun s e=>PySem.W.recFacts_of (Bool.and_eq_true_iff.mp e).2)
  rfl (by first|assumption|decide +kernel) (by decide +kernel)
  ⟨rfl,rfl,rfl,rfl,rfl,by decide +kernel⟩ ?hw ?hc
 case hw=>w_witness2
 k_fill
 refine BG.walk (l:=PySem.Challenge.rw_logloom_k43_whole_fewest_shown) rfl rfl (fun w h Y=>PySem.W.kIn_of Y) ?F
 case F=>
  intro w mg fa h KX G hmg
  refine' BG.all_mk KX G hmg ?aCG ?kcCG ?xtM ?xse ?xrz ?aCe ?lCe ?cCe ?kCe ?aPk ?lPk ?cPk ?kPk ?aHi ?lHi ?cHi ?kHi ?aRu ?lRu ?cRu ?kRu ?aRi ?lRi ?cRi ?kRi ?aBe ?lBe ?cBe ?kBe ?aTw ?lTw ?cTw ?kTw ?aRo ?lRo ?cRo ?kRo ?aBg ?lBg ?cBg ?kBg ?aSt ?lSt ?cSt ?kSt ?aRg ?lRg ?cRg ?kRg ?aRf ?lRf ?cRf ?kRf ?aFs ?lFs ?cFs ?kFs ?aMb ?lMb ?cMb ?kMb ?aRd ?lRd ?ddRd ?cRd ?kRd ?aTb ?lTb ?cTb ?kTb ?aAp ?lAp ?cAp ?kAp ?aAb ?lAb ?cAb ?kAb ?aFl ?lFl ?cFl ?kFl ?aLo ?lLo ?cLo ?kLo ?aFk ?lFk ?cFk ?kFk ?aKl ?lKl ?cKl ?kKl ?aMr ?lMr ?cMr ?kMr ?aLs ?lLs ?cLs ?kLs ?aSz ?lSz ?cSz ?kSz ?aLr ?lLr ?cLr ?kLr ?aWk ?lWk ?cWk ?kWk ?aAg ?lAg ?cAg ?kAg ?aZ ?lZ ?cZ ?kZ ?aXg ?iXg ?lXg ?cXg ?kXg ?mxCG ?tfCG ?qu ?zany ?zdict ?zzip ?zset ?zlen ?zrange ?ztuple ?zlist ?zsorted ?zisin ?zint ?zbool ?zmax ?zmin
  case aCG|kcCG=>k_is
  case xtM|xse|xrz=>(first|kernel_rfl|decide +kernel)
  case aCe|lCe|cCe|kCe|aPk|lPk|cPk|kPk|aHi|lHi|cHi|kHi|aRu|lRu|cRu|kRu|aRi|lRi|cRi|kRi|aBe|lBe|cBe|kBe|aTw|lTw|cTw|kTw|aRo|lRo|cRo|kRo|aBg|lBg|cBg|kBg|aSt|lSt|cSt|kSt|aRg|lRg|cRg|kRg|aRf|lRf|cRf|kRf|aFs|lFs|cFs|kFs|aMb|lMb|cMb|kMb|aRd|lRd|ddRd|cRd|kRd|aTb|lTb|cTb|kTb|aAp|lAp|cAp|kAp|aAb|lAb|cAb|kAb|aFl|lFl|cFl|kFl|aLo|lLo|cLo|kLo|aFk|lFk|cFk|kFk|aKl|lKl|cKl|kKl|aMr|lMr|cMr|kMr|aLs|lLs|cLs|kLs|aSz|lSz|cSz|kSz|aLr|lLr|cLr|kLr|aWk|lWk|cWk|kWk|aAg|lAg|cAg|kAg|aZ|lZ|cZ|kZ|aXg|iXg|lXg|cXg|kXg=>k_is
  case mxCG|tfCG=>(first|kernel_rfl|decide +kernel)
  case qu|zany|zdict|zzip|zset|zlen|zrange|ztuple|zlist|zsorted|zisin|zint|zbool|zmax|zmin=>k_is
