import PyProof.Rows.All
import Wide.All
import OpenK.AllK
import Wide.FinOn
import Lean
import PyProof.EqAt
import PyProof.EqKinds
import PyProof.TupleCall
import PySem.Challenge.RW_logloom_k30_learnt
set_option Elab.async false
set_option linter.all false
set_option maxRecDepth 100000
theorem hWs30:PySem.Challenge.rw_logloom_k30_learnt.wellSaid=true:=by kernel_rfl
namespace HT
open PySem PySem.W
abbrev annR:Option Value:=some (.ref 6)
noncomputable abbrev okQ:Thread->Bool:=Fast.tw6613529449190102663 11 annR
noncomputable abbrev stQ (p:Program) (w:World):SharedT->Thread->Option (SharedT×Thread):=
 Fast.tw10156331382660048174 (Fast.tw11892475500146522536 Fast.tw14364793385576792824) p w
noncomputable def runQ (p:Program) (w:World):Nat->SharedT->Thread->Option SharedT
 |0,_,_=>none
 |fuel+1,a,th=>@Bool.rec (fun _=>Option SharedT)
   (@Bool.rec (fun _=>Option SharedT) none (@Option.rec (SharedT×Thread) (fun _=>Option SharedT) none (fun r=>runQ p w fuel r.1 r.2) (stQ p w a th)) (okQ th))
   (some a) (through th)
theorem okQ_is (th:Thread):okQ th=stepOk 11 annR th:=by
 show Fast.tw6613529449190102663 11 annR th=_
 rw[<- Fast.te6613529449190102663]
theorem stQ_is (p:Program)(w:World)(a:SharedT)(th:Thread):stQ p w a th=stepT (denote treeTable) p w a th:=by
 show Fast.tw10156331382660048174 (Fast.tw11892475500146522536 Fast.tw14364793385576792824) p w a th=_
 rw[<- Fast.te10156331382660048174,<- Fast.te11892475500146522536,<- Fast.te14364793385576792824]
theorem runQ_top {p:Program}{w:World}:∀(fuel:Nat) (a b:SharedT) (th:Thread),
  runQ p w fuel a th=some b->topRun treeTable p w 11 annR fuel a.abs th=some b.abs
 |0,_,_,_,e=>by cases e
 |fuel+1,a,b,th,e=>by
  unfold runQ at e
  unfold topRun
  rw[okQ_is,stQ_is] at e
  cases e1:through th
  ·rw[e1] at e
   cases e2:stepOk 11 annR th
   ·rw[e2] at e;cases e
   ·rw[e2] at e
    cases e3:stepT (denote treeTable) p w a th with
    |none=>rw[e3] at e;cases e
    |some r=>
     rw[e3] at e
     have e4:=stepT_spec (s':=r.1) (t':=r.2) e3
     rw[e4]
     exact runQ_top fuel r.1 b r.2 e
  ·rw[e1] at e
   have:a=b:=Option.some.inj e
   rw[this]
noncomputable def bT (P:Params):BT:=
 .node (boot_o_0 P)
  (.node (boot_o_1 P) (.node (boot_o_3 P) (.node (boot_o_7 P) .nil .nil) .nil) (.node (boot_o_5 P) (.node (boot_o_9 P) .nil .nil) .nil))
  (.node (boot_o_2 P) (.node (boot_o_4 P) (.node (boot_o_8 P) .nil .nil) .nil) (.node (boot_o_6 P) (.node (boot_o_10 P) .nil .nil) .nil))
theorem bT_boot:∀P,boot_heap P=absHeap (bT P) 11 {}:=fun P=>by kernel_rfl
noncomputable abbrev at0 (w:World) (os:OsState):SharedT:=⟨bT w.params,11,{},Array.mk [],boot_drawn,boot_toks,os⟩
theorem at0_abs (w:World)(os:OsState):(at0 w os).abs=⟨boot_heap w.params,Array.mk [],boot_drawn,boot_toks,os⟩:=by
 rw[bT_boot];rfl
theorem boot_looks:∀P:Params,(((boot_heap P).isNs mainGlobals&&(#[]:Array GenState).size==0)=true/\(boot_heap P).objs.size=11)∧
  (boot_heap P).nsMap mainGlobals "__annotations__"=annR:=fun P=>⟨⟨by kernel_rfl,by kernel_rfl⟩,by kernel_rfl⟩
noncomputable abbrev kept (p:Program) (P:Params) (b:Shared):Bool:=
 staticsOk (importedModules p.main.body) (boot_heap P) b.heap&&namesBound p b.heap&&gensDone b&&laidKept (boot_heap P) b.heap
theorem left1 {p q:Program}{loose:List Str}{Xt:Shared->Bool}{α:Type}{Yf:Shared->α}{Ya:World->α}{N:Nat}{g0:Bool}
  (e:opening p=plainProg p.main.scope.names) (hN:Nat.ble 600 N=true) (f:∀s,fenceModules? p s=some s)
  (run:∀(w:World) (os:OsState),(runQ p w N (at0 w os) (topStub p)).map (fun b=>
   (kept p w.params b.abs,Fast.tw4187177175401517315 q loose (importedModules p.main.body) Xt g0 b.abs,Yf b.abs))=some (true,openGood q loose,Ya w)):
  LeftO p q loose Xt Yf Ya N g0:=by
 intro w
 obtain⟨⟨hp,gs,d,k,os⟩,o1,o2⟩:=Option.map_eq_some_iff.mp (boot_open e hN f w)
 obtain⟨rfl,rfl,rfl,rfl⟩:hp=boot_heap w.params/\gs=Array.mk []/\d=boot_drawn/\k=boot_toks:=by
  simpa using o2
 obtain⟨⟨z1,z2⟩,z3⟩:=boot_looks w.params
 have r:=run w os
 rw[<- Fast.te4187177175401517315] at r
 obtain⟨b,r1,r2⟩:=Option.map_eq_some_iff.mp r
 rw[Prod.mk.injEq,Prod.mk.injEq] at r2
 have r3:=runQ_top N _ b _ r1
 rw[at0_abs] at r3
 have r4:topFrom treeTable p w N ⟨boot_heap w.params,Array.mk [],boot_drawn,boot_toks,os⟩=some b.abs:=by
  have k1:kept p w.params b.abs=true:=r2.1
  unfold kept at k1
  unfold topFrom
  simp only[z1,z2,z3,r3,Option.bind_some,k1]
 have r5:openEnds treeTable p w N=some b.abs:=by
  unfold openEnds
  simp only[o1,Option.bind_some,r4]
 rw[r5]
 exact congrArg some (by rw[<- r2.2.1,<- r2.2.2])
theorem left3 {p q:Program}{loose:List Str}{Xt:Shared->Bool}{α:Type}{Yf:Shared->α}{Ya:World->α}{N:Nat}{g0:Bool}(e:opening p=plainProg p.main.scope.names)(hN:Nat.ble 600 N=true)(f:∀s,fenceModules? p s=some s)
 (r1:∀(w:World) (os:OsState),(runQ p w N (at0 w os) (topStub p)).map (fun b=>kept p w.params b.abs)=some true)
 (r2:∀(w:World) (os:OsState),(runQ p w N (at0 w os) (topStub p)).map (fun b=>Fast.tw4187177175401517315 q loose (importedModules p.main.body) Xt g0 b.abs)=some (openGood q loose))
 (r3:∀(w:World) (os:OsState),(runQ p w N (at0 w os) (topStub p)).map (fun b=>Yf b.abs)=some (Ya w)):LeftO p q loose Xt Yf Ya N g0:=
 left1 e hN f fun w os=>by
 obtain⟨b,e1,e2⟩:=Option.map_eq_some_iff.mp (r1 w os)
 have h2:=r2 w os
 have h3:=r3 w os
 rw[e1] at h2 h3 ⊢
 exact congrArg some (Prod.ext e2 (Prod.ext (Option.some.inj h2) (Option.some.inj h3)))
end HT
namespace L2
open PySem
def inClass (s:Stmt)(j:Nat):Stmt:=match s with
 |.ClassDef _ _ _ body _ _ _ _ _ _ _=>body.getD j (.Pass ⟨0,0,0,0⟩)
 |_=>.Pass ⟨0,0,0,0⟩
def defArgs (s:Stmt):Arguments:=match s with
 |.FunctionDef _ a _ _ _ _ _ _ _ _=>a
 |_=>{ posonlyargs:=[],args:=[],vararg:=none,kwonlyargs:=[],kw_defaults:=[],kwarg:=none,defaults:=[] }
def defBody (s:Stmt):List Stmt:=match s with
 |.FunctionDef _ _ b _ _ _ _ _ _ _=>b
 |_=>[]
def defScope (s:Stmt):Scope:=match s with
 |.FunctionDef _ _ _ _ _ _ sc _ _ _=>sc
 |_=>{ kind:=.function,names:=[],isGenerator:=false,isCoroutine:=false }
end L2
namespace K21
open PySem L2
def top (i:Nat):Stmt:=PySem.Challenge.pw_logloom_k30_learnt.main.body.getD i (.Pass ⟨0,0,0,0⟩)
abbrev sXg:Stmt:=inClass (top 2) 0
abbrev sXp:Stmt:=inClass (top 3) 0
abbrev sFk:Stmt:=top 5
abbrev sKl:Stmt:=top 6
abbrev sLs:Stmt:=top 8
abbrev sMr:Stmt:=top 9
abbrev sRB:Stmt:=top 11
abbrev sLB:Stmt:=top 12
abbrev sTi:Stmt:=inClass (top 14) 0
abbrev sAn:Stmt:=inClass (top 14) 1
abbrev sMo:Stmt:=inClass (top 14) 2
abbrev sMb:Stmt:=inClass (top 14) 3
abbrev sFh:Stmt:=inClass (top 14) 4
abbrev sLm:Stmt:=inClass (top 14) 5
abbrev sAt:Stmt:=inClass (top 14) 6
abbrev sLt:Stmt:=top 15
abbrev sWh:Stmt:=top 17
abbrev sCe:Stmt:=top 18
abbrev sMa:Stmt:=top 19
abbrev sPt:Stmt:=top 20
abbrev sGo:Stmt:=top 21
abbrev sRu:Stmt:=top 22
abbrev sLo:Stmt:=top 23
abbrev sLe:Stmt:=top 24
abbrev sIm:Stmt:=top 25
abbrev sCt:Stmt:=top 26
abbrev sLaw:Stmt:=top 27
abbrev cMod:Int:=2
structure Txt (mg:Str->Option Value):Prop where
 len:mg "len"=none
 range:mg "range"=none
 tuple:mg "tuple"=none
 isin:mg "isinstance"=none
 int:mg "int"=none
 bool:mg "bool"=none
 zip:mg "zip"=none
 set:mg "set"=none
 enum:mg "enumerate"=none
 sum:mg "sum"=none
end K21
namespace K21
open PySem L2
abbrev tu0:Obj:={cls:=.type "tuple",data:=.seq #[]}
def hK:PySem.Params->W.Frag:=fun P=>
 (nat_lit 2,{cls:=.none,data:=.dict #[]})::
 (nat_lit 3,{cls:=.type "dict",data:=.dict #[⟨PyData.keyHash P "__name__",.str "__name__" 165,.str "law_logloom_k30_learnt" 397⟩,⟨PyData.keyHash P "__doc__",.str "__doc__" 166,.none⟩,⟨PyData.keyHash P "__package__",.str "__package__" 167,.none⟩,⟨PyData.keyHash P "__loader__",.str "__loader__" 168,.builtin "__main__.__loader__#opaque"⟩,⟨PyData.keyHash P "__spec__",.str "__spec__" 169,.none⟩,⟨PyData.keyHash P "__annotations__",.str "__annotations__" 170,.ref 6⟩,⟨PyData.keyHash P "__builtins__",.str "__builtins__" 171,.ref 4⟩,⟨PyData.keyHash P "__file__",.str "__file__" 173,.str "/claim/cut.py" 172⟩,⟨PyData.keyHash P "__cached__",.str "__cached__" 174,.none⟩,⟨PyData.keyHash P "LoomError",.str "LoomError" 206,.ref 24⟩,⟨PyData.keyHash P "TooGreat",.str "TooGreat" 231,.ref 44⟩,⟨PyData.keyHash P "NoParting",.str "NoParting" 256,.ref 63⟩,⟨PyData.keyHash P "finer_kinds",.str "finer_kinds" 264,.ref 70⟩,⟨PyData.keyHash P "kinds_by_length",.str "kinds_by_length" 270,.ref 75⟩,⟨PyData.keyHash P "least",.str "least" 278,.ref 80⟩,⟨PyData.keyHash P "merged_room",.str "merged_room" 284,.ref 85⟩,⟨PyData.keyHash P "room_behind",.str "room_behind" 298,.ref 92⟩,⟨PyData.keyHash P "lets_by",.str "lets_by" 306,.ref 99⟩,⟨PyData.keyHash P "Table",.str "Table" 382,.ref 150⟩,⟨PyData.keyHash P "learnt",.str "learnt" 396,.ref 162⟩,⟨PyData.keyHash P "_law_whole",.str "_law_whole" 405,.ref 169⟩,⟨PyData.keyHash P "_law_cell_at",.str "_law_cell_at" 413,.ref 176⟩,⟨PyData.keyHash P "_law_machine",.str "_law_machine" 419,.ref 181⟩,⟨PyData.keyHash P "_law_part",.str "_law_part" 435,.ref 188⟩,⟨PyData.keyHash P "_law_good",.str "_law_good" 445,.ref 195⟩,⟨PyData.keyHash P "_law_run",.str "_law_run" 455,.ref 202⟩,⟨PyData.keyHash P "_law_longer",.str "_law_longer" 468,.ref 209⟩,⟨PyData.keyHash P "_law_lesson",.str "_law_lesson" 485,.ref 216⟩,⟨PyData.keyHash P "_law_is_machine",.str "_law_is_machine" 495,.ref 223⟩,⟨PyData.keyHash P "_law_counts",.str "_law_counts" 501,.ref 228⟩,⟨PyData.keyHash P "law",.str "law" 515,.ref 235⟩] 31})::
 (nat_lit 15,{cls:=.type "tuple",data:=.seq #[.type "ValueError"]})::
 (nat_lit 22,tu0)::
 (nat_lit 23,{cls:=.type "dict",data:=.dict #[⟨PyData.keyHash P "__module__",.str "__module__" 196,.str "logloom.errors" 187⟩,⟨PyData.keyHash P "__firstlineno__",.str "__firstlineno__" 200,.int 2 199⟩,⟨PyData.keyHash P "__static_attributes__",.str "__static_attributes__" 201,.ref 22⟩,⟨PyData.keyHash P "__weakref__",.str "__weakref__" 203,.ref 25⟩,⟨PyData.keyHash P "__doc__",.str "__doc__" 204,.none⟩] 3})::
 (nat_lit 24,{cls:=.type "type",data:=Data.cls { name:=Str.ofString "LoomError",bases:=[.type "ValueError"],mro:=[.ref 24,.type "ValueError",.type "Exception",.type "BaseException",.type "object"],ns:=23,qualname:=Str.ofString "LoomError",subclasses:=[.ref 44,.ref 63]},slots:=#[some (.ref 15),none,some (.str "LoomError" 189),some (.str "LoomError" 197),some (.builtin "ValueError.__new__"),some (.bool true)]})::
 (nat_lit 25,{cls:=.type "getset_descriptor",data:=.fields #[.str "__weakref__" 202,.ref 24,.builtin "ExceptionGroup.__weakref__",.none]})::
 (nat_lit 28,{cls:=.type "tuple",data:=.seq #[.ref 24]})::
 (nat_lit 35,tu0)::
 (nat_lit 37,{cls:=.type "tuple",data:=.seq #[.str "self" 222,.str "number" 223]})::
 (nat_lit 38,tu0)::
 (nat_lit 40,{cls:=.type "code",data:=.fields #[.str "__init__" 219,.str "TooGreat.__init__" 220,.str "/claim/cut.py" 221,.int 6 0,.int 2 0,.int 0 0,.int 0 0,.int 3 0,.ref 35,.bool true,.int 181 0,.ref 36,.none,.ref 37,.ref 38,.ref 39,.int 224 0,.int 6 0,.str "/claim/cut.py" 225]})::
 (nat_lit 41,⟨(.type "function"),none,.func (W.fnOf "__init__" "TooGreat.__init__" (defArgs (inClass (top 2) 0)) (defBody (inClass (top 2) 0)) (defScope (inClass (top 2) 0)) .none .none .none (.str "logloom.errors" 187) none (.ref 40) .none),#[]⟩)::
 (nat_lit 42,{cls:=.type "tuple",data:=.seq #[.str "number" 227]})::
 (nat_lit 43,{cls:=.type "dict",data:=.dict #[⟨PyData.keyHash P "__module__",.str "__module__" 214,.str "logloom.errors" 187⟩,⟨PyData.keyHash P "__firstlineno__",.str "__firstlineno__" 218,.int 4 217⟩,⟨PyData.keyHash P "__init__",.str "__init__" 226,.ref 41⟩,⟨PyData.keyHash P "__static_attributes__",.str "__static_attributes__" 228,.ref 42⟩,⟨PyData.keyHash P "__doc__",.str "__doc__" 229,.none⟩] 2})::
 (nat_lit 44,{cls:=.type "type",data:=Data.cls { name:=Str.ofString "TooGreat",bases:=[.ref 24],mro:=[.ref 44,.ref 24,.type "ValueError",.type "Exception",.type "BaseException",.type "object"],ns:=43,qualname:=Str.ofString "TooGreat"},slots:=#[some (.ref 28),none,some (.str "TooGreat" 207),some (.str "TooGreat" 215),some (.builtin "ValueError.__new__"),some (.bool true)]})::
 (nat_lit 47,{cls:=.type "tuple",data:=.seq #[.ref 24]})::
 (nat_lit 54,tu0)::
 (nat_lit 56,{cls:=.type "tuple",data:=.seq #[.str "self" 247,.str "run" 248]})::
 (nat_lit 57,tu0)::
 (nat_lit 59,{cls:=.type "code",data:=.fields #[.str "__init__" 244,.str "NoParting.__init__" 245,.str "/claim/cut.py" 246,.int 10 0,.int 2 0,.int 0 0,.int 0 0,.int 3 0,.ref 54,.bool true,.int 181 0,.ref 55,.none,.ref 56,.ref 57,.ref 58,.int 249 0,.int 10 0,.str "/claim/cut.py" 250]})::
 (nat_lit 60,⟨(.type "function"),none,.func (W.fnOf "__init__" "NoParting.__init__" (defArgs (inClass (top 3) 0)) (defBody (inClass (top 3) 0)) (defScope (inClass (top 3) 0)) .none .none .none (.str "logloom.errors" 187) none (.ref 59) .none),#[]⟩)::
 (nat_lit 61,{cls:=.type "tuple",data:=.seq #[.str "run" 252]})::
 (nat_lit 62,{cls:=.type "dict",data:=.dict #[⟨PyData.keyHash P "__module__",.str "__module__" 239,.str "logloom.errors" 187⟩,⟨PyData.keyHash P "__firstlineno__",.str "__firstlineno__" 243,.int 8 242⟩,⟨PyData.keyHash P "__init__",.str "__init__" 251,.ref 60⟩,⟨PyData.keyHash P "__static_attributes__",.str "__static_attributes__" 253,.ref 61⟩,⟨PyData.keyHash P "__doc__",.str "__doc__" 254,.none⟩] 2})::
 (nat_lit 63,{cls:=.type "type",data:=Data.cls { name:=Str.ofString "NoParting",bases:=[.ref 24],mro:=[.ref 63,.ref 24,.type "ValueError",.type "Exception",.type "BaseException",.type "object"],ns:=62,qualname:=Str.ofString "NoParting"},slots:=#[some (.ref 47),none,some (.str "NoParting" 232),some (.str "NoParting" 240),some (.builtin "ValueError.__new__"),some (.bool true)]})::
 (nat_lit 66,tu0)::
 (nat_lit 69,{cls:=.type "code",data:=.fields #[.str "finer_kinds" 259,.str "finer_kinds" 260,.str "/claim/cut.py" 261,.int 13 0,.int 2 0,.int 0 0,.int 0 0,.int 3 0,.ref 66,.bool true,.int 181 0,.ref 67,.none,.none,.none,.ref 68,.int 262 0,.int 13 0,.str "/claim/cut.py" 263]})::
 (nat_lit 70,⟨(.type "function"),none,.func (W.fnOf "finer_kinds" "finer_kinds" (defArgs (top 5)) (defBody (top 5)) (defScope (top 5)) .none .none .none (.str "logloom.parting" 257) none (.ref 69) .none),#[]⟩)::
 (nat_lit 71,tu0)::
 (nat_lit 74,{cls:=.type "code",data:=.fields #[.str "kinds_by_length" 265,.str "kinds_by_length" 266,.str "/claim/cut.py" 267,.int 20 0,.int 1 0,.int 0 0,.int 0 0,.int 3 0,.ref 71,.bool true,.int 181 0,.ref 72,.none,.none,.none,.ref 73,.int 268 0,.int 20 0,.str "/claim/cut.py" 269]})::
 (nat_lit 75,⟨(.type "function"),none,.func (W.fnOf "kinds_by_length" "kinds_by_length" (defArgs (top 6)) (defBody (top 6)) (defScope (top 6)) .none .none .none (.str "logloom.parting" 257) none (.ref 74) .none),#[]⟩)::
 (nat_lit 76,tu0)::
 (nat_lit 79,{cls:=.type "code",data:=.fields #[.str "least" 273,.str "least" 274,.str "/claim/cut.py" 275,.int 28 0,.int 1 0,.int 0 0,.int 0 0,.int 3 0,.ref 76,.bool true,.int 181 0,.ref 77,.none,.none,.none,.ref 78,.int 276 0,.int 28 0,.str "/claim/cut.py" 277]})::
 (nat_lit 80,⟨(.type "function"),none,.func (W.fnOf "least" "least" (defArgs (top 8)) (defBody (top 8)) (defScope (top 8)) .none .none .none (.str "logloom.least" 271) none (.ref 79) .none),#[]⟩)::
 (nat_lit 81,tu0)::
 (nat_lit 84,{cls:=.type "code",data:=.fields #[.str "merged_room" 279,.str "merged_room" 280,.str "/claim/cut.py" 281,.int 42 0,.int 3 0,.int 0 0,.int 0 0,.int 3 0,.ref 81,.bool true,.int 181 0,.ref 82,.none,.none,.none,.ref 83,.int 282 0,.int 42 0,.str "/claim/cut.py" 283]})::
 (nat_lit 85,⟨(.type "function"),none,.func (W.fnOf "merged_room" "merged_room" (defArgs (top 9)) (defBody (top 9)) (defScope (top 9)) .none .none .none (.str "logloom.least" 271) none (.ref 84) .none),#[]⟩)::
 (nat_lit 86,tu0)::
 (nat_lit 88,{cls:=.type "tuple",data:=.seq #[.str "machine" 290,.str "room" 291,.str "run" 292,.str "rooms" 293,.str "here" 294,.str "letter" 295]})::
 (nat_lit 89,tu0)::
 (nat_lit 91,{cls:=.type "code",data:=.fields #[.str "room_behind" 287,.str "room_behind" 288,.str "/claim/cut.py" 289,.int 45 0,.int 3 0,.int 0 0,.int 0 0,.int 3 0,.ref 86,.bool true,.int 181 0,.ref 87,.none,.ref 88,.ref 89,.ref 90,.int 296 0,.int 45 0,.str "/claim/cut.py" 297]})::
 (nat_lit 92,⟨(.type "function"),none,.func (W.fnOf "room_behind" "room_behind" (defArgs (top 11)) (defBody (top 11)) (defScope (top 11)) .none .none .none (.str "logloom.machines" 285) none (.ref 91) .none),#[]⟩)::
 (nat_lit 93,tu0)::
 (nat_lit 95,{cls:=.type "tuple",data:=.seq #[.str "machine" 302,.str "run" 303]})::
 (nat_lit 96,tu0)::
 (nat_lit 98,{cls:=.type "code",data:=.fields #[.str "lets_by" 299,.str "lets_by" 300,.str "/claim/cut.py" 301,.int 51 0,.int 2 0,.int 0 0,.int 0 0,.int 3 0,.ref 93,.bool true,.int 181 0,.ref 94,.none,.ref 95,.ref 96,.ref 97,.int 304 0,.int 51 0,.str "/claim/cut.py" 305]})::
 (nat_lit 99,⟨(.type "function"),none,.func (W.fnOf "lets_by" "lets_by" (defArgs (top 12)) (defBody (top 12)) (defScope (top 12)) .none .none .none (.str "logloom.machines" 285) none (.ref 98) .none),#[]⟩)::
 (nat_lit 107,tu0)::
 (nat_lit 109,{cls:=.type "tuple",data:=.seq #[.str "self" 324,.str "many" 325]})::
 (nat_lit 110,tu0)::
 (nat_lit 112,{cls:=.type "code",data:=.fields #[.str "__init__" 321,.str "Table.__init__" 322,.str "/claim/cut.py" 323,.int 56 0,.int 2 0,.int 0 0,.int 0 0,.int 3 0,.ref 107,.bool true,.int 181 0,.ref 108,.none,.ref 109,.ref 110,.ref 111,.int 326 0,.int 56 0,.str "/claim/cut.py" 327]})::
 (nat_lit 113,⟨(.type "function"),none,.func (W.fnOf "__init__" "Table.__init__" (defArgs (inClass (top 14) 0)) (defBody (inClass (top 14) 0)) (defScope (inClass (top 14) 0)) .none .none .none (.str "logloom.learning" 307) none (.ref 112) .none),#[]⟩)::
 (nat_lit 114,tu0)::
 (nat_lit 116,{cls:=.type "tuple",data:=.seq #[.str "self" 332,.str "run" 333,.str "may" 334]})::
 (nat_lit 117,tu0)::
 (nat_lit 119,{cls:=.type "code",data:=.fields #[.str "answer" 329,.str "Table.answer" 330,.str "/claim/cut.py" 331,.int 62 0,.int 3 0,.int 0 0,.int 0 0,.int 3 0,.ref 114,.bool true,.int 181 0,.ref 115,.none,.ref 116,.ref 117,.ref 118,.int 335 0,.int 62 0,.str "/claim/cut.py" 336]})::
 (nat_lit 120,⟨(.type "function"),none,.func (W.fnOf "answer" "Table.answer" (defArgs (inClass (top 14) 1)) (defBody (inClass (top 14) 1)) (defScope (inClass (top 14) 1)) .none .none .none (.str "logloom.learning" 307) none (.ref 119) .none),#[]⟩)::
 (nat_lit 121,tu0)::
 (nat_lit 124,{cls:=.type "code",data:=.fields #[.str "marks_of" 338,.str "Table.marks_of" 339,.str "/claim/cut.py" 340,.int 67 0,.int 3 0,.int 0 0,.int 0 0,.int 3 0,.ref 121,.bool true,.int 181 0,.ref 122,.none,.none,.none,.ref 123,.int 341 0,.int 67 0,.str "/claim/cut.py" 342]})::
 (nat_lit 125,⟨(.type "function"),none,.func (W.fnOf "marks_of" "Table.marks_of" (defArgs (inClass (top 14) 2)) (defBody (inClass (top 14) 2)) (defScope (inClass (top 14) 2)) .none .none .none (.str "logloom.learning" 307) none (.ref 124) .none),#[]⟩)::
 (nat_lit 126,tu0)::
 (nat_lit 129,{cls:=.type "code",data:=.fields #[.str "marks_behind" 344,.str "Table.marks_behind" 345,.str "/claim/cut.py" 346,.int 70 0,.int 3 0,.int 0 0,.int 0 0,.int 3 0,.ref 126,.bool true,.int 181 0,.ref 127,.none,.none,.none,.ref 128,.int 347 0,.int 70 0,.str "/claim/cut.py" 348]})::
 (nat_lit 130,⟨(.type "function"),none,.func (W.fnOf "marks_behind" "Table.marks_behind" (defArgs (inClass (top 14) 3)) (defBody (inClass (top 14) 3)) (defScope (inClass (top 14) 3)) .none .none .none (.str "logloom.learning" 307) none (.ref 129) .none),#[]⟩)::
 (nat_lit 131,tu0)::
 (nat_lit 134,{cls:=.type "code",data:=.fields #[.str "find_heads" 350,.str "Table.find_heads" 351,.str "/claim/cut.py" 352,.int 73 0,.int 3 0,.int 0 0,.int 0 0,.int 3 0,.ref 131,.bool true,.int 181 0,.ref 132,.none,.none,.none,.ref 133,.int 353 0,.int 73 0,.str "/claim/cut.py" 354]})::
 (nat_lit 135,⟨(.type "function"),none,.func (W.fnOf "find_heads" "Table.find_heads" (defArgs (inClass (top 14) 4)) (defBody (inClass (top 14) 4)) (defScope (inClass (top 14) 4)) .none .none .none (.str "logloom.learning" 307) none (.ref 134) .none),#[]⟩)::
 (nat_lit 136,tu0)::
 (nat_lit 139,{cls:=.type "code",data:=.fields #[.str "least_machine" 356,.str "Table.least_machine" 357,.str "/claim/cut.py" 358,.int 87 0,.int 2 0,.int 0 0,.int 0 0,.int 3 0,.ref 136,.bool true,.int 181 0,.ref 137,.none,.none,.none,.ref 138,.int 359 0,.int 87 0,.str "/claim/cut.py" 360]})::
 (nat_lit 140,⟨(.type "function"),none,.func (W.fnOf "least_machine" "Table.least_machine" (defArgs (inClass (top 14) 5)) (defBody (inClass (top 14) 5)) (defScope (inClass (top 14) 5)) .none .none .none (.str "logloom.learning" 307) none (.ref 139) .none),#[]⟩)::
 (nat_lit 141,tu0)::
 (nat_lit 143,{cls:=.type "tuple",data:=.seq #[.str "self" 365,.str "run" 366,.str "start" 367]})::
 (nat_lit 144,tu0)::
 (nat_lit 146,{cls:=.type "code",data:=.fields #[.str "add_tails" 362,.str "Table.add_tails" 363,.str "/claim/cut.py" 364,.int 95 0,.int 2 0,.int 0 0,.int 0 0,.int 3 0,.ref 141,.bool true,.int 181 0,.ref 142,.none,.ref 143,.ref 144,.ref 145,.int 368 0,.int 95 0,.str "/claim/cut.py" 369]})::
 (nat_lit 147,⟨(.type "function"),none,.func (W.fnOf "add_tails" "Table.add_tails" (defArgs (inClass (top 14) 6)) (defBody (inClass (top 14) 6)) (defScope (inClass (top 14) 6)) .none .none .none (.str "logloom.learning" 307) none (.ref 146) .none),#[]⟩)::
 (nat_lit 148,{cls:=.type "tuple",data:=.seq #[.str "answers" 371,.str "heads" 372,.str "many" 373,.str "tails" 374]})::
 (nat_lit 149,{cls:=.type "dict",data:=.dict #[⟨PyData.keyHash P "__module__",.str "__module__" 316,.str "logloom.learning" 307⟩,⟨PyData.keyHash P "__firstlineno__",.str "__firstlineno__" 320,.int 54 319⟩,⟨PyData.keyHash P "__init__",.str "__init__" 328,.ref 113⟩,⟨PyData.keyHash P "answer",.str "answer" 337,.ref 120⟩,⟨PyData.keyHash P "marks_of",.str "marks_of" 343,.ref 125⟩,⟨PyData.keyHash P "marks_behind",.str "marks_behind" 349,.ref 130⟩,⟨PyData.keyHash P "find_heads",.str "find_heads" 355,.ref 135⟩,⟨PyData.keyHash P "least_machine",.str "least_machine" 361,.ref 140⟩,⟨PyData.keyHash P "add_tails",.str "add_tails" 370,.ref 147⟩,⟨PyData.keyHash P "__static_attributes__",.str "__static_attributes__" 375,.ref 148⟩,⟨PyData.keyHash P "__dict__",.str "__dict__" 377,.ref 151⟩,⟨PyData.keyHash P "__weakref__",.str "__weakref__" 379,.ref 152⟩,⟨PyData.keyHash P "__doc__",.str "__doc__" 380,.none⟩] 4})::
 (nat_lit 150,{cls:=.type "type",data:=Data.cls { name:=Str.ofString "Table",bases:=[.type "object"],mro:=[.ref 150,.type "object"],ns:=149,qualname:=Str.ofString "Table"},slots:=#[none,none,some (.str "Table" 309),some (.str "Table" 317),some (.builtin "object.__new__"),some (.bool true)]})::
 (nat_lit 151,{cls:=.type "getset_descriptor",data:=.fields #[.str "__dict__" 376,.ref 150,.builtin "function.__dict__",.builtin "function.__dict__#set"]})::
 (nat_lit 152,{cls:=.type "getset_descriptor",data:=.fields #[.str "__weakref__" 378,.ref 150,.builtin "ExceptionGroup.__weakref__",.none]})::
 (nat_lit 155,{cls:=.type "tuple",data:=.seq #[.int 6 383]})::
 (nat_lit 156,tu0)::
 (nat_lit 158,{cls:=.type "tuple",data:=.seq #[.str "many" 387,.str "may" 388,.str "parting" 389,.str "most" 390,.str "table" 391,.str "machine" 392,.str "run" 393]})::
 (nat_lit 159,tu0)::
 (nat_lit 161,{cls:=.type "code",data:=.fields #[.str "learnt" 384,.str "learnt" 385,.str "/claim/cut.py" 386,.int 99 0,.int 4 0,.int 0 0,.int 0 0,.int 3 0,.ref 156,.bool true,.int 181 0,.ref 157,.none,.ref 158,.ref 159,.ref 160,.int 394 0,.int 99 0,.str "/claim/cut.py" 395]})::
 (nat_lit 162,⟨(.type "function"),none,.func (W.fnOf "learnt" "learnt" (defArgs (top 15)) (defBody (top 15)) (defScope (top 15)) (.ref 155) .none .none (.str "logloom.learning" 307) none (.ref 161) .none),#[]⟩)::
 (nat_lit 163,tu0)::
 (nat_lit 165,{cls:=.type "tuple",data:=.seq #[.str "_law_found" 402]})::
 (nat_lit 166,tu0)::
 (nat_lit 168,{cls:=.type "code",data:=.fields #[.str "_law_whole" 399,.str "_law_whole" 400,.str "/claim/cut.py" 401,.int 111 0,.int 1 0,.int 0 0,.int 0 0,.int 3 0,.ref 163,.bool true,.int 181 0,.ref 164,.none,.ref 165,.ref 166,.ref 167,.int 403 0,.int 111 0,.str "/claim/cut.py" 404]})::
 (nat_lit 169,⟨(.type "function"),none,.func (W.fnOf "_law_whole" "_law_whole" (defArgs (top 17)) (defBody (top 17)) (defScope (top 17)) .none .none .none (.str "law_logloom_k30_learnt" 397) none (.ref 168) .none),#[]⟩)::
 (nat_lit 170,tu0)::
 (nat_lit 172,{cls:=.type "tuple",data:=.seq #[.str "_law_script" 409,.str "_law_k" 410]})::
 (nat_lit 173,tu0)::
 (nat_lit 175,{cls:=.type "code",data:=.fields #[.str "_law_cell_at" 406,.str "_law_cell_at" 407,.str "/claim/cut.py" 408,.int 113 0,.int 2 0,.int 0 0,.int 0 0,.int 3 0,.ref 170,.bool true,.int 181 0,.ref 171,.none,.ref 172,.ref 173,.ref 174,.int 411 0,.int 113 0,.str "/claim/cut.py" 412]})::
 (nat_lit 176,⟨(.type "function"),none,.func (W.fnOf "_law_cell_at" "_law_cell_at" (defArgs (top 18)) (defBody (top 18)) (defScope (top 18)) .none .none .none (.str "law_logloom_k30_learnt" 397) none (.ref 175) .none),#[]⟩)::
 (nat_lit 177,tu0)::
 (nat_lit 180,{cls:=.type "code",data:=.fields #[.str "_law_machine" 414,.str "_law_machine" 415,.str "/claim/cut.py" 416,.int 119 0,.int 3 0,.int 0 0,.int 0 0,.int 3 0,.ref 177,.bool true,.int 181 0,.ref 178,.none,.none,.none,.ref 179,.int 417 0,.int 119 0,.str "/claim/cut.py" 418]})::
 (nat_lit 181,⟨(.type "function"),none,.func (W.fnOf "_law_machine" "_law_machine" (defArgs (top 19)) (defBody (top 19)) (defScope (top 19)) .none .none .none (.str "law_logloom_k30_learnt" 397) none (.ref 180) .none),#[]⟩)::
 (nat_lit 182,tu0)::
 (nat_lit 184,{cls:=.type "tuple",data:=.seq #[.str "_law_one" 423,.str "_law_other" 424,.str "_law_met" 425,.str "_law_waiting" 426,.str "_law_later" 427,.str "_law_left" 428,.str "_law_right" 429,.str "_law_run_here" 430,.str "_law_letter" 431,.str "_law_pair" 432]})::
 (nat_lit 185,tu0)::
 (nat_lit 187,{cls:=.type "code",data:=.fields #[.str "_law_part" 420,.str "_law_part" 421,.str "/claim/cut.py" 422,.int 131 0,.int 2 0,.int 0 0,.int 0 0,.int 3 0,.ref 182,.bool true,.int 181 0,.ref 183,.none,.ref 184,.ref 185,.ref 186,.int 433 0,.int 131 0,.str "/claim/cut.py" 434]})::
 (nat_lit 188,⟨(.type "function"),none,.func (W.fnOf "_law_part" "_law_part" (defArgs (top 20)) (defBody (top 20)) (defScope (top 20)) .none .none .none (.str "law_logloom_k30_learnt" 397) none (.ref 187) .none),#[]⟩)::
 (nat_lit 189,tu0)::
 (nat_lit 191,{cls:=.type "tuple",data:=.seq #[.str "_law_machine_here" 439,.str "_law_run_here" 440,.str "_law_room" 441,.str "_law_letter" 442]})::
 (nat_lit 192,tu0)::
 (nat_lit 194,{cls:=.type "code",data:=.fields #[.str "_law_good" 436,.str "_law_good" 437,.str "/claim/cut.py" 438,.int 146 0,.int 2 0,.int 0 0,.int 0 0,.int 3 0,.ref 189,.bool true,.int 181 0,.ref 190,.none,.ref 191,.ref 192,.ref 193,.int 443 0,.int 146 0,.str "/claim/cut.py" 444]})::
 (nat_lit 195,⟨(.type "function"),none,.func (W.fnOf "_law_good" "_law_good" (defArgs (top 21)) (defBody (top 21)) (defScope (top 21)) .none .none .none (.str "law_logloom_k30_learnt" 397) none (.ref 194) .none),#[]⟩)::
 (nat_lit 196,tu0)::
 (nat_lit 198,{cls:=.type "tuple",data:=.seq #[.str "_law_number" 449,.str "_law_many" 450,.str "_law_run_here" 451,.str "_law_k" 452]})::
 (nat_lit 199,tu0)::
 (nat_lit 201,{cls:=.type "code",data:=.fields #[.str "_law_run" 446,.str "_law_run" 447,.str "/claim/cut.py" 448,.int 151 0,.int 2 0,.int 0 0,.int 0 0,.int 3 0,.ref 196,.bool true,.int 181 0,.ref 197,.none,.ref 198,.ref 199,.ref 200,.int 453 0,.int 151 0,.str "/claim/cut.py" 454]})::
 (nat_lit 202,⟨(.type "function"),none,.func (W.fnOf "_law_run" "_law_run" (defArgs (top 22)) (defBody (top 22)) (defScope (top 22)) .none .none .none (.str "law_logloom_k30_learnt" 397) none (.ref 201) .none),#[]⟩)::
 (nat_lit 203,tu0)::
 (nat_lit 205,{cls:=.type "tuple",data:=.seq #[.str "_law_machine_here" 459,.str "_law_other" 460,.str "_law_run_here" 461,.str "_law_cell" 462,.str "_law_ahead" 463,.str "_law_behind" 464,.str "_law_some" 465]})::
 (nat_lit 206,tu0)::
 (nat_lit 208,{cls:=.type "code",data:=.fields #[.str "_law_longer" 456,.str "_law_longer" 457,.str "/claim/cut.py" 458,.int 159 0,.int 4 0,.int 0 0,.int 0 0,.int 3 0,.ref 203,.bool true,.int 181 0,.ref 204,.none,.ref 205,.ref 206,.ref 207,.int 466 0,.int 159 0,.str "/claim/cut.py" 467]})::
 (nat_lit 209,⟨(.type "function"),none,.func (W.fnOf "_law_longer" "_law_longer" (defArgs (top 23)) (defBody (top 23)) (defScope (top 23)) .none .none .none (.str "law_logloom_k30_learnt" 397) none (.ref 208) .none),#[]⟩)::
 (nat_lit 210,tu0)::
 (nat_lit 212,{cls:=.type "tuple",data:=.seq #[.str "_law_machine_here" 472,.str "_law_cell" 473,.str "_law_most" 474,.str "_law_may" 475,.str "_law_parting" 476,.str "_law_found" 477]})::
 (nat_lit 213,{cls:=.type "tuple",data:=.seq #[.str "_law_machine_here" 478,.str "_law_cell" 479,.str "_law_asked" 480,.str "_law_handed" 481,.str "_law_told" 482]})::
 (nat_lit 215,{cls:=.type "code",data:=.fields #[.str "_law_lesson" 469,.str "_law_lesson" 470,.str "/claim/cut.py" 471,.int 168 0,.int 3 0,.int 0 0,.int 0 0,.int 3 0,.ref 210,.bool true,.int 181 0,.ref 211,.none,.ref 212,.ref 213,.ref 214,.int 483 0,.int 168 0,.str "/claim/cut.py" 484]})::
 (nat_lit 216,⟨(.type "function"),none,.func (W.fnOf "_law_lesson" "_law_lesson" (defArgs (top 24)) (defBody (top 24)) (defScope (top 24)) .none .none .none (.str "law_logloom_k30_learnt" 397) none (.ref 215) .none),#[]⟩)::
 (nat_lit 217,tu0)::
 (nat_lit 219,{cls:=.type "tuple",data:=.seq #[.str "_law_found" 489,.str "_law_many" 490,.str "_law_room" 491,.str "_law_there" 492]})::
 (nat_lit 220,tu0)::
 (nat_lit 222,{cls:=.type "code",data:=.fields #[.str "_law_is_machine" 486,.str "_law_is_machine" 487,.str "/claim/cut.py" 488,.int 187 0,.int 2 0,.int 0 0,.int 0 0,.int 3 0,.ref 217,.bool true,.int 181 0,.ref 218,.none,.ref 219,.ref 220,.ref 221,.int 493 0,.int 187 0,.str "/claim/cut.py" 494]})::
 (nat_lit 223,⟨(.type "function"),none,.func (W.fnOf "_law_is_machine" "_law_is_machine" (defArgs (top 25)) (defBody (top 25)) (defScope (top 25)) .none .none .none (.str "law_logloom_k30_learnt" 397) none (.ref 222) .none),#[]⟩)::
 (nat_lit 224,tu0)::
 (nat_lit 227,{cls:=.type "code",data:=.fields #[.str "_law_counts" 496,.str "_law_counts" 497,.str "/claim/cut.py" 498,.int 201 0,.int 5 0,.int 0 0,.int 0 0,.int 3 0,.ref 224,.bool true,.int 181 0,.ref 225,.none,.none,.none,.ref 226,.int 499 0,.int 201 0,.str "/claim/cut.py" 500]})::
 (nat_lit 228,⟨(.type "function"),none,.func (W.fnOf "_law_counts" "_law_counts" (defArgs (top 26)) (defBody (top 26)) (defScope (top 26)) .none .none .none (.str "law_logloom_k30_learnt" 397) none (.ref 227) .none),#[]⟩)::
 (nat_lit 229,tu0)::
 (nat_lit 231,{cls:=.type "tuple",data:=.seq #[.str "_law_script" 505,.str "_law_machine_here" 506,.str "_law_cell" 507,.str "_law_most" 508,.str "_law_found" 509,.str "_law_asked" 510,.str "_law_handed" 511,.str "_law_told" 512]})::
 (nat_lit 232,tu0)::
 (nat_lit 234,{cls:=.type "code",data:=.fields #[.str "law" 502,.str "law" 503,.str "/claim/cut.py" 504,.int 215 0,.int 1 0,.int 0 0,.int 0 0,.int 3 0,.ref 229,.bool true,.int 181 0,.ref 230,.none,.ref 231,.ref 232,.ref 233,.int 513 0,.int 215 0,.str "/claim/cut.py" 514]})::
 (nat_lit 235,⟨(.type "function"),none,.func (W.fnOf "law" "law" (defArgs (top 27)) (defBody (top 27)) (defScope (top 27)) .none .none .none (.str "law_logloom_k30_learnt" 397) none (.ref 234) .none),#[]⟩)::[]
def hA:List PySem.Addr:=nat_lit 2::nat_lit 3::nat_lit 15::nat_lit 22::nat_lit 23::nat_lit 24::nat_lit 25::nat_lit 28::nat_lit 35::nat_lit 37::nat_lit 38::nat_lit 40::nat_lit 41::nat_lit 42::nat_lit 43::nat_lit 44::nat_lit 47::nat_lit 54::nat_lit 56::nat_lit 57::nat_lit 59::nat_lit 60::nat_lit 61::nat_lit 62::nat_lit 63::nat_lit 66::nat_lit 69::nat_lit 70::nat_lit 71::nat_lit 74::nat_lit 75::nat_lit 76::nat_lit 79::nat_lit 80::nat_lit 81::nat_lit 84::nat_lit 85::nat_lit 86::nat_lit 88::nat_lit 89::nat_lit 91::nat_lit 92::nat_lit 93::nat_lit 95::nat_lit 96::nat_lit 98::nat_lit 99::nat_lit 107::nat_lit 109::nat_lit 110::nat_lit 112::nat_lit 113::nat_lit 114::nat_lit 116::nat_lit 117::nat_lit 119::nat_lit 120::nat_lit 121::nat_lit 124::nat_lit 125::nat_lit 126::nat_lit 129::nat_lit 130::nat_lit 131::nat_lit 134::nat_lit 135::nat_lit 136::nat_lit 139::nat_lit 140::nat_lit 141::nat_lit 143::nat_lit 144::nat_lit 146::nat_lit 147::nat_lit 148::nat_lit 149::nat_lit 150::nat_lit 151::nat_lit 152::nat_lit 155::nat_lit 156::nat_lit 158::nat_lit 159::nat_lit 161::nat_lit 162::nat_lit 163::nat_lit 165::nat_lit 166::nat_lit 168::nat_lit 169::nat_lit 170::nat_lit 172::nat_lit 173::nat_lit 175::nat_lit 176::nat_lit 177::nat_lit 180::nat_lit 181::nat_lit 182::nat_lit 184::nat_lit 185::nat_lit 187::nat_lit 188::nat_lit 189::nat_lit 191::nat_lit 192::nat_lit 194::nat_lit 195::nat_lit 196::nat_lit 198::nat_lit 199::nat_lit 201::nat_lit 202::nat_lit 203::nat_lit 205::nat_lit 206::nat_lit 208::nat_lit 209::nat_lit 210::nat_lit 212::nat_lit 213::nat_lit 215::nat_lit 216::nat_lit 217::nat_lit 219::nat_lit 220::nat_lit 222::nat_lit 223::nat_lit 224::nat_lit 227::nat_lit 228::nat_lit 229::nat_lit 231::nat_lit 232::nat_lit 234::nat_lit 235::[]
theorem hE:∀P,hA=(hK P).map (·.1):=fun _=>by kernel_rfl
def hQ:PySem.Program:={ PySem.Challenge.pw_logloom_k30_learnt with
 main:={ PySem.Challenge.pw_logloom_k30_learnt.main with
  body:=[top 1,top 2,top 3,top 5,top 6,top 8,top 9,top 11,top 12,top 14,top 17,top 18,top 19,top 20,top 21,top 22,top 23,top 24,top 25,top 26,top 27] } }
abbrev hH:W.Hook:=W.kHook hK hA hE
abbrev hX (s:PySem.Shared):Bool:=W.xlAt hQ [] s&&
 W.recOk (W.RowW.records (W.OpenRow.toRowW (W.OpenLaw.row PySem.Challenge.rw_logloom_k30_learnt))) s
set_option maxHeartbeats 0
noncomputable abbrev hR (w:PySem.World) (o:PySem.OsState):=HT.runQ PySem.Challenge.pw_logloom_k30_learnt w 3512 (HT.at0 w o) (W.topStub PySem.Challenge.pw_logloom_k30_learnt)
open PySem PySem.W in
theorem hL2:∀w o,(hR w o).map (fun b=>W.Fast.tw4187177175401517315 hQ [PySem.Str.ofString "learnt"] (importedModules (PySem.Challenge.pw_logloom_k30_learnt).main.body) hX true b.abs)=some (W.openGood hQ [PySem.Str.ofString "learnt"]):=fun w o=>by kernel_rfl
theorem hL1:∀w o,(hR w o).map (fun b=>HT.kept PySem.Challenge.pw_logloom_k30_learnt w.params b.abs)=some true:=fun w o=>by kernel_rfl
theorem hL3:∀w o,(hR w o).map (fun b=>hH.obs b.abs)=some (hH.val w):=fun w o=>by kernel_rfl
theorem hL:W.LeftO PySem.Challenge.pw_logloom_k30_learnt hQ [PySem.Str.ofString "learnt"] hX hH.obs hH.val 3512:=HT.left3 rfl rfl (fun _=>rfl) hL1 hL2 hL3
set_option maxHeartbeats 4000000
end K21
namespace L2
open PySem PySem.Spec PyProof.Rows
abbrev Key:=Sum Int Str
def keyIs:Key->Value->Bool
 |.inl k,v=>Value.isInt k v
 |.inr x,v=>Value.isStrOf x v
def keyH (w:World):Key->Int
 |.inl k=>hashInt k
 |.inr x=>hashStr w x
theorem keyIs_shape:∀{k:Key} {v:Value},keyIs k v=true->(∃i t,k=Sum.inl i/\v=Value.int i t)\/(∃x t,k=Sum.inr x/\v=Value.str x t)
 |.inl i,v,h=>by
  obtain⟨t,e⟩:=Value.isInt_shape (k:=i) (v:=v) h
  exact .inl ⟨i,t,rfl,e⟩
 |.inr x,v,h=>by
  obtain⟨t,e⟩:=Value.isStrOf_shape (x:=x) (v:=v) h
  exact .inr ⟨x,t,rfl,e⟩
theorem keyIs_int (i:Int)(t:Tok):keyIs (.inl i) (.int i t)=true:=by simp[keyIs,Value.isInt]
theorem keyIs_str (x:Str)(t:Tok):keyIs (.inr x) (.str x t)=true:=by simp[keyIs,Value.isStrOf]
theorem key_ll (a b:Int):decide ((Sum.inl a:Key)=Sum.inl b)=(a==b):=by
 by_cases e:a=b
 ·subst e;simp
 ·have h:¬(Sum.inl a:Key)=Sum.inl b:=fun q=>e (Sum.inl.inj q)
  rw[decide_eq_false h]
  exact(beq_eq_false_iff_ne.mpr e).symm
theorem key_rr (a b:Str):decide ((Sum.inr a:Key)=Sum.inr b)=decide (a=b):=by
 by_cases e:a=b
 ·subst e;simp
 ·have h:¬(Sum.inr a:Key)=Sum.inr b:=fun q=>e (Sum.inr.inj q)
  rw[decide_eq_false h,decide_eq_false e]
theorem key_lr (a:Int)(b:Str):decide ((Sum.inl a:Key)=Sum.inr b)=false:=decide_eq_false (fun q=>nomatch q)
theorem key_rl (a:Str)(b:Int):decide ((Sum.inr a:Key)=Sum.inl b)=false:=decide_eq_false (fun q=>nomatch q)
def mixKind (prog:Program)(w:World):PySem.KeyKind prog w Key where
 is:=keyIs
 hash:=keyH w
 inj:=fun v a b ha hb=>by
  rcases keyIs_shape ha with⟨i,t,rfl,rfl⟩|⟨x,t,rfl,rfl⟩
  ·rcases keyIs_shape hb with⟨j,u,rfl,e⟩|⟨y,u,rfl,e⟩
   ·injection e with e1 _;rw[e1]
   ·exact nomatch e
  ·rcases keyIs_shape hb with⟨j,u,rfl,e⟩|⟨y,u,rfl,e⟩
   ·exact nomatch e
   ·injection e with e1 _;rw[e1]
 byValue:=fun k v h=>by
  rcases keyIs_shape h with⟨i,t,rfl,rfl⟩|⟨x,t,rfl,rfl⟩<;>rfl
 pyHash:=fun hv h=>by
  rcases keyIs_shape hv with⟨i,t,rfl,rfl⟩|⟨x,t,rfl,rfl⟩
  ·exact wpAny_pyHash_int h
  ·exact wpAny_pyHash_str h
 eqBool:=fun hu hv h=>by
  rcases keyIs_shape hu with⟨i,t,rfl,rfl⟩|⟨x,t,rfl,rfl⟩
  ·rcases keyIs_shape hv with⟨j,u,rfl,rfl⟩|⟨y,u,rfl,rfl⟩
   ·rw[key_ll] at h;exact wpAny_eqBool_int h
   ·rw[key_lr] at h;exact SeqAt.EqAt.int_str i t y u _ _ _ _ h
  ·rcases keyIs_shape hv with⟨j,u,rfl,rfl⟩|⟨y,u,rfl,rfl⟩
   ·rw[key_rl] at h;exact SeqAt.EqAt.str_int x t j u _ _ _ _ h
   ·rw[key_rr] at h;exact wpAny_eqBool_str h
 «strs»:=fun k x t v h=>by
  rcases keyIs_shape h with⟨i,u,rfl,e⟩|⟨y,u,rfl,e⟩
  ·exact nomatch e
  ·injection e with e1 _
   subst e1
   cases v<;>rfl
theorem mixKind_int (prog:Program)(w:World)(i:Int)(t:Tok):(mixKind prog w).is (.inl i) (.int i t)=true:=keyIs_int i t
theorem mixKind_str (prog:Program)(w:World)(x:Str)(t:Tok):(mixKind prog w).is (.inr x) (.str x t)=true:=keyIs_str x t
end L2
namespace L2
open PySem PySem.Spec PyProof.Rows
inductive V where
 |non|bl (b:Bool)|int (i:Int)|str (x:Str)|byt (b:Array UInt8)|flt (b:UInt64)|ref (a:Addr)|ty (n:String)
 deriving DecidableEq
def RelV:V->Value->Prop
 |.non,u=>u=Value.none
 |.bl b,u=>u=Value.bool b
 |.int i,u=>∃t,u=Value.int i t
 |.str x,u=>∃t,u=Value.str x t
 |.byt b,u=>∃t,u=Value.bytes b t
 |.flt b,u=>∃t,u=Value.float b t
 |.ref a,u=>u=Value.ref a
 |.ty n,u=>u=Value.type n
abbrev Vals:List V->List Value->Prop:=Paired RelV
theorem Vals.length {xs:List V}{us:List Value}(r:Vals xs us):xs.length=us.length:=Paired.length r
theorem Vals.get:∀{xs:List V} {us:List Value} {i:Nat} {x:V},Vals xs us->xs[i]?=some x->∃u,us[i]?=some u/\RelV x u
 |_,_,_,_,.nil,e=>by simp at e
 |_,_,0,_,.cons r _,e=>by simp at e;subst e;exact⟨_,rfl,r⟩
 |_,_,i+1,x,.cons _ t,e=>by
  obtain⟨u,h1,h2⟩:=Vals.get (i:=i) (x:=x) t (by simpa using e)
  exact⟨u,by simpa using h1,h2⟩
theorem Vals.append:∀{xs ys:List V} {us ws:List Value},Vals xs us->Vals ys ws->Vals (xs++ys) (us++ws)
 |_,_,_,_,.nil,s=>s
 |_,_,_,_,.cons r t,s=>.cons r (Vals.append t s)
theorem Vals.take:∀{xs:List V} {us:List Value} (n:Nat),Vals xs us->Vals (xs.take n) (us.take n)
 |_,_,0,_=>.nil
 |_,_,_+1,.nil=>.nil
 |_,_,n+1,.cons r t=>.cons r (Vals.take n t)
theorem Vals.drop:∀{xs:List V} {us:List Value} (n:Nat),Vals xs us->Vals (xs.drop n) (us.drop n)
 |_,_,0,r=>r
 |_,_,_+1,.nil=>.nil
 |_,_,n+1,.cons _ t=>Vals.drop n t
def RelO:Option V->Option Value->Prop
 |some v,some u=>RelV v u
 |none,none=>True
 |_,_=>False
def KV {κ:Type}:List (κ×V)->List (κ×Value)->Prop:=Paired fun(p:κ×V) (q:κ×Value)=>p.1=q.1/\RelV p.2 q.2
def kV:Key->V
 |.inl i=>.int i
 |.inr x=>.str x
inductive HO where
 |lst (xs:List V)
 |tup (xs:List V)
 |dK (kvs:List (Key×V))|dT (kvs:List (List Key×V))
 |set (S:Int->Bool) (n:Nat)
 |ins (C dx:Addr) (fs:List (Str×V))
 |own (x:Addr)
 |xd (fs:List (Str×V))
 |met (f x:Addr)
 |rng (lo hi:Int)
 |frz (o:Obj) (u:HO)
 |tbl (ps:Array Value)
 |ext (φ:Heap->Prop)
abbrev Hp:=Addr->Option HO
def upd (H:Hp)(a:Addr)(o:HO):Hp:=fun b=>if b=a then some o else H b
theorem upd_same {H:Hp}{a:Addr}{o:HO}:upd H a o a=some o:=by unfold upd;rw[if_pos rfl]
theorem upd_ne {H:Hp}{a b:Addr}{o:HO}(h:b≠a):upd H a o b=H b:=by unfold upd;rw[if_neg h]
theorem upd_upd {H:Hp}{a:Addr}{o u:HO}:upd (upd H a o) a u=upd H a u:=by
 funext b;unfold upd;split<;>rfl
theorem ne_of {H:Hp}{a b:Addr}{o u:HO}(h:H a=some o)(h':H b=some u)(d:o≠u):a≠b:=by
 intro e;subst e;rw[h] at h';exact d (Option.some.inj h')
theorem ne_of_none {H:Hp}{a b:Addr}{o:HO}(h:H a=some o)(h':H b=none):a≠b:=by
 intro e;subst e;rw[h] at h';cases h'
section
variable (P:Program) (w:World)
def ObjOk (H:Hp)(h:Heap)(a:Addr):HO->Prop
 |.lst xs=>xs.length<=sizeLine/\∃(its:List Value) (n:Nat),Vals xs its/\h.get? a=some { cls:=.type "list",data:=.seq its.toArray n }
 |.tup xs=>xs.length<=sizeLine/\∃its:List Value,Vals xs its/\IsTup h a its.toArray
 |.dK kvs=>kvs.length<=sizeLine/\(a==sysModules)=false/\∃vs,KV kvs vs/\h.DictOf (mixKind P w) a vs
 |.dT kvs=>kvs.length<=sizeLine/\(a==sysModules)=false/\∃xs:List (List Key×Addr×Value),
   Paired (fun(p:List Key×V) (q:List Key×Addr×Value)=>p.1=q.1/\H q.2.1=some (.tup (p.1.map kV))/\RelV p.2 q.2.2) kvs xs∧
   ∃o es ep,h.get? a=some o/\o.ExactDict/\o.data=.dict es ep/\es.toList=xs.map (entryOfKey (tupleKind (mixKind P w)))/\(xs.map (·.1)).Nodup
 |.set S n=>h.SetOf (intKind P w) a S n
 |.ins C dx fs=>H dx=some (.own a)/\fs.length<=1000/\dx≠a/\h.get? a=some (W.instObj C dx)∧
   ∃mA,h.Ns1 dx mA/\(∀f,RelO (fs.lookup f) (mA f))/\PySem.Within mA (fs.map (·.1))
 |.own _=>∃o,h.get? a=some o
 |.xd fs=>∃mA,h.Ns1 a mA/\∀f,RelO (fs.lookup f) (mA f)
 |.rng lo hi=>∃t u v,h.get? a=some { cls:=.type "range",data:=.fields #[.int lo t,.int hi u,.int 1 v] }
 |.frz o u=>h.get? a=some o/\ObjOk H h a u
 |.tbl ps=>h.get? a=some { cls:=.none,data:=.fields ps }
 |.met f x=>h.get? a=some (W.methodObj (.ref f) (.ref x))
 |.ext φ=>φ h/\(∃o,h.get? a=some o)/\∀h1 h2:Heap,φ h1->(∀o,h1.get? a=some o->h2.get? a=some o)->φ h2
def HOk (H:Hp)(h:Heap):Prop:=∀a o,H a=some o->ObjOk P w H h a o
end
section
variable {P:Program} {w:World} {H H':Hp} {h h':Heap} {a:Addr} {o:HO}
theorem ObjOk.lt (x:ObjOk P w H h a o):a<h.objs.size:=by
 cases o with
 |lst xs=>obtain⟨_,_,_,_,e⟩:=x;exact Heap.lt_size e
 |tup xs=>obtain⟨_,_,_,p⟩:=x;exact p.lt
 |dK kvs=>obtain⟨_,_,_,_,o,_,_,e,_⟩:=x;exact Heap.lt_size e
 |dT kvs=>obtain⟨_,_,_,_,o,_,_,e,_⟩:=x;exact Heap.lt_size e
 |set S n=>obtain⟨o,_,_,_,e,_⟩:=x;exact Heap.lt_size e
 |ins C dx fs=>obtain⟨_,_,_,e,_⟩:=x;exact Heap.lt_size e
 |own y=>obtain⟨_,e⟩:=x;exact Heap.lt_size e
 |xd fs=>obtain⟨_,⟨_,_,_,e,_⟩,_⟩:=x;exact Heap.lt_size e
 |rng lo hi=>obtain⟨_,_,_,e⟩:=x;exact Heap.lt_size e
 |frz ob u=>obtain⟨e,_⟩:=x;exact Heap.lt_size e
 |tbl ps=>exact Heap.lt_size (show h.get? a=some _ from x)
 |met f y=>exact Heap.lt_size (show h.get? a=some _ from x)
 |ext φ=>obtain⟨_,⟨_,e⟩,_⟩:=x;exact Heap.lt_size e
theorem Paired.mapP {α β:Type}{F G:α->β->Prop}:∀{l₁:List α} {l₂:List β},Paired F l₁ l₂->(∀a b,F a b->G a b)->Paired G l₁ l₂
 |_,_,.nil,_=>.nil
 |_,_,.cons r t,f=>.cons (f _ _ r) (Paired.mapP t f)
theorem ObjOk.stay (x:ObjOk P w H h a o)(k:∀b u,(b=a\/H b=some (.own a))->h.get? b=some u->h'.get? b=some u)
  (ho:∀b,H b=some (.own a)->H' b=some (.own a)) (ht:∀b xs,H b=some (.tup xs)->H' b=some (.tup xs)):ObjOk P w H' h' a o:=by
 induction o with
 |lst xs=>obtain⟨z,its,n,r,e⟩:=x;exact⟨z,its,n,r,k _ _ (.inl rfl) e⟩
 |tup xs=>obtain⟨z,its,r,ob,e,c⟩:=x;exact⟨z,its,r,ob,k _ _ (.inl rfl) e,c⟩
 |dK kvs=>obtain⟨z,y,vs,r,ob,es,ep,e,c⟩:=x;exact⟨z,y,vs,r,ob,es,ep,k _ _ (.inl rfl) e,c⟩
 |dT kvs=>
  obtain⟨z,y,xs,r,ob,es,ep,e,c⟩:=x
  exact⟨z,y,xs,Paired.mapP r fun p q z=>⟨z.1,ht _ _ z.2.1,z.2.2⟩,ob,es,ep,k _ _ (.inl rfl) e,c⟩
 |set S n=>obtain⟨ob,es,ep,t,e,c⟩:=x;exact⟨ob,es,ep,t,k _ _ (.inl rfl) e,c⟩
 |ins C dx fs=>
  obtain⟨d,z,ne,e,mA,⟨od,es,ep,e2,c⟩,r⟩:=x
  exact⟨ho _ d,z,ne,k _ _ (.inl rfl) e,mA,⟨od,es,ep,k _ _ (.inr d) e2,c⟩,r⟩
 |own y=>obtain⟨ob,e⟩:=x;exact⟨ob,k _ _ (.inl rfl) e⟩
 |xd fs=>obtain⟨mA,⟨od,es,ep,e,c⟩,r⟩:=x;exact⟨mA,⟨od,es,ep,k _ _ (.inl rfl) e,c⟩,r⟩
 |rng lo hi=>obtain⟨t,u,v,e⟩:=x;exact⟨t,u,v,k _ _ (.inl rfl) e⟩
 |frz ob u ih=>obtain⟨e,q⟩:=x;exact⟨k _ _ (.inl rfl) e,ih q⟩
 |tbl ps=>
  have e:h.get? a=some { cls:=.none,data:=.fields ps }:=x
  show h'.get? a=some { cls:=.none,data:=.fields ps }
  exact k a _ (.inl rfl) e
 |met f y=>
  have e:h.get? a=some (W.methodObj (.ref f) (.ref y)):=x
  show h'.get? a=some (W.methodObj (.ref f) (.ref y))
  exact k a _ (.inl rfl) e
 |ext φ=>obtain⟨p,⟨o,e⟩,st⟩:=x;exact⟨st _ _ p fun o q=>k _ _ (.inl rfl) q,⟨o,k _ _ (.inl rfl) e⟩,st⟩
theorem HOk.lt (x:HOk P w H h)(e:H a=some o):a<h.objs.size:=(x a o e).lt
theorem HOk.fresh (x:HOk P w H h)(e:h.objs.size<=a):H a=none:=by
 cases q:H a with
 |none=>rfl
 |some u=>exact absurd (Nat.lt_of_lt_of_le (x.lt q) e) (Nat.lt_irrefl _)
theorem HOk.kept (x:HOk P w H h)(k:∀b u,h.get? b=some u->h'.get? b=some u):HOk P w H h':=fun a o e=>
 (x a o e).stay (fun b u _ q=>k b u q) (fun _ q=>q) fun _ _ q=>q
theorem HOk.laid (x:HOk P w H h)(k:∀b u,h.get? b=some u->h'.get? b=some u)(hp:h.objs.size<=a)(new:ObjOk P w (upd H a o) h' a o):HOk P w (upd H a o) h':=fun b u e=>by
 have hn:=x.fresh hp
 by_cases hb:b=a
 ·subst hb;rw[upd_same] at e;cases e;exact new
 ·rw[upd_ne hb] at e
  exact(x b u e).stay (fun c v _ q=>k c v q) (fun c q=>by rw[upd_ne (ne_of_none q hn)];exact q) fun c xs q=>by rw[upd_ne (ne_of_none q hn)];exact q
end
def Rd (H:Hp)(a:Addr)(u:HO):Prop:=H a=some u\/∃o,H a=some (.frz o u)
theorem Rd.ok {P:Program}{w:World}{H:Hp}{h:Heap}{a:Addr}{u:HO}(r:Rd H a u)(x:HOk P w H h):ObjOk P w H h a u:=by
 rcases r with r|⟨o,r⟩
 ·exact x a u r
 ·obtain⟨_,q⟩:=x a _ r
  exact q
def Mut:Option HO->Prop
 |some (.lst _)=>True
 |some (.dK _)=>True
 |some (.dT _)=>True
 |some (.set _ _)=>True
 |some (.ins _ _ _)=>True
 |some (.ext _)=>True
 |_=>False
section
variable {P:Program} {w:World} {H:Hp} {h h':Heap} {x e:Addr} {o':HO}
theorem HOk.write (ok:HOk P w H h)(mu:Mut (H x))(he:e=x\/H e=some (.own x))(k:∀b u,b≠e->h.get? b=some u->h'.get? b=some u)(heo:∃u,h'.get? e=some u)
  (new:ObjOk P w (upd H x o') h' x o'):HOk P w (upd H x o') h':=fun b u q=>by
 have nown:∀c y,H c=some (.own y)->c≠x:=fun c y r z=>by subst z;rw[r] at mu;exact mu
 have ntup:∀c xs,H c=some (.tup xs)->c≠x:=fun c xs r z=>by subst z;rw[r] at mu;exact mu
 by_cases hb:b=x
 ·subst hb;rw[upd_same] at q;cases q;exact new
 ·rw[upd_ne hb] at q
  by_cases hbe:b=e
  ·have q':H b=some (.own x):=by
    rcases he with z|z
    ·exact absurd (hbe.trans z) hb
    ·rw[hbe];exact z
   rw[q] at q';cases q'
   obtain⟨v,hv⟩:=heo
   exact⟨v,by rw[hbe];exact hv⟩
  ·refine(ok b u q).stay (fun c v hc r=>k c v ?_ r) (fun c r=>by rw[upd_ne (nown c b r)];exact r) fun c xs r=>by rw[upd_ne (ntup c xs r)];exact r
   rcases hc with rfl|hc
   ·exact hbe
   ·rintro rfl
    rcases he with z|z
    ·exact nown c b hc z
    ·rw[hc] at z;cases z;exact hb rfl
end
structure Un (fs ex:List Addr)(H H':Hp)(h h':Heap):Prop where
 keep:∀b o,h.get? b=some o->H b=none->b∉fs->b∉ex->h'.get? b=some o
 slot:∀b o,h.get? b=some o->H b=none->b∈fs->b∉ex->∃sl,h'.get? b=some { o with slots:=sl }
 free:∀b o,h.get? b=some o->H b=none->b∉ex->H' b=none
 there:∀b o,h.get? b=some o->b∉ex->∃o',h'.get? b=some o'
 tups:∀b xs,H b=some (.tup xs)->H' b=some (.tup xs)
 frzs:∀b o u,H b=some (.frz o u)->H' b=some (.frz o u)
 tbls:∀b ps,H b=some (.tbl ps)->∃more,H' b=some (.tbl (ps++more))
section
variable {fs fs' ex ex':List Addr} {H H1 H2:Hp} {h h1 h2 h':Heap} {a x e:Addr} {o:HO}
theorem Un.any (u:Un fs ex H H1 h h1){b:Addr}{ob:Obj}(q:h.get? b=some ob)(n:H b=none)(hx:b∉ex):∃sl,h1.get? b=some { ob with slots:=sl }:=by
 by_cases hb:b∈fs
 ·exact u.slot b ob q n hb hx
 ·exact⟨ob.slots,u.keep b ob q n hb hx⟩
theorem Un.kept (k:∀b u,h.get? b=some u->h'.get? b=some u):Un fs ex H H h h':=
 ⟨fun b ob q _ _ _=>k b ob q,fun b ob q _ _ _=>⟨ob.slots,k b ob q⟩,fun _ _ _ n _=>n,fun b ob q _=>⟨ob,k b ob q⟩,fun _ _ q=>q,fun _ _ _ q=>q,fun _ ps q=>⟨#[],by rw[q];simp⟩⟩
theorem Un.refl:Un fs ex H H h h:=Un.kept fun _ _ q=>q
theorem Un.laid (k:∀b u,h.get? b=some u->h'.get? b=some u)(hp:h.objs.size<=a)(hn:H a=none):Un fs ex H (upd H a o) h h' where
 keep:=fun b u q _ _ _=>k b u q
 slot:=fun b u q _ _ _=>⟨u.slots,k b u q⟩
 free:=fun b u q n _=>by rw[upd_ne (Nat.ne_of_lt (Nat.lt_of_lt_of_le (Heap.lt_size q) hp))];exact n
 there:=fun b u q _=>⟨u,k b u q⟩
 tups:=fun b xs q=>by rw[upd_ne (ne_of_none q hn)];exact q
 frzs:=fun b u xs q=>by rw[upd_ne (ne_of_none q hn)];exact q
 tbls:=fun b ps q=>⟨#[],by rw[upd_ne (ne_of_none q hn),q];simp⟩
theorem Un.write (mu:Mut (H x))(he:e=x\/H e=some (.own x))(k:∀b u,b≠e->h.get? b=some u->h'.get? b=some u)(heo:∃u,h'.get? e=some u):Un fs ex H (upd H x o) h h':=by
 have hx:∀b,H b=none->b≠x:=fun b n z=>by subst z;rw[n] at mu;exact mu
 have hb:∀b,H b=none->b≠e:=fun b n z=>by
  subst z
  rcases he with r|r
  ·exact hx b n r
  ·rw[n] at r;cases r
 have hm:∀b u,H b=some u->¬Mut (some u)->b≠x:=fun b u q nm z=>by subst z;rw[q] at mu;exact nm mu
 refine⟨fun b u q n _ _=>k b u (hb b n) q,fun b u q n _ _=>⟨u.slots,k b u (hb b n) q⟩,fun b u q n _=>by rw[upd_ne (hx b n)];exact n,fun b u q _=>?_,
  fun b xs q=>by rw[upd_ne (hm b _ q fun z=>z)];exact q,fun b u xs q=>by rw[upd_ne (hm b _ q fun z=>z)];exact q,fun b ps q=>⟨#[],by rw[upd_ne (hm b _ q fun z=>z),q];simp⟩⟩
 by_cases hbe:b=e
 ·subst hbe;exact heo
 ·exact⟨u,k b u hbe q⟩
end
def trk (h:Heap)(H:Hp):List Addr:=(List.range h.objs.size).filter fun a=>(H a).isSome
def hidT (h:Heap)(H:Hp):Heap:=W.hideAll h (trk h H)
theorem hidT_size (h:Heap)(H:Hp):(hidT h H).objs.size=h.objs.size:=W.hideAll_size _ _
theorem hidT_get {h:Heap}{H:Hp}{b:Addr}{o:Obj}(e:h.get? b=some o)(n:H b=none):(hidT h H).get? b=some o:=
 W.hideAll_get _ e fun hm=>by
  have q:(H b).isSome=true:=(List.mem_filter.mp hm).2
  rw[n] at q;simp at q
theorem of_hidT {h:Heap}{H:Hp}{b:Addr}{o:Obj}(e:(hidT h H).get? b=some o):h.get? b=some o/\H b=none:=by
 have e':h.get? b=some o:=W.of_hideAll (trk h H) e
 refine⟨e',?_⟩
 cases q:H b with
 |none=>rfl
 |some x=>
  have hm:b∈trk h H:=List.mem_filter.mpr ⟨List.mem_range.mpr (Heap.lt_size e'),by simp[q]⟩
  have z:(hidT h H).get? b=none:=W.hideAll_none (trk h H) hm
  rw[z] at e;cases e
end L2
namespace L2
open PySem PySem.Spec PyProof.Rows
structure Mod (K:W.Frag)(mg:Str->Option Value)(base:Heap):Prop where
 kin:K.In base
 glob:base.Ns mainGlobals mg
 blt:∃mb,base.Ns builtinsNs mb/\∀x:Str,x≠"__name__"->mb x=bootBuiltins x
 nolimit:base.NoLimit
structure Cx where
 prog:Program
 w:World
 K:W.Frag
 mg:Str->Option Value
 base:Heap
 A:Around
 N:List Str
 s₀:Shared
 H₀:Hp
 env:Env
 outer:List Env
 stack:List Env
 ex:List Addr
 fn:Str->Bool
 calm:Bool
 pn:List (Addr×Obj)
 xe:Value->Shared->Prop
def frs (l:List Env):List Addr:=l.filterMap (·.frame)
abbrev Cx.fs (X:Cx):List Addr:=frs X.outer
def Vis (sc:Scope)(x:Str):Prop:=sc.names.lookup x=some .local\/sc.names.lookup x=some .cell\/sc.names.lookup x=some .free
def Loc (sc:Scope)(x:Str):Prop:=sc.names.lookup x=some .local\/sc.names.lookup x=some .cell
def Look (env:Env)(h:Heap)(m:Str->Option Value)(x:Str)(u:Value):Prop:=
 (env.kindOf x=some .local/\m x=some u)\/((env.kindOf x=some .cell\/env.kindOf x=some .free)/\∃c,env.cells.lookup x=some c/\h.IsCell c (some u))
structure Cx.Ok (X:Cx):Prop where
 mod:Mod X.K X.mg X.base
 kind:X.env.scope.kind=.function
 glob:X.env.globals=mainGlobals
 blt:X.env.builtins=builtinsNs
 above:X.s₀.heap.objs.size<=X.env.locals
 inj:∀x y c,X.env.cells.lookup x=some c->X.env.cells.lookup y=some c->x=y
 has:∀x,(X.env.kindOf x=some .cell\/X.env.kindOf x=some .free)->∃c,X.env.cells.lookup x=some c
 cab:∀x c,X.fn x=true->X.env.cells.lookup x=some c->X.s₀.heap.objs.size<=c
 hd:X.calm=true->X.A.handled=none
 frames:X.A.frames=some X.stack
 stk:X.stack=X.outer\/(X.stack=X.env::X.outer/\X.env.frame=some X.env.locals)
 exf:∀b∈X.ex,b≠X.env.locals/\∀x c,X.env.cells.lookup x=some c->c≠b
 bs:∀b o,X.base.get? b=some o->X.s₀.heap.get? b=some o/\X.H₀ b=none
 bsz:X.base.objs.size<=X.s₀.heap.objs.size
 noex:∀b o,X.base.get? b=some o->b∉X.ex
 exfs:∀b∈X.ex,b∉X.fs
 funs:X.s₀.heap.FunFrames X.base X.outer
 frf:∀b∈X.fs,X.H₀ b=none
structure Inv (X:Cx)(pins:List (Addr×Obj))(σ:List (Option V))(H:Hp)(s:Shared):Prop where
 ok:X.Ok
 os:s.os=X.s₀.os
 bare:AllBare s.gens
 base:Un X.fs X.ex X.H₀ H X.s₀.heap s.heap
 loc:∃m,s.heap.Ns X.env.locals m/\∀(i:Nat) (x:Str) (v:V),X.N[i]?=some x->σ[i]?=some (some v)->Vis X.env.scope x->∃u,RelV v u/\Look X.env s.heap m x u
 cell:∀x c,X.env.cells.lookup x=some c->∃v,s.heap.IsCell c v
 free:H X.env.locals=none
 freeC:∀x c,X.env.cells.lookup x=some c->H c=none
 pin:∀p∈X.pn++pins,s.heap.get? p.1=some p.2/\H p.1=none/\p.1≠X.env.locals/\p.1∉X.fs/\∀v,p.2.data≠.cell v
 hok:HOk X.prog X.w H s.heap
 len:σ.length=X.N.length
section
variable {X:Cx} {pins:List (Addr×Obj)} {σ:List (Option V)} {H H':Hp} {s:Shared} {h':Heap}
theorem Cx.Ok.nofr (ok:X.Ok){b:Addr}{o:Obj}(e:X.base.get? b=some o):b∉X.fs:=fun hb=>by
 have:=(ok.funs.mem hb).1
 rw[e] at this;cases this
theorem Inv.bs (I:Inv X pins σ H s):∀b o,X.base.get? b=some o->s.heap.get? b=some o/\H b=none:=fun b o e=>
 ⟨I.base.keep b o (I.ok.bs b o e).1 (I.ok.bs b o e).2 (I.ok.nofr e) (I.ok.noex b o e),I.base.free b o (I.ok.bs b o e).1 (I.ok.bs b o e).2 (I.ok.noex b o e)⟩
theorem Inv.bk (I:Inv X pins σ H s):∀b o,X.base.get? b=some o->s.heap.get? b=some o:=fun b o e=>(I.bs b o e).1
theorem Inv.mod (I:Inv X pins σ H s):Mod X.K X.mg X.base:=I.ok.mod
theorem Inv.kIn (I:Inv X pins σ H s):X.K.In s.heap:=I.ok.mod.kin.keeps I.bk
theorem Inv.lt (I:Inv X pins σ H s):X.env.locals<s.heap.objs.size:=let ⟨_,hn,_⟩:=I.loc;hn.lt
theorem Inv.sz (I:Inv X pins σ H s):X.s₀.heap.objs.size<=s.heap.objs.size:=Nat.le_trans I.ok.above (Nat.le_of_lt I.lt)
theorem Inv.nofs (I:Inv X pins σ H s){a:Addr}(h:s.heap.objs.size<=a):a∉X.fs:=fun hb=>by
 obtain⟨_,o,ho,_⟩:=I.ok.funs.mem hb
 exact absurd (Nat.lt_of_lt_of_le (Heap.lt_size ho) (Nat.le_trans I.sz h)) (Nat.lt_irrefl _)
theorem Inv.cne (I:Inv X pins σ H s):∀x c,X.env.cells.lookup x=some c->c≠X.env.locals:=fun x c e z=>by
 obtain⟨v,o,ho,hd⟩:=I.cell x c e
 obtain⟨m,⟨o',es,ep,ho',hd',_⟩,_⟩:=I.loc
 rw[z,ho'] at ho;cases ho;rw[hd'] at hd;cases hd
theorem Inv.funs (I:Inv X pins σ H s):s.heap.FunFrames X.base X.outer:=by
 have all:∀(l:List Env),(∀b∈frs l,b∈X.fs)->X.s₀.heap.FunFrames X.base l->s.heap.FunFrames X.base l:=by
  intro l
  induction l with
  |nil=>intro _ _;trivial
  |cons env r ih=>
   intro hs hl
   obtain⟨hk,⟨L,o,hf,hn,ho,hd⟩,hr⟩:=hl
   have hL:L∈X.fs:=hs L (by unfold frs;rw[List.filterMap_cons,hf];exact List.mem_cons_self)
   obtain⟨sl,e⟩:=I.base.slot L o ho (I.ok.frf L hL) hL fun z=>I.ok.exfs L z hL
   exact⟨hk,⟨L,_,hf,hn,e,hd⟩,ih (fun b hb=>hs b (by unfold frs;rw[List.filterMap_cons,hf];exact List.mem_cons_of_mem _ hb)) hr⟩
 exact all X.outer (fun _ hb=>hb) I.ok.funs
theorem Inv.stack (I:Inv X pins σ H s):s.heap.FunFrames X.base X.stack:=by
 rcases I.ok.stk with e|⟨e,hf⟩
 ·rw[e];exact I.funs
 ·rw[e]
  obtain⟨m,hn,_⟩:=I.loc
  refine .cons (by rw[I.ok.kind];decide) hf hn ?_ I.funs
  exact Heap.get?_none_of_le (Nat.le_trans I.ok.bsz I.ok.above)
theorem Inv.stkSub (I:Inv X pins σ H s):∀b∈frs X.stack,b∈X.env.locals::X.fs:=fun b hb=>by
 rcases I.ok.stk with e|⟨e,hf⟩
 ·rw[e] at hb;exact List.mem_cons_of_mem _ hb
 ·rw[e] at hb
  unfold frs at hb
  rw[List.filterMap_cons,hf] at hb
  exact hb
theorem Inv.stkFree (I:Inv X pins σ H s):∀b∈frs X.stack,H b=none:=fun b hb=>by
 rcases List.mem_cons.mp (I.stkSub b hb) with e|hb
 ·rw[e];exact I.free
 ·obtain⟨_,o,ho,_⟩:=I.ok.funs.mem hb
  exact I.base.free b o ho (I.ok.frf b hb) fun z=>I.ok.exfs b z hb
theorem Inv.step {g':Array GenState}{t':Nat}{d':Drawn}{ch:List Addr}(I:Inv X pins σ H s)
  (hch:∀b∈ch,(b∈X.ex\/X.s₀.heap.objs.size<=b)/\b≠X.env.locals/\(∀x c,X.env.cells.lookup x=some c->c≠b)/\∀p∈X.pn++pins,p.1≠b)
  (keep:∀b o,b≠X.env.locals->b∉X.fs->b∉ch->s.heap.get? b=some o->H b=none->h'.get? b=some o)
  (slot:∀b o,b≠X.env.locals->b∈X.fs->b∉ch->s.heap.get? b=some o->H b=none->∃sl,h'.get? b=some { o with slots:=sl }) (free:∀b o,b∉ch->s.heap.get? b=some o->H b=none->H' b=none)
  (there:∀b o,b∉ch->s.heap.get? b=some o->∃o',h'.get? b=some o')
  (tups:∀b xs,H b=some (.tup xs)->H' b=some (.tup xs)) (frzs:∀b o u,H b=some (.frz o u)->H' b=some (.frz o u)) (tbls:∀b ps,H b=some (.tbl ps)->∃more,H' b=some (.tbl (ps++more)))
  (ns:∀m,s.heap.Ns X.env.locals m->h'.Ns X.env.locals m) (hok:HOk X.prog X.w H' h') (hg:AllBare g'):
  Inv X pins σ H' { s with heap:=h',gens:=g',drawn:=d',toks:=t' }:=by
 have neL:∀b o,X.s₀.heap.get? b=some o->b≠X.env.locals:=fun b o e=>Nat.ne_of_lt (Nat.lt_of_lt_of_le (Heap.lt_size e) I.ok.above)
 have neC:∀b o,X.s₀.heap.get? b=some o->b∉X.ex->b∉ch:=fun b o e hx hb=>by
  rcases(hch b hb).1 with z|z
  ·exact hx z
  ·exact absurd (Nat.lt_of_lt_of_le (Heap.lt_size e) z) (Nat.lt_irrefl _)
 have cellK:∀x c,X.env.cells.lookup x=some c->∀v,s.heap.IsCell c v->h'.IsCell c v:=fun x c e v ⟨o,ho,hd⟩=>by
  have nch:c∉ch:=fun z=>(hch c z).2.2.1 x c e rfl
  by_cases hc:c∈X.fs
  ·obtain⟨sl,q⟩:=slot c o (I.cne x c e) hc nch ho (I.freeC x c e)
   exact⟨_,q,hd⟩
  ·exact⟨o,keep c o (I.cne x c e) hc nch ho (I.freeC x c e),hd⟩
 refine⟨I.ok,I.os,hg,⟨fun b o e n hb hx=>?_,fun b o e n hb hx=>?_,fun b o e n hx=>?_,fun b o e hx=>?_,fun b xs e=>tups b xs (I.base.tups b xs e),fun b o xs e=>frzs b o xs (I.base.frzs b o xs e),fun b ps e=>?_⟩,?_,fun x c e=>?_,?_,fun x c e=>?_,fun p hp=>?_,hok,I.len⟩
 ·exact keep b o (neL b o e) hb (neC b o e hx) (I.base.keep b o e n hb hx) (I.base.free b o e n hx)
 ·obtain⟨sl,e1⟩:=I.base.slot b o e n hb hx
  obtain⟨sl',e2⟩:=slot b _ (neL b o e) hb (neC b o e hx) e1 (I.base.free b o e n hx)
  exact⟨sl',e2⟩
 ·obtain⟨o',e1⟩:=I.base.there b o e hx
  exact free b o' (neC b o e hx) e1 (I.base.free b o e n hx)
 ·obtain⟨o',e1⟩:=I.base.there b o e hx
  exact there b o' (neC b o e hx) e1
 ·obtain⟨m1,e1⟩:=I.base.tbls b ps e
  obtain⟨m2,e2⟩:=tbls b _ e1
  exact⟨m1++m2,by rw[e2,Array.append_assoc]⟩
 ·obtain⟨m,hn,hl⟩:=I.loc
  refine⟨m,ns m hn,fun i x v e1 e2 e3=>?_⟩
  obtain⟨u,r,l⟩:=hl i x v e1 e2 e3
  refine⟨u,r,?_⟩
  rcases l with l|⟨k,c,e,z⟩
  ·exact .inl l
  ·exact .inr ⟨k,c,e,cellK x c e _ z⟩
 ·obtain⟨v,z⟩:=I.cell x c e
  exact⟨v,cellK x c e v z⟩
 ·obtain⟨m,⟨o,_,_,ho,_⟩,_⟩:=I.loc
  exact free _ o (fun z=>(hch _ z).2.1 rfl) ho I.free
 ·obtain⟨v,o,ho,hd⟩:=I.cell x c e
  exact free c o (fun z=>(hch c z).2.2.1 x c e rfl) ho (I.freeC x c e)
 ·obtain⟨e,n,ne,nf,d⟩:=I.pin p hp
  have nch:p.1∉ch:=fun z=>(hch p.1 z).2.2.2 p hp rfl
  exact⟨keep p.1 p.2 ne nf nch e n,free p.1 p.2 nch e n,ne,nf,d⟩
theorem Inv.un {t':Nat}(I:Inv X pins σ H s)(u:Un X.fs [] H H' s.heap h')(hok:HOk X.prog X.w H' h'):Inv X pins σ H' { s with heap:=h',toks:=t' }:=by
 obtain⟨m,⟨o,es,ep,ho,r⟩,_⟩:=id I.loc
 obtain⟨sl,hL⟩:=u.any ho I.free (by simp)
 exact I.step (g':=s.gens) (d':=s.drawn) (ch:=[]) (fun _ z=>nomatch z) (fun b o _ hb _ e n=>u.keep b o e n hb (by simp)) (fun b o _ hb _ e n=>u.slot b o e n hb (by simp)) (fun b o _ e n=>u.free b o e n (by simp)) (fun b o _ e=>u.there b o e (by simp)) u.tups u.frzs u.tbls (fun m' hm=>by
  obtain⟨o',es',ep',ho',r'⟩:=hm
  rw[ho] at ho';cases ho'
  exact⟨_,es',ep',hL,r'⟩) hok I.bare
theorem Inv.call {g':Array GenState}{t':Nat}{d':Drawn}{ch:List Addr}(I:Inv X pins σ H s)(u:Un (frs X.stack) ch H H' s.heap h')(hok:HOk X.prog X.w H' h')(hg:AllBare g')
  (hch:∀b∈ch,(b∈X.ex\/X.s₀.heap.objs.size<=b)/\b≠X.env.locals/\(∀x c,X.env.cells.lookup x=some c->c≠b)/\∀p∈X.pn++pins,p.1≠b):
  Inv X pins σ H' { s with heap:=h',gens:=g',drawn:=d',toks:=t' }:=by
 obtain⟨m,⟨o,es,ep,ho,r⟩,_⟩:=id I.loc
 obtain⟨sl,hL⟩:=u.any ho I.free fun z=>(hch _ z).2.1 rfl
 exact I.step (ch:=ch) hch (fun b o hL hb hc e n=>u.keep b o e n (fun z=>(List.mem_cons.mp (I.stkSub b z)).elim hL hb) hc) (fun b o _ _ hc e n=>u.any e n hc) (fun b o hc e n=>u.free b o e n hc) (fun b o hc e=>u.there b o e hc) u.tups u.frzs u.tbls (fun m' hm=>by
  obtain⟨o',es',ep',ho',r'⟩:=hm
  rw[ho] at ho';cases ho'
  exact⟨_,es',ep',hL,r'⟩) hok hg
theorem Inv.turned {t':Nat}{it:Addr}(I:Inv X pins σ H s)(k:∀b o,b≠it->s.heap.get? b=some o->h'.get? b=some o)(hn:H it=none)(hL:it≠X.env.locals)
  (h1:it∈X.ex\/X.s₀.heap.objs.size<=it) (h2:∀x c,X.env.cells.lookup x=some c->c≠it) (h3:∀p∈X.pn++pins,p.1≠it):Inv X pins σ H { s with heap:=h',toks:=t' }:=by
 have nit:∀b u,H b=some u->b≠it:=fun b u e z=>by rw[z,hn] at e;cases e
 refine I.step (g':=s.gens) (d':=s.drawn) (ch:=[it]) (fun b hb=>?_) (fun b o _ _ hc e _=>k b o (fun z=>hc (by simp[z])) e) (fun b o _ _ hc e _=>⟨o.slots,k b o (fun z=>hc (by simp[z])) e⟩) (fun _ _ _ _ n=>n)
  (fun b o hc e=>⟨o,k b o (fun z=>hc (by simp[z])) e⟩) (fun _ _ e=>e) (fun _ _ _ e=>e) (fun b ps e=>⟨#[],by rw[e];simp⟩) (fun m hm=>?_) (fun b u e=>?_) I.bare
 ·have e:b=it:=by simpa using hb
  subst e
  exact⟨h1,hL,h2,h3⟩
 ·obtain⟨o,es,ep,ho,r⟩:=hm
  exact⟨o,es,ep,k _ o (Ne.symm hL) ho,r⟩
 ·refine(I.hok b u e).stay (fun c v hc q=>k c v ?_ q) (fun _ q=>q) fun _ _ q=>q
  rcases hc with z|z
  ·rw[z];exact nit b u e
  ·exact nit c _ z
theorem Inv.tok (I:Inv X pins σ H s)(t:Nat):Inv X pins σ H { s with toks:=t }:=I.un (h':=s.heap) (t':=t) Un.refl I.hok
theorem Inv.kept {t':Nat}(I:Inv X pins σ H s)(k:∀b u,s.heap.get? b=some u->h'.get? b=some u):Inv X pins σ H { s with heap:=h',toks:=t' }:=I.un (Un.kept k) (I.hok.kept k)
theorem Inv.laid {a:Addr}{o:HO}{t':Nat}(I:Inv X pins σ H s)(k:∀b u,s.heap.get? b=some u->h'.get? b=some u)(hp:s.heap.objs.size<=a)(new:ObjOk X.prog X.w (upd H a o) h' a o):
  Inv X pins σ (upd H a o) { s with heap:=h',toks:=t' }:=I.un (Un.laid k hp (I.hok.fresh hp)) (I.hok.laid k hp new)
theorem Inv.write {x e:Addr}{o:HO}{t':Nat}(I:Inv X pins σ H s)(mu:Mut (H x))(he:e=x\/H e=some (.own x))(k:∀b u,b≠e->s.heap.get? b=some u->h'.get? b=some u)(heo:∃u,h'.get? e=some u)
  (new:ObjOk X.prog X.w (upd H x o) h' x o):Inv X pins σ (upd H x o) { s with heap:=h',toks:=t' }:=I.un (Un.write mu he k heo) (I.hok.write mu he k heo new)
theorem Inv.pins_of {pins':List (Addr×Obj)}(I:Inv X pins σ H s)(h:∀p∈pins',s.heap.get? p.1=some p.2/\H p.1=none/\p.1≠X.env.locals/\p.1∉X.fs/\∀v,p.2.data≠.cell v):Inv X pins' σ H s:=
 ⟨I.ok,I.os,I.bare,I.base,I.loc,I.cell,I.free,I.freeC,fun p hp=>(List.mem_append.mp hp).elim (fun z=>I.pin p (List.mem_append_left _ z)) (h p),I.hok,I.len⟩
theorem nodup_ix {N:List Str}(hN:N.Nodup){i j:Nat}{x:Str}(a:N[i]?=some x)(b:N[j]?=some x):i=j:=by
 obtain⟨h1,e1⟩:=List.getElem?_eq_some_iff.mp a
 obtain⟨h2,e2⟩:=List.getElem?_eq_some_iff.mp b
 exact(List.getElem_inj hN).mp (e1.trans e2.symm)
theorem store_ok2 {M:Model}{A:Around}{E:Value->Shared->Prop}{i:Nat}{x:Str}{v:V}{u:Value}{Q:Unit->Shared->Prop}(I:Inv X pins σ H s)(hN:X.N.Nodup)(hi:X.N[i]?=some x)(hx:Loc X.env.scope x)(r:RelV v u)
  (h:∀s',Inv X pins (σ.set i (some v)) H s'->(∃a,Heap.SameBut a s.heap s'.heap/\(a=X.env.locals\/X.env.cells.lookup x=some a))->Q () s') (hf:X.fn x=true\/X.env.scope.names.lookup x=some .local:=by first|exact .inl rfl|exact .inr rfl|assumption):wpAny M A (storeName X.env x u) Q E s:=by
 obtain⟨m,hn,hl⟩:=id I.loc
 have hcls:(X.env.scope.kind==.class||(X.env.scope.kind==.module&&X.env.locals !=X.env.globals))=false:=by rw[I.ok.kind];rfl
 have hiσ:i<σ.length:=by rw[I.len];exact(List.getElem?_eq_some_iff.mp hi).1
 have cne:=I.cne
 have tracked:∀{a:Addr} {h':Heap},(∃o,s.heap.get? a=some o/\H a=none)->Heap.SameBut a s.heap h'->HOk X.prog X.w H h':=fun {a h'} ha hs b ob e=>by
  obtain⟨_,_,hfree⟩:=ha
  refine(I.hok b ob e).stay (fun c w' hc q=>(hs.2 c ?_).trans q) (fun _ q=>q) fun _ _ q=>q
  rintro rfl
  rcases hc with rfl|hc
  ·rw[hfree] at e;cases e
  ·rw[hfree] at hc;cases hc
 rcases hx with hk|hk
 ·refine wpAny_storeName_local hk hn (fun h' hn' hs=>?_) hcls
  obtain⟨oL,_,_,hoL,_⟩:=id hn
  refine h _ ⟨I.ok,I.os,I.bare,⟨fun b o e n hb hx=>?_,fun b o e n hb hx=>?_,I.base.free,fun b o e hx=>?_,I.base.tups,I.base.frzs,I.base.tbls⟩,⟨_,hn',fun j y v' e1 e2 e3=>?_⟩,fun y c e=>?_,I.free,I.freeC,fun p hp=>?_,tracked ⟨oL,hoL,I.free⟩ hs,by simpa using I.len⟩ ⟨_,hs,.inl rfl⟩
  ·exact(hs.2 b (Nat.ne_of_lt (Nat.lt_of_lt_of_le (Heap.lt_size e) I.ok.above))).trans (I.base.keep b o e n hb hx)
  ·obtain⟨sl,e1⟩:=I.base.slot b o e n hb hx
   exact⟨sl,(hs.2 b (Nat.ne_of_lt (Nat.lt_of_lt_of_le (Heap.lt_size e) I.ok.above))).trans e1⟩
  ·obtain⟨o',e1⟩:=I.base.there b o e hx
   exact⟨o',(hs.2 b (Nat.ne_of_lt (Nat.lt_of_lt_of_le (Heap.lt_size e) I.ok.above))).trans e1⟩
  ·by_cases hj:j=i
   ·subst hj
    rw[hi] at e1;cases e1
    rw[List.getElem?_set_self hiσ] at e2
    cases e2
    exact⟨u,r,.inl ⟨hk,by simp⟩⟩
   ·rw[List.getElem?_set_ne (Ne.symm hj)] at e2
    obtain⟨u',r',q⟩:=hl j y v' e1 e2 e3
    refine⟨u',r',?_⟩
    rcases q with⟨k,e⟩|⟨k,c,e,z⟩
    ·refine .inl ⟨k,?_⟩
     have:y≠x:=fun e=>hj (nodup_ix hN e1 (e▸hi))
     simp[this,e]
    ·exact .inr ⟨k,c,e,z.sameBut hs (cne y c e)⟩
  ·obtain⟨w',z⟩:=I.cell y c e
   exact⟨w',z.sameBut hs (cne y c e)⟩
  ·obtain⟨e,n,ne,nf,d⟩:=I.pin p hp
   exact⟨(hs.2 p.1 ne).trans e,n,ne,nf,d⟩
 ·have hfn:X.fn x=true:=by
   rcases hf with z|z
   ·exact z
   ·rw[z] at hk;cases hk
  obtain⟨c,hc⟩:=I.ok.has x (.inl hk)
  obtain⟨w',z⟩:=I.cell x c hc
  refine wpAny_storeName_cell I.ok.kind hk hc z (fun h' hc' hs=>?_)
  obtain⟨oc,hoc,hocd⟩:=id z
  refine h { s with heap:=h' } ⟨I.ok,I.os,I.bare,⟨fun b o e n hb hx=>?_,fun b o e n hb hx=>?_,I.base.free,fun b o e hx=>?_,I.base.tups,I.base.frzs,I.base.tbls⟩,⟨m,hn.sameBut hs (Ne.symm (cne x c hc)),fun j y v' e1 e2 e3=>?_⟩,fun y c' e=>?_,I.free,I.freeC,fun p hp=>?_,tracked ⟨oc,hoc,I.freeC x c hc⟩ hs,by simpa using I.len⟩ ⟨c,hs,.inr hc⟩
  ·exact(hs.2 b (Nat.ne_of_lt (Nat.lt_of_lt_of_le (Heap.lt_size e) (I.ok.cab x c hfn hc)))).trans (I.base.keep b o e n hb hx)
  ·obtain⟨sl,e1⟩:=I.base.slot b o e n hb hx
   exact⟨sl,(hs.2 b (Nat.ne_of_lt (Nat.lt_of_lt_of_le (Heap.lt_size e) (I.ok.cab x c hfn hc)))).trans e1⟩
  ·obtain⟨o',e1⟩:=I.base.there b o e hx
   exact⟨o',(hs.2 b (Nat.ne_of_lt (Nat.lt_of_lt_of_le (Heap.lt_size e) (I.ok.cab x c hfn hc)))).trans e1⟩
  ·by_cases hj:j=i
   ·subst hj
    rw[hi] at e1;cases e1
    rw[List.getElem?_set_self hiσ] at e2
    cases e2
    exact⟨u,r,.inr ⟨.inl hk,c,hc,hc'⟩⟩
   ·rw[List.getElem?_set_ne (Ne.symm hj)] at e2
    obtain⟨u',r',q⟩:=hl j y v' e1 e2 e3
    refine⟨u',r',?_⟩
    rcases q with q|⟨k,c',e,z'⟩
    ·exact .inl q
    ·refine .inr ⟨k,c',e,z'.sameBut hs ?_⟩
     rintro rfl
     exact hj (nodup_ix hN e1 (I.ok.inj _ _ _ e hc▸hi))
  ·by_cases hcc:c'=c
   ·subst hcc;exact⟨_,hc'⟩
   ·obtain⟨w2,z2⟩:=I.cell y c' e
    exact⟨w2,z2.sameBut hs hcc⟩
  ·obtain⟨e,n,ne,nf,d⟩:=I.pin p hp
   refine⟨(hs.2 p.1 ?_).trans e,n,ne,nf,d⟩
   intro q
   rw[q,hoc] at e
   have q':oc=p.2:=Option.some.inj e
   exact d w' (by rw[<- q'];exact hocd)
theorem store_ok {M:Model}{A:Around}{E:Value->Shared->Prop}{i:Nat}{x:Str}{v:V}{u:Value}{Q:Unit->Shared->Prop}(I:Inv X pins σ H s)(hN:X.N.Nodup)(hi:X.N[i]?=some x)(hx:Loc X.env.scope x)(r:RelV v u)
  (h:∀s',Inv X pins (σ.set i (some v)) H s'->Q () s') (hf:X.fn x=true\/X.env.scope.names.lookup x=some .local:=by first|exact .inl rfl|exact .inr rfl|assumption):wpAny M A (storeName X.env x u) Q E s:=
 store_ok2 I hN hi hx r (fun s' I' _=>h s' I') hf
theorem Inv.call' {s':Shared}{ch:List Addr}(I:Inv X pins σ H s)(ho:s'.os=s.os)(u:Un (frs X.stack) ch H H' s.heap s'.heap)(hok:HOk X.prog X.w H' s'.heap)(hg:AllBare s'.gens)
  (hch:∀b∈ch,(b∈X.ex\/X.s₀.heap.objs.size<=b)/\b≠X.env.locals/\(∀x c,X.env.cells.lookup x=some c->c≠b)/\∀p∈X.pn++pins,p.1≠b):Inv X pins σ H' s':=by
 obtain⟨h',g',d',t',o'⟩:=s'
 have e:o'=s.os:=ho
 subst e
 exact I.call (g':=g') (t':=t') (d':=d') u hok hg hch
end
abbrev XK:=Value->Option Addr->Hp->Prop
abbrev St:=List (Option V)
abbrev VK:=V->Hp->Prop
abbrev TE:=St->Hp->VK->Prop
abbrev TT:=St->Hp->(Bool->Hp->Prop)->Prop
abbrev TA:=St->Hp->(List V->Hp->Prop)->Prop
structure Ends where
 nx:St->Hp->Prop
 rt:VK
 bk:St->Hp->Prop:=fun _ _=>False
 ct:St->Hp->Prop:=fun _ _=>False
abbrev TS:=Ends->St->Hp->Prop
def EP (X:Cx)(pins:List (Addr×Obj))(σ:St)(Q:VK)(u:Value)(s':Shared):Prop:=∃v H',Inv X pins σ H' s'/\RelV v u/\Q v H'
def TP (X:Cx)(pins:List (Addr×Obj))(σ:St)(Q:Bool->Hp->Prop)(b:Bool)(s':Shared):Prop:=∃H',Inv X pins σ H' s'/\Q b H'
def AP (X:Cx)(pins:List (Addr×Obj))(σ:St)(Q:List V->Hp->Prop)(us:List Value)(s':Shared):Prop:=∃vs H',Inv X pins σ H' s'/\Vals vs us/\Q vs H'
def SP (X:Cx)(pins:List (Addr×Obj))(D:Ends)(f:Flow)(s':Shared):Prop:=
 match f with
 |.next=>∃σ' H',Inv X pins σ' H' s'/\D.nx σ' H'
 |.brk=>∃σ' H',Inv X pins σ' H' s'/\D.bk σ' H'
 |.cont=>∃σ' H',Inv X pins σ' H' s'/\D.ct σ' H'
 |.ret u=>∃v σ' H',Inv X pins σ' H' s'/\RelV v u/\D.rt v H'
def PE (X:Cx)(e:Expr)(t:TE):Prop:=
 ∀(pins:List (Addr×Obj)) (s:Shared) (σ:St) (H:Hp) (Q:VK),Inv X pins σ H s->t σ H Q->wpAny (model X.prog X.w) X.A (eval e X.env) (EP X pins σ Q) X.xe s
def PT (X:Cx)(e:Expr)(t:TT):Prop:=
 ∀(pins:List (Addr×Obj)) (s:Shared) (σ:St) (H:Hp) (Q:Bool->Hp->Prop),Inv X pins σ H s->t σ H Q->wpAny (model X.prog X.w) X.A (isTrue e X.env (eval e X.env)) (TP X pins σ Q) X.xe s
def PW (X:Cx)(e:Expr)(t:TT):Prop:=
 ∀(whole:Sem Value) (pins:List (Addr×Obj)) (s:Shared) (σ:St) (H:Hp) (Q:Bool->Hp->Prop),Inv X pins σ H s->t σ H Q->wpAny (model X.prog X.w) X.A (isTrue e X.env whole) (TP X pins σ Q) X.xe s
theorem PW.pt {X:Cx}{e:Expr}{t:TT}(h:PW X e t):PT X e t:=h _
def PA (X:Cx)(es:List Expr)(t:TA):Prop:=
 ∀(pos:Pos) (pins:List (Addr×Obj)) (s:Shared) (σ:St) (H:Hp) (Q:List V->Hp->Prop),Inv X pins σ H s->t σ H Q->wpAny (model X.prog X.w) X.A (spliced (backTo pos (starEach es X.env))) (AP X pins σ Q) X.xe s
def PS (X:Cx)(st:Stmt)(t:TS):Prop:=
 ∀(pins:List (Addr×Obj)) (s:Shared) (σ:St) (H:Hp) (D:Ends),Inv X pins σ H s->t D σ H->wpAny (model X.prog X.w) X.A (exec st X.env) (SP X pins D) X.xe s
def PSs (X:Cx)(st:List Stmt)(t:TS):Prop:=
 ∀(pins:List (Addr×Obj)) (s:Shared) (σ:St) (H:Hp) (D:Ends),Inv X pins σ H s->t D σ H->wpAny (model X.prog X.w) X.A (execs st X.env) (SP X pins D) X.xe s
theorem thn {α:Type}{t:Sem α}{Q Q':α->Shared->Prop}{M:Model}{A:Around}{E:Value->Shared->Prop}{s:Shared}(h:wpAny M A t Q E s)(hQ:∀a s,Q a s->Q' a s):wpAny M A t Q' E s:=wpAny_mono h hQ fun _ _ x=>x
end L2
namespace L2
open PySem PySem.Spec PyProof.Rows
section
variable {X:Cx}
def tVar (i:Nat):TE:=fun σ H Q=>∃v,σ[i]?=some (some v)/\Q v H
def tC (v:V):TE:=fun _ H Q=>Q v H
theorem pe_var {i:Nat}{x:Str}{pos:Pos}(hN:X.N[i]?=some x)(hv:Vis X.env.scope x)(hd:(x==("__debug__":Str))=false:=by decide)(hcd:(x==("__classdict__":Str))=false:=by decide):PE X (.Name x pos) (tVar i):=by
 intro pins s σ H Q I h
 obtain⟨v,e,h⟩:=h
 obtain⟨m,hn,hl⟩:=I.loc
 obtain⟨u,r,l⟩:=hl i x v hN e hv
 have fin:EP X pins σ Q u s:=⟨v,H,I,r,h⟩
 rcases l with⟨hk,hm⟩|⟨hk,c,hc,hcell⟩
 ·exact wpAny_Name (wpAny_loadName_local I.ok.kind hk hn hm fin) hd
 ·rcases hk with hk|hk
  ·exact wpAny_Name (wpAny_loadName_cell I.ok.kind hk hc hcell fin) hd
  ·exact wpAny_Name (wpAny_loadName_free I.ok.kind hk hc hcell fin hcd) hd
theorem pe_int {i j pos}:PE X (.Constant (.int i) j pos) (tC (.int i)):=fun _ _ _ H _ I h=>wpAny_Constant_int ⟨.int i,H,I.tok _,⟨_,rfl⟩,h⟩
theorem pe_bl {b j pos}:PE X (.Constant (.bool b) j pos) (tC (.bl b)):=fun _ _ _ H _ I h=>Constant_bool ⟨.bl b,H,I,rfl,h⟩
theorem pe_non {j pos}:PE X (.Constant .none j pos) (tC .non):=fun _ _ _ H _ I h=>Constant_none ⟨.non,H,I,rfl,h⟩
def Gl (X:Cx)(x:Str):Prop:=X.env.kindOf x=some .globalImplicit
theorem ld_glob {E:Value->Shared->Prop}{pins:List (Addr×Obj)}{s:Shared}{σ:St}{H:Hp}{x:Str}{u:Value}{pos:Pos}{Q:Value->Shared->Prop}(I:Inv X pins σ H s)(hg:Gl X x)(hm:X.mg x=some u)(h:Q u s)
  (hd:(x==("__debug__":Str))=false:=by decide):wpAny (model X.prog X.w) X.A (eval (.Name x pos) X.env) Q E s:=
 Calls.Name_function_global I.ok.kind hg (Calls.loadGlobal_global (by rw[I.ok.glob];exact I.mod.glob.keeps I.bk) hm h) hd
theorem ld_blt {E:Value->Shared->Prop}{pins:List (Addr×Obj)}{s:Shared}{σ:St}{H:Hp}{x:Str}{u:Value}{pos:Pos}{Q:Value->Shared->Prop}(I:Inv X pins σ H s)(hg:Gl X x)(hm:X.mg x=none)(hv:bootBuiltins x=some u)(h:Q u s)
  (hn:x≠"__name__":=by decide) (hd:(x==("__debug__":Str))=false:=by decide):wpAny (model X.prog X.w) X.A (eval (.Name x pos) X.env) Q E s:=by
 obtain⟨mb,h1,h2⟩:=I.mod.blt
 exact Calls.Name_function_global I.ok.kind hg (Calls.loadGlobal_builtin (by rw[I.ok.glob];exact I.mod.glob.keeps I.bk) hm (by rw[I.ok.blt];exact h1.keeps I.bk) ((h2 x hn).trans hv) h) hd
theorem pe_bltn {x:Str}{v:V}{u:Value}{pos:Pos}(hg:Gl X x)(hm:X.mg x=none)(hv:bootBuiltins x=some u)(r:RelV v u)(hn:x≠"__name__":=by decide)(hd:(x==("__debug__":Str))=false:=by decide):PE X (.Name x pos) (tC v):=
 fun _ _ _ H _ I h=>ld_blt I hg hm hv ⟨v,H,I,r,h⟩ hn hd
variable {a b:Expr} {ta tb:TE} {pos:Pos}
def PC (X:Cx)(op:CmpOp)(a b:Expr)(t:TE):Prop:=
 ∀(pins:List (Addr×Obj)) (s:Shared) (σ:St) (H:Hp) (Q:VK),Inv X pins σ H s->t σ H Q→
  wpAny (model X.prog X.w) X.A (eval a X.env) (fun v s₁=>wpAny (model X.prog X.w) X.A (eval b X.env) (fun u s₂=>wpAny (model X.prog X.w) X.A (compareOp op v u) (EP X pins σ Q) X.xe s₂) X.xe s₁) X.xe s
def tB (t:TE):TT:=fun σ H Q=>t σ H fun x H1=>∃c,x=.bl c/\Q c H1
theorem pt_cmp {op:CmpOp}{t:TE}(h:PC X op a b t)(h1:behindInMarks op b=false:=by first|exact nobehind _ (by decide) (by decide)|rfl):PT X (.Compare a [op] [b] pos) (tB t):=by
 intro pins s σ H Q I hw
 refine wpAny_isTrue_Compare1 (thn (h pins s σ H _ I hw) fun v s1 h1=>thn h1 fun u s2 h2=>thn h2 fun c s3 ⟨x,H1,I1,r1,q1⟩=>?_) h1
 obtain⟨d,rfl,q⟩:=q1
 cases r1
 exact wpAny_truthy_bool ⟨H1,I1,q⟩
theorem pt_val {e:Expr}{t:TE}(h:PE X e t)(he:∀whole,isTrue e X.env whole=(do let v ← whole;standAt e.pos;holding [v] (truthy v)):=by intro _;rfl):PT X e (tB t):=by
 intro pins s σ H Q I hw
 refine isTrue_plain (thn (h pins s σ H _ I hw) fun v s1 ⟨x,H1,I1,r1,q1⟩=>?_) (he _)
 obtain⟨d,rfl,q⟩:=q1
 cases r1
 exact wpAny_truthy_bool ⟨H1,I1,q⟩
variable {tA tB':TT} {rest:List Expr}
def tAnd (t u:TT):TT:=fun σ H Q=>t σ H fun c H1=>if c=true then u σ H1 Q else Q false H1
def tOr (t u:TT):TT:=fun σ H Q=>t σ H fun c H1=>if c=true then Q true H1 else u σ H1 Q
def tNot (t:TT):TT:=fun σ H Q=>t σ H fun c H1=>Q (!c) H1
theorem pw_and1 (ha:PT X a tA):PW X (.BoolOp .And [a] pos) tA:=by
 intro wh pins s σ H Q I h
 refine isTrue_and (thn (ha pins s σ H Q I h) fun c s1 e=>?_)
 cases c with
 |true=>exact isTrue_and_nil e
 |false=>exact e
theorem pw_or1 (ha:PT X a tA):PW X (.BoolOp .Or [a] pos) tA:=by
 intro wh pins s σ H Q I h
 refine isTrue_or (thn (ha pins s σ H Q I h) fun c s1 e=>?_)
 cases c with
 |false=>exact isTrue_or_nil e
 |true=>exact e
theorem pw_and (ha:PT X a tA)(hb:PW X (.BoolOp .And (b::rest) pos) tB'):PW X (.BoolOp .And (a::b::rest) pos) (tAnd tA tB'):=by
 intro wh pins s σ H Q I h
 refine isTrue_and (thn (ha pins s σ H _ I h) fun c s1 ⟨H1,I1,q1⟩=>?_)
 cases c with
 |true=>exact hb wh pins s1 σ H1 Q I1 q1
 |false=>exact⟨H1,I1,q1⟩
theorem pw_or (ha:PT X a tA)(hb:PW X (.BoolOp .Or (b::rest) pos) tB'):PW X (.BoolOp .Or (a::b::rest) pos) (tOr tA tB'):=by
 intro wh pins s σ H Q I h
 refine isTrue_or (thn (ha pins s σ H _ I h) fun c s1 ⟨H1,I1,q1⟩=>?_)
 cases c with
 |true=>exact⟨H1,I1,q1⟩
 |false=>exact hb wh pins s1 σ H1 Q I1 q1
theorem pt_not (ha:PT X a tA):PT X (.UnaryOp .Not a pos) (tNot tA):=by
 intro pins s σ H Q I h
 exact isTrue_not (ha pins s σ H (fun c H1=>Q (!c) H1) I h)
def tAndV (ta tb:TE):TE:=fun σ H Q=>ta σ H fun x H1=>∃c,x=.bl c/\if c=true then tb σ H1 Q else Q (.bl false) H1
def tNotV (ta:TE):TE:=fun σ H Q=>ta σ H fun x H1=>∃c,x=.bl c/\Q (.bl (!c)) H1
theorem pe_one {op}{t:TE}(h:PE X a t):PE X (.BoolOp op [a] pos) t:=fun pins s σ H Q I hw=>BoolOp_one (h pins s σ H Q I hw)
theorem pe_and (ha:PE X a ta)(hb:PE X (.BoolOp .And (b::rest) pos) tb):PE X (.BoolOp .And (a::b::rest) pos) (tAndV ta tb):=by
 intro pins s σ H Q I h
 refine BoolOp_and (thn (ha pins s σ H _ I h) fun v s1 ⟨x,H1,I1,r1,q1⟩=>?_)
 obtain⟨c,rfl,q1⟩:=q1
 cases r1
 refine wpAny_truthy_bool ?_
 cases c with
 |true=>exact hb pins s1 σ H1 Q I1 q1
 |false=>exact⟨.bl false,H1,I1,rfl,q1⟩
theorem pe_not (ha:PE X a ta):PE X (.UnaryOp .Not a pos) (tNotV ta):=by
 intro pins s σ H Q I h
 refine UnaryOp_ (thn (ha pins s σ H _ I h) fun v s1 ⟨x,H1,I1,r1,q1⟩=>?_)
 obtain⟨c,rfl,q1⟩:=q1
 cases r1
 exact not_of (wpAny_truthy_bool ⟨.bl (!c),H1,I1,rfl,q1⟩)
end
end L2
namespace L2
open PySem PySem.Spec PyProof.Rows
def SqL (K:W.Frag)(H:Hp)(a:Addr)(xs:List V):Prop:=
 Rd H a (.lst xs)∨
  ∃(o:Obj) (its:Array Value) (n:Nat),K.lookup a=some o/\o.cls=.type "list"/\o.dict=none/\o.data=.seq its n/\its.size<=sizeLine/\Vals xs its.toList
def SqT (K:W.Frag)(H:Hp)(a:Addr)(xs:List V):Prop:=
 Rd H a (.tup xs)∨
  ∃(o:Obj) (its:Array Value) (n:Nat),K.lookup a=some o/\o.cls=.type "tuple"/\o.data=.seq its n/\its.size<=sizeLine/\Vals xs its.toList
def absV:Value->Option V
 |.none=>some .non
 |.bool b=>some (.bl b)
 |.int i _=>some (.int i)
 |.str x _=>some (.str x)
 |.bytes b _=>some (.byt b)
 |.float b _=>some (.flt b)
 |.ref a=>some (.ref a)
 |.type n=>some (.ty n)
 |_=>none
theorem RelV.abs {x:V}{u:Value}(r:RelV x u):absV u=some x:=by
 cases x with
 |non=>cases r;rfl
 |bl _=>cases r;rfl
 |int _=>obtain⟨t,rfl⟩:=r;rfl
 |str _=>obtain⟨t,rfl⟩:=r;rfl
 |byt _=>obtain⟨t,rfl⟩:=r;rfl
 |flt _=>obtain⟨t,rfl⟩:=r;rfl
 |ref _=>cases r;rfl
 |ty _=>cases r;rfl
theorem RelV.inj {x y:V}{u:Value}(r:RelV x u)(q:RelV y u):x=y:=Option.some.inj (r.abs.symm.trans q.abs)
theorem Vals.inj:∀{xs ys:List V} {us:List Value},Vals xs us->Vals ys us->xs=ys
 |_,_,_,.nil,.nil=>rfl
 |_,_,_,.cons r t,.cons r' t'=>by rw[r.inj r',Vals.inj t t']
section
variable {X:Cx} {pins:List (Addr×Obj)} {σ:St} {H:Hp} {s:Shared} {a:Addr} {xs ys:List V}
theorem SqL.of {K:W.Frag}(h:H a=some (.lst xs)):SqL K H a xs:=.inl (.inl h)
theorem SqT.of {K:W.Frag}(h:H a=some (.tup xs)):SqT K H a xs:=.inl (.inl h)
theorem Inv.list (I:Inv X pins σ H s)(h:SqL X.K H a xs):∃its:List Value,Vals xs its/\PlainL s.heap a its.toArray/\xs.length<=sizeLine:=by
 rcases h with h|⟨o,its,n,hk,hc,hd,hs,hz,r⟩
 ·obtain⟨z,its,n,r,e⟩:=h.ok I.hok
  exact⟨its,r,⟨_,n,e,rfl,rfl,rfl⟩,z⟩
 ·refine⟨its.toList,r,⟨o,n,I.kIn a o hk,hc,hd,by simpa using hs⟩,?_⟩
  have e:=r.length
  simp only[Array.length_toList] at e
  omega
theorem Inv.tuple (I:Inv X pins σ H s)(h:SqT X.K H a xs):∃its:List Value,Vals xs its/\IsTup s.heap a its.toArray/\xs.length<=sizeLine:=by
 rcases h with h|⟨o,its,n,hk,hc,hs,hz,r⟩
 ·obtain⟨z,its,r,p⟩:=h.ok I.hok
  exact⟨its,r,p,z⟩
 ·refine⟨its.toList,r,⟨o,I.kIn a o hk,hc,n,by simpa using hs⟩,?_⟩
  have e:=r.length
  simp only[Array.length_toList] at e
  omega
theorem Inv.list_inj (I:Inv X pins σ H s)(h:SqL X.K H a xs)(h':SqL X.K H a ys):xs=ys:=by
 obtain⟨its,r,⟨o,n,e,_,_,d⟩,_⟩:=I.list h
 obtain⟨its',r',⟨o',n',e',_,_,d'⟩,_⟩:=I.list h'
 rw[e] at e';cases e'
 rw[d] at d'
 injection d' with d1 _
 have:its=its':=by simpa using congrArg Array.toList d1
 subst this
 exact r.inj r'
theorem Inv.tuple_inj (I:Inv X pins σ H s)(h:SqT X.K H a xs)(h':SqT X.K H a ys):xs=ys:=by
 obtain⟨its,r,⟨o,e,_,n,d⟩,_⟩:=I.tuple h
 obtain⟨its',r',⟨o',e',_,n',d'⟩,_⟩:=I.tuple h'
 rw[e] at e';cases e'
 rw[d] at d'
 injection d' with d1 _
 have:its=its':=by simpa using congrArg Array.toList d1
 subst this
 exact r.inj r'
end
abbrev Cx.wish (X:Cx)(E:Value->Shared->Prop):Cx:={ X with xe:=E }
abbrev Cx.nox (X:Cx):Cx:=X.wish fun _ _=>False
theorem Cx.Ok.wish {X:Cx}(ok:X.Ok)(E:Value->Shared->Prop):(X.wish E).Ok:=
 ⟨ok.mod,ok.kind,ok.glob,ok.blt,ok.above,ok.inj,ok.has,ok.cab,ok.hd,ok.frames,ok.stk,ok.exf,ok.bs,ok.bsz,ok.noex,ok.exfs,ok.funs,ok.frf⟩
theorem Cx.Ok.unwish {X:Cx}{E:Value->Shared->Prop}(ok:(X.wish E).Ok):X.Ok:=
 ⟨ok.mod,ok.kind,ok.glob,ok.blt,ok.above,ok.inj,ok.has,ok.cab,ok.hd,ok.frames,ok.stk,ok.exf,ok.bs,ok.bsz,ok.noex,ok.exfs,ok.funs,ok.frf⟩
section
variable {X:Cx} {pins:List (Addr×Obj)} {σ:St} {H:Hp} {s:Shared} {E:Value->Shared->Prop}
theorem Inv.wish (I:Inv X pins σ H s)(E:Value->Shared->Prop):Inv (X.wish E) pins σ H s:=⟨I.ok.wish E,I.os,I.bare,I.base,I.loc,I.cell,I.free,I.freeC,I.pin,I.hok,I.len⟩
theorem Inv.unwish (I:Inv (X.wish E) pins σ H s):Inv X pins σ H s:=⟨I.ok.unwish,I.os,I.bare,I.base,I.loc,I.cell,I.free,I.freeC,I.pin,I.hok,I.len⟩
theorem SP.unwish {D:Ends}{f:Flow}{s':Shared}(h:SP (X.wish E) pins D f s'):SP X pins D f s':=by
 cases f with
 |next=>obtain⟨σ',H',I,q⟩:=h;exact⟨σ',H',I.unwish,q⟩
 |brk=>obtain⟨σ',H',I,q⟩:=h;exact⟨σ',H',I.unwish,q⟩
 |cont=>obtain⟨σ',H',I,q⟩:=h;exact⟨σ',H',I.unwish,q⟩
 |ret u=>obtain⟨v,σ',H',I,r,q⟩:=h;exact⟨v,σ',H',I.unwish,r,q⟩
theorem PSs.nox {st:List Stmt}{t:TS}(h:PSs X.nox st t):PSs X st t:=fun pins s σ H D I hw=>
 wpAny_mono (h pins s σ H D (I.wish _) hw) (fun _ _ q=>q.unwish) fun _ _ z=>False.elim z
end
section
variable {X:Cx} {st:Stmt} {rest:List Stmt} {t u:TS} {e:Expr} {te:TE} {pos:Pos}
def tNext:TS:=fun D σ H=>D.nx σ H
def tSeq (t u:TS):TS:=fun D σ H=>t { D with nx:=u D } σ H
theorem pss_nil:PSs X [] tNext:=fun _ _ σ H _ I h=>wpAny_execs_nil ⟨σ,H,I,h⟩
theorem pss_cons (h1:PS X st t)(h2:PSs X rest u):PSs X (st::rest) (tSeq t u):=by
 intro pins s σ H D I h
 refine wpAny_execs_cons (thn (h1 pins s σ H { D with nx:=u D } I h) fun f s1 q=>?_)
 cases f with
 |next=>
  obtain⟨σ',H',I',q⟩:=q
  exact h2 pins s1 σ' H' D I' q
 |ret v=>exact q
 |brk=>exact q
 |cont=>exact q
theorem pss_one (h1:PS X st t):PSs X [st] t:=by
 intro pins s σ H D I h
 refine wpAny_execs_cons (thn (h1 pins s σ H D I h) fun f s1 q=>?_)
 cases f with
 |next=>exact wpAny_execs_nil q
 |ret v=>exact q
 |brk=>exact q
 |cont=>exact q
theorem Inv.quiet {pins:List (Addr×Obj)}{σ:St}{H:Hp}{s:Shared}(I:Inv X pins σ H s):interactive X.env=false:=by simp[interactive,I.ok.kind]
def tDrop (te:TE):TS:=fun D σ H=>te σ H fun _ H1=>D.nx σ H1
theorem ps_expr (he:PE X e te)(hs:swapsWith e none pos.line X.env=pure false:=by rfl):PS X (.Expr e pos) (tDrop te):=by
 intro pins s σ H D I h
 exact wpAny_Expr_any (thn (he pins s σ H _ I h) fun v s1 ⟨x,H1,I1,r1,q1⟩=>⟨σ,H1,I1,q1⟩) I.quiet hs
def tRet (te:TE):TS:=fun D σ H=>te σ H D.rt
theorem ps_ret (he:PE X e te):PS X (.Return (some e) pos) (tRet te):=by
 intro pins s σ H D I h
 exact wpAny_Return_some (thn (he pins s σ H _ I h) fun v s1 ⟨x,H1,I1,r1,q1⟩=>⟨x,σ,H1,I1,r1,q1⟩)
def tIfS (c:TT)(t u:TS):TS:=fun D σ H=>c σ H fun b H1=>if b=true then t D σ H1 else u D σ H1
theorem ps_if {c:Expr}{a b:List Stmt}{tc:TT}(hc:PT X c tc)(ha:PSs X a t)(hb:PSs X b u):PS X (.If c a b pos) (tIfS tc t u):=by
 intro pins s σ H D I h
 refine wpAny_If (thn (hc pins s σ H _ I h) fun d s1 ⟨H1,I1,q1⟩=>?_)
 cases d with
 |true=>exact ha pins s1 σ H1 D I1 q1
 |false=>exact hb pins s1 σ H1 D I1 q1
end
abbrev TG:=V->St->Hp->(St->Hp->Prop)->Prop
abbrev TGs:=List V->St->Hp->(St->Hp->Prop)->Prop
def PG (X:Cx)(target:Expr)(t:TG):Prop:=
 ∀(pins:List (Addr×Obj)) (s:Shared) (σ:St) (H:Hp) (v:V) (u:Value) (Q:St->Hp->Prop),Inv X pins σ H s->RelV v u->t v σ H Q→
  wpAny (model X.prog X.w) X.A (assign target X.env u) (fun _ s'=>∃σ' H',Inv X pins σ' H' s'/\Q σ' H') X.xe s
def PGs (X:Cx)(ts:List Expr)(t:TGs):Prop:=
 ∀(pins:List (Addr×Obj)) (s:Shared) (σ:St) (H:Hp) (vs:List V) (us:List Value) (Q:St->Hp->Prop),Inv X pins σ H s->Vals vs us->t vs σ H Q→
  wpAny (model X.prog X.w) X.A (assignInOrder ((assignEach ts X.env).map (·.2)) us) (fun _ s'=>∃σ' H',Inv X pins σ' H' s'/\Q σ' H') X.xe s
section
variable {X:Cx} {pos:Pos}
def gName (i:Nat):TG:=fun v σ H Q=>Q (σ.set i (some v)) H
theorem pg_name {i:Nat}{x:Str}(hN:X.N.Nodup)(hi:X.N[i]?=some x)(hx:Loc X.env.scope x)(hf:X.fn x=true\/X.env.scope.names.lookup x=some .local:=by first|exact .inl rfl|exact .inr rfl|assumption):PG X (.Name x pos) (gName i):=by
 intro pins s σ H v u Q I r h
 exact wpAny_assign_Name (store_ok I hN hi hx r (fun s' I'=>⟨_,H,I',h⟩) hf)
def gNil:TGs:=fun vs σ H Q=>vs=[]/\Q σ H
def gCons (t:TG)(u:TGs):TGs:=fun vs σ H Q=>∃v r,vs=v::r/\t v σ H fun σ' H'=>u r σ' H' Q
theorem pgs_nil:PGs X [] gNil:=by
 intro pins s σ H vs us Q I r h
 obtain⟨e,h⟩:=h
 subst e
 cases r
 exact assignInOrder_nil ⟨σ,H,I,h⟩
theorem pgs_cons {e:Expr}{es:List Expr}{t:TG}{u:TGs}(h1:PG X e t)(h2:PGs X es u)
  (hs:(assignEach (e::es) X.env).map (·.2)=assign e X.env::(assignEach es X.env).map (·.2):=by rfl):PGs X (e::es) (gCons t u):=by
 intro pins s σ H vs us Q I r h
 obtain⟨v,vr,e1,h⟩:=h
 subst e1
 cases r with
 |cons r rr=>
  rw[hs]
  refine assignInOrder_cons (thn (h1 pins s σ H _ _ _ I r h) fun _ s1 ⟨σ1,H1,I1,q1⟩=>?_)
  exact h2 pins s1 σ1 H1 _ _ Q I1 rr q1
def gTup (K:W.Frag)(n:Nat)(t:TGs):TG:=fun v σ H Q=>∃a xs,v=.ref a/\SqT K H a xs/\xs.length=n/\t xs σ H Q
theorem pg_tup {es:List Expr}{k:Nat}{t:TGs}{n:Nat}(hc:X.calm=true)(h:PGs X es t)
  (hn:(assignEach es X.env).length=n:=by rfl) (hst:(assignEach es X.env).findIdx? (·.1)=none:=by rfl):PG X (.Tuple es k pos) (gTup X.K n t):=by
 intro pins s σ H v u Q I r hw
 obtain⟨a,xs,e1,hq,hl,hw⟩:=hw
 subst e1
 cases r
 obtain⟨its,rv,ht,hz⟩:=I.tuple hq
 refine assign_Tuple_tuple (I.ok.hd hc) ht (by simp[hn,<- hl,rv.length]) hst fun h' hx=>?_
 have I1:Inv X pins σ H { s with heap:=h' }:=I.kept (t':=s.toks) fun b o e=>hx b o (Nat.ne_of_lt (Heap.lt_size e)) e
 exact h pins _ σ H xs _ Q I1 (by simpa using rv) hw
def tAsg (te:TE)(g:TG):TS:=fun D σ H=>te σ H fun x H1=>g x σ H1 D.nx
theorem ps_asg {tg e:Expr}{te:TE}{g:TG}(he:PE X e te)(hg:PG X tg g)(hs:swapsWithSole [tg] e pos.line X.env=pure false:=by rfl)(hw:swappedStores [tg] e X.env=pure none:=by rfl)
  (h1:(assignEach [tg] X.env).map (·.2)=[assign tg X.env]:=by rfl):PS X (.Assign [tg] e pos) (tAsg te g):=by
 intro pins s σ H D I h
 refine wpAny_Assign_stores (thn (he pins s σ H _ I h) fun v s1 ⟨x,H1,I1,r1,q1⟩=>?_) hs hw
 rw[h1]
 exact thn (hg pins s1 σ H1 x v _ I1 r1 q1) fun _ s2 q=>q
theorem ps_set {i:Nat}{x:Str}{e:Expr}{te:TE}{pos':Pos}(hN:X.N.Nodup)(hi:X.N[i]?=some x)(hx:Loc X.env.scope x)(he:PE X e te)(hs:swapsWith e (some (.Name x pos')) pos.line X.env=pure false:=by rfl)(hf:X.fn x=true\/X.env.scope.names.lookup x=some .local:=by first|exact .inl rfl|exact .inr rfl|assumption):
  PS X (.Assign [.Name x pos'] e pos) (tAsg te (gName i)):=by
 intro pins s σ H D I h
 refine wpAny_Assign_Name (thn (he pins s σ H _ I h) fun v s1 ⟨y,H1,I1,r1,q1⟩=>?_) hs
 exact store_ok I1 hN hi hx r1 (fun s2 I2=>⟨_,H1,I2,q1⟩) hf
end
section
variable {X:Cx} {pos:Pos}
def tWhile (c:TT)(tb:TS):TS:=fun D σ H=>∃W:Nat->St->Hp->Prop,(∃m,W m σ H)/\∀m σ H,W m σ H→
 c σ H fun b H1=>if b=true then ∃N:St->Hp->Prop,(∀σ' H',N σ' H'->∃m',m'<m/\W m' σ' H')/\tb { D with nx:=N,ct:=N,bk:=D.nx } σ H1 else D.nx σ H1
theorem ps_while {c:Expr}{body:List Stmt}{tc:TT}{tb:TS}(hp:PassesOwn (model X.prog X.w) X.A X.env X.xe)(hc:PT X c tc)(hb:PSs X body tb):PS X (.While c body [] pos) (tWhile tc tb):=by
 intro pins s σ H D I h
 obtain⟨W,⟨m0,w0⟩,turn⟩:=h
 refine wpAny_While (codeAny_whileLoop (fun n s'=>∃σ' H',Inv X pins σ' H' s'/\W n σ' H') ?_ m0 ⟨σ,H,I,w0⟩)
 rintro n s1 ⟨σ1,H1,I1,w1⟩
 refine wpAny_passesOwn hp (thn (hc pins s1 σ1 H1 _ I1 (turn n σ1 H1 w1)) fun b s2 ⟨H2,I2,q2⟩=>?_)
 cases b with
 |true=>
  obtain⟨N,hN,q2⟩:=q2
  rw[if_pos rfl]
  refine wpAny_passesOwn hp (thn (hb pins s2 σ1 H2 _ I2 q2) fun f s3 q3=>?_)
  cases f with
  |next=>
   obtain⟨σ3,H3,I3,n3⟩:=q3
   obtain⟨m',hm,w3⟩:=hN σ3 H3 n3
   exact⟨m',hm,σ3,H3,I3,w3⟩
  |cont=>
   obtain⟨σ3,H3,I3,n3⟩:=q3
   obtain⟨m',hm,w3⟩:=hN σ3 H3 n3
   exact⟨m',hm,σ3,H3,I3,w3⟩
  |brk=>exact q3
  |ret v=>exact q3
 |false=>
  rw[if_neg Bool.false_ne_true]
  exact wpAny_execs_nil ⟨σ1,H2,I2,q2⟩
end
structure It where
 go:Nat->Hp->Prop
 yld:Nat->Hp->V->Hp->Prop
 stop:Nat->Hp->Prop
def FpOk (X:Cx)(pins:List (Addr×Obj))(H:Hp)(b:Addr):Prop:=
 H b=none/\b≠X.env.locals/\b∉X.fs/\(b∈X.ex\/X.s₀.heap.objs.size<=b)/\(∀x c,X.env.cells.lookup x=some c->c≠b)/\∀p∈X.pn++pins,p.1≠b
theorem Inv.fpOk {X:Cx}{pins:List (Addr×Obj)}{σ:St}{H H':Hp}{s:Shared}{b:Addr}(I:Inv X pins σ H s)(hb:s.heap.objs.size<=b)(hn:H' b=none):FpOk X pins H' b:=by
 refine⟨hn,Nat.ne_of_gt (Nat.lt_of_lt_of_le I.lt hb),I.nofs hb,.inr (Nat.le_trans I.sz hb),fun x c e z=>?_,fun p hp z=>?_⟩
 ·obtain⟨v,q⟩:=I.cell x c e
  exact absurd (Nat.lt_of_lt_of_le q.lt (by rw[z];exact hb)) (Nat.lt_irrefl _)
 ·exact absurd (Nat.lt_of_lt_of_le (Heap.lt_size (I.pin p hp).1) (by rw[z];exact hb)) (Nat.lt_irrefl _)
structure Turn (P:Program)(w:World)(K:W.Frag)(tg:Expr)(J:It)(fp:List Addr)(it:Addr)(tn:Nat->Heap->Prop):Prop where
 mem:it∈fp
 obj:∀i h,tn i h->∀b∈fp,∃o,h.get? b=some o/\∀v,o.data≠.cell v
 keep:∀i h h',tn i h->(∀b∈fp,∀o,h.get? b=some o->h'.get? b=some o)->tn i h'
 item:∀(X:Cx),X.prog=P->X.w=w->X.K=K->X.calm=true->∀(i:Nat) (pins:List (Addr×Obj)) (s:Shared) (σ:St) (H:Hp) (E:Value->Shared->Prop),Inv X pins σ H s->(∀b∈fp,FpOk X pins H b)->tn i s.heap->J.go i H→
  wpAny (model P w) X.A (pyNext (.ref it)) (fun r s1=>∃u,r=some u∧
   wpAny (model P w) X.A (letOwnedTupleGo tg (.ref it) u) (fun _ s2=>∃x H',Inv X pins σ H' s2/\RelV x u/\J.yld i H x H'/\tn (i+1) s2.heap/\∀b∈fp,H' b=none) E s1) E s
 done:∀(X:Cx),X.prog=P->X.w=w->X.K=K->X.calm=true->∀(i:Nat) (pins:List (Addr×Obj)) (s:Shared) (σ:St) (H:Hp) (E:Value->Shared->Prop),Inv X pins σ H s->(∀b∈fp,FpOk X pins H b)->tn i s.heap->J.stop i H→
  wpAny (model P w) X.A (pyNext (.ref it)) (fun r s1=>r=none/\Inv X pins σ H s1) E s
 self:∀(A:Around) (i:Nat) (s:Shared) (Q:Value->Shared->Prop) (E:Value->Shared->Prop),tn i s.heap->Q (.ref it) s->wpAny (model P w) A (pyIter (.ref it)) Q E s
abbrev TI:=St->Hp->(It->Hp->Prop)->Prop
def PIE (X:Cx)(pins:List (Addr×Obj))(σ:St)(tg:Expr)(R:It->Hp->Prop)(itv:Value)(s2:Shared):Prop:=
 ∃(it:Addr) (fp:List Addr) (tn:Nat->Heap->Prop) (J:It) (H':Hp),itv=.ref it/\Inv X pins σ H' s2/\Turn X.prog X.w X.K tg J fp it tn/\tn 0 s2.heap/\(∀b∈fp,FpOk X pins H' b)/\R J H'
def PI (X:Cx)(tg iter:Expr)(wi:TI):Prop:=
 ∀(pins:List (Addr×Obj)) (s:Shared) (σ:St) (H:Hp) (R:It->Hp->Prop),Inv X pins σ H s->wi σ H R→
  wpAny (model X.prog X.w) X.A (eval iter X.env) (fun v s1=>wpAny (model X.prog X.w) X.A (pyIter v) (PIE X pins σ tg R) X.xe s1) X.xe s
theorem go_of {M:Model}{A:Around}{E:Value->Shared->Prop}{s:Shared}{tg:Expr}{it:Addr}{u:Value}{o:Obj}{n:String}{vs:Array Value}{Q:Unit->Shared->Prop}(ho:s.heap.get? it=some o)(hc:o.cls=.type n)(hd:o.data=.fields vs)
  (hn:["enumerate","zip","dict_itemiterator","dict_reverseitemiterator","odict_iterator","itertools.zip_longest","itertools.pairwise"].contains n=false) (hQ:Q () s):wpAny M A (letOwnedTupleGo tg (.ref it) u) Q E s:=by
 unfold letOwnedTupleGo
 cases tg<;>first
  |exact wpAny_pure hQ
  | (cases u<;>first
      |exact wpAny_pure hQ
      | (refine wpAny_bind (wpAny_load ho ?_)
         rw[hc,hd]
         show wpAny M A (if (["enumerate","zip","dict_itemiterator","dict_reverseitemiterator","odict_iterator","itertools.zip_longest","itertools.pairwise"].contains n&&vs[0]?==some (rawInt _))=true then _ else _) Q E s
         rw[if_neg (by intro h;rw[hn,Bool.false_and] at h;cases h)]
         exact wpAny_pure hQ))
def Itl (K:W.Frag)(a:Addr):It:=
 ⟨fun i H=>∃xs x,SqL K H a xs/\xs[i]?=some x,fun i H x H'=>H'=H/\∀xs,SqL K H a xs->xs[i]?=some x,fun i H=>∃xs,SqL K H a xs/\xs.length<=i⟩
def Itt (K:W.Frag)(a:Addr):It:=
 ⟨fun i H=>∃xs x,SqT K H a xs/\xs[i]?=some x,fun i H x H'=>H'=H/\∀xs,SqT K H a xs->xs[i]?=some x,fun i H=>∃xs,SqT K H a xs/\xs.length<=i⟩
def Itr (lo:Int)(n:Nat):It:=⟨fun i _=>i<n,fun i H x H'=>H'=H/\x=.int (lo+i),fun i _=>n<=i⟩
theorem turn_list {P:Program}{w:World}{K:W.Frag}{tg:Expr}(a it:Addr):Turn P w K tg (Itl K a) [it] it (fun i h=>h.IsListIter it a i) where
 mem:=by simp
 obj:=fun i h st b hb=>by
  have e:b=it:=by simpa using hb
  subst e
  obtain⟨o,e,c,d⟩:=st
  exact⟨o,e,fun v z=>by rw[d] at z;cases z⟩
 keep:=fun i h h' st k=>st.at fun o e=>k it (by simp) o e
 item:=by
  intro X hP hw hK hc i pins s σ H E I hf st hg
  subst hP hw hK
  obtain⟨xs,x,hq,hx⟩:=hg
  obtain⟨its,rv,p,hz⟩:=I.list hq
  obtain⟨u,hu,ru⟩:=rv.get hx
  obtain⟨f0,f1,f2,f3,f4,f5⟩:=hf it (by simp)
  refine wpAny_pyNext_list_item st p.isList (x:=u) (by simpa using hu) fun h' st' sb=>?_
  have I1:Inv X pins σ H { s with heap:=h' }:=I.turned (t':=s.toks) (fun b o hb e=>(sb.2 b hb).trans e) f0 f1 f3 f4 f5
  obtain⟨o,e,c,d⟩:=id st'
  exact⟨u,rfl,go_of (s:={ s with heap:=h' }) e c d (by decide) ⟨x,H,I1,ru,⟨rfl,fun ys hy=>by rw[I.list_inj hy hq];exact hx⟩,st',fun b hb=>(hf b hb).1⟩⟩
 done:=by
  intro X hP hw hK hc i pins s σ H E I hf st hg
  subst hP hw hK
  obtain⟨xs,hq,hx⟩:=hg
  obtain⟨its,rv,p,hz⟩:=I.list hq
  obtain⟨f0,f1,f2,f3,f4,f5⟩:=hf it (by simp)
  have hl:=rv.length
  exact wpAny_pyNext_list_end (I.ok.hd hc) st p.isList (by simp;omega) fun h' eb=>⟨rfl,I.turned (t':=s.toks) (fun b o hb e=>eb b o hb e) f0 f1 f3 f4 f5⟩
 self:=fun _ _ _ _ _ st h=>wpAny_pyIter_listiter st h
theorem turn_tuple {P:Program}{w:World}{K:W.Frag}{tg:Expr}(a it:Addr):Turn P w K tg (Itt K a) [it] it (fun i h=>h.IsTupleIter it a i) where
 mem:=by simp
 obj:=fun i h st b hb=>by
  have e:b=it:=by simpa using hb
  subst e
  obtain⟨o,e,c,d⟩:=st
  exact⟨o,e,fun v z=>by rw[d] at z;cases z⟩
 keep:=fun i h h' st k=>st.at fun o e=>k it (by simp) o e
 item:=by
  intro X hP hw hK hc i pins s σ H E I hf st hg
  subst hP hw hK
  obtain⟨xs,x,hq,hx⟩:=hg
  obtain⟨its,rv,p,hz⟩:=I.tuple hq
  obtain⟨u,hu,ru⟩:=rv.get hx
  obtain⟨f0,f1,f2,f3,f4,f5⟩:=hf it (by simp)
  refine wpAny_pyNext_tuple_item st (show s.heap.IsTuple a its.toArray from p) (x:=u) (by simpa using hu) fun h' st' sb=>?_
  have I1:Inv X pins σ H { s with heap:=h' }:=I.turned (t':=s.toks) (fun b o hb e=>(sb.2 b hb).trans e) f0 f1 f3 f4 f5
  obtain⟨o,e,c,d⟩:=id st'
  exact⟨u,rfl,go_of (s:={ s with heap:=h' }) e c d (by decide) ⟨x,H,I1,ru,⟨rfl,fun ys hy=>by rw[I.tuple_inj hy hq];exact hx⟩,st',fun b hb=>(hf b hb).1⟩⟩
 done:=by
  intro X hP hw hK hc i pins s σ H E I hf st hg
  subst hP hw hK
  obtain⟨xs,hq,hx⟩:=hg
  obtain⟨its,rv,p,hz⟩:=I.tuple hq
  obtain⟨f0,f1,f2,f3,f4,f5⟩:=hf it (by simp)
  have hl:=rv.length
  exact wpAny_pyNext_tuple_end (I.ok.hd hc) st (show s.heap.IsTuple a its.toArray from p) (by simp;omega) fun h' eb=>⟨rfl,I.turned (t':=s.toks) (fun b o hb e=>eb b o hb e) f0 f1 f3 f4 f5⟩
 self:=fun _ _ _ _ _ st h=>wpAny_pyIter_tupleiter st h
theorem turn_range {P:Program}{w:World}{K:W.Frag}{tg:Expr}(it:Addr)(lo:Int)(n:Nat):Turn P w K tg (Itr lo n) [it] it (fun i h=>IsRangeIter h it (lo+(i:Nat)*1) ((n:Int)-(i:Nat)) 1) where
 mem:=by simp
 obj:=fun i h st b hb=>by
  have e:b=it:=by simpa using hb
  subst e
  exact⟨_,st,fun v z=>by
   have z':Data.fields _=Data.cell v:=z
   cases z'⟩
 keep:=fun i h h' st k=>k it (by simp) _ st
 item:=by
  intro X hP hw hK hc i pins s σ H E I hf st hg
  subst hP hw hK
  obtain⟨f0,f1,f2,f3,f4,f5⟩:=hf it (by simp)
  have W:=Walks.range (prog:=X.prog) (w:=X.w) (I.ok.hd hc) it lo 1 n
  refine W.item i s _ _ hg st fun v h' tk hv st' kk=>?_
  obtain⟨t,rfl⟩:=hv
  have I1:Inv X pins σ H { s with heap:=h',toks:=tk }:=I.turned (fun b o hb e=>kk b o (by simpa using hb) e) f0 f1 f3 f4 f5
  refine⟨_,rfl,go_of (s:={ s with heap:=h',toks:=tk }) (n:="range_iterator") st' rfl rfl (by decide) ⟨.int (lo+i),H,I1,⟨t,?_⟩,⟨rfl,rfl⟩,st',fun b hb=>(hf b hb).1⟩⟩
  rw[Int.mul_one]
 done:=by
  intro X hP hw hK hc i pins s σ H E I hf st hg
  subst hP hw hK
  obtain⟨f0,f1,f2,f3,f4,f5⟩:=hf it (by simp)
  exact wpAny_pyNext_range_end (I.ok.hd hc) st (by have:n<=i:=hg;omega) fun h' eb=>⟨rfl,I.turned (t':=s.toks) (fun b o hb e=>eb b o hb e) f0 f1 f3 f4 f5⟩
 self:=fun _ _ _ _ _ st h=>wpAny_pyIter_rangeiter st h
end L2
namespace L2
open PySem PySem.Spec PyProof.Rows
section
variable {X:Cx} {tg:Expr}
def iList (K:W.Frag)(tl:TE):TI:=fun σ H R=>tl σ H fun x H1=>∃a,x=.ref a/\(∃xs,SqL K H1 a xs)/\R (Itl K a) H1
def iTup (K:W.Frag)(tl:TE):TI:=fun σ H R=>tl σ H fun x H1=>∃a,x=.ref a/\(∃xs,SqT K H1 a xs)/\R (Itt K a) H1
theorem pi_list {l:Expr}{tl:TE}(hl:PE X l tl):PI X tg l (iList X.K tl):=by
 intro pins s σ H R I h
 refine thn (hl pins s σ H _ I h) fun v s1 hq9=>?_
 obtain⟨x,H1,I1,r1,q1⟩:=hq9
 obtain⟨a,e,⟨xs,hq⟩,q⟩:=q1
 subst e
 cases r1
 obtain⟨its,rv,p,hz⟩:=I1.list hq
 refine wpAny_pyIter_list p.isList ?_
 refine⟨s1.heap.objs.size,[s1.heap.objs.size],_,_,H1,rfl,I1.kept (t':=s1.toks) fun b o e=>Heap.get?_push_of_some _ e,turn_list a _,⟨_,Heap.get?_push_size _ rfl,rfl,rfl⟩,fun b hb=>?_,q⟩
 have e:b=s1.heap.objs.size:=by simpa using hb
 subst e
 exact I1.fpOk (Nat.le_refl _) (I1.hok.fresh (Nat.le_refl _))
theorem pi_tup {l:Expr}{tl:TE}(hl:PE X l tl):PI X tg l (iTup X.K tl):=by
 intro pins s σ H R I h
 refine thn (hl pins s σ H _ I h) fun v s1 hq9=>?_
 obtain⟨x,H1,I1,r1,q1⟩:=hq9
 obtain⟨a,e,⟨xs,hq⟩,q⟩:=q1
 subst e
 cases r1
 obtain⟨its,rv,p,hz⟩:=I1.tuple hq
 refine wpAny_pyIter_tuple (show s1.heap.IsTuple a its.toArray from p) ?_
 refine⟨s1.heap.objs.size,[s1.heap.objs.size],_,_,H1,rfl,I1.kept (t':=s1.toks) fun b o e=>Heap.get?_push_of_some _ e,turn_tuple a _,⟨_,Heap.get?_push_size _ rfl,rfl,rfl⟩,fun b hb=>?_,q⟩
 have e:b=s1.heap.objs.size:=by simpa using hb
 subst e
 exact I1.fpOk (Nat.le_refl _) (I1.hok.fresh (Nat.le_refl _))
theorem range_it {pins:List (Addr×Obj)}{σ:St}{H:Hp}{s:Shared}{R:It->Hp->Prop}{E:Value->Shared->Prop}{lo hi:Int}{t u v:Tok}{tk:Nat}(I:Inv X pins σ H s)(h1:-(2 ^ 62)<=lo)(h2:lo<2 ^ 62)(h3:-(2 ^ 62)<=hi)(h4:hi<2 ^ 62)
  (q:R (Itr lo (hi-lo).toNat) H):wpAny (model X.prog X.w) X.A (pyIter (.ref s.heap.objs.size)) (PIE X pins σ tg R) E { s with heap:=s.heap.push { cls:=.type "range",data:=.fields #[.int lo t,.int hi u,.int 1 v] },toks:=tk }:=by
 refine wpAny_pyIter_range (IsRange.new ..) (small_one h1 h2 h3 h4) ?_
 have I1:Inv X pins σ H { s with heap:=s.heap.push { cls:=.type "range",data:=.fields #[.int lo t,.int hi u,.int 1 v] },toks:=tk }:=I.kept fun b o e=>Heap.get?_push_of_some _ e
 refine⟨(s.heap.push { cls:=.type "range",data:=.fields #[.int lo t,.int hi u,.int 1 v] }).objs.size,[(s.heap.push { cls:=.type "range",data:=.fields #[.int lo t,.int hi u,.int 1 v] }).objs.size],_,_,H,rfl,
  I1.kept (t':=tk) fun b o e=>Heap.get?_push_of_some _ e,turn_range _ lo (hi-lo).toNat,?_,fun b hb=>?_,q⟩
 ·have e1:lo+((0:Nat):Int)*1=lo:=by simp
  have e2:(((hi-lo).toNat:Nat):Int)-((0:Nat):Int)=Builtin.Range.rangeSize lo hi 1:=by rw[rangeSize_one];split<;>omega
  show IsRangeIter _ _ (lo+((0:Nat):Int)*1) ((((hi-lo).toNat:Nat):Int)-((0:Nat):Int)) 1
  rw[e1,e2]
  exact Heap.get?_push_size _ rfl
 ·have e:b=(s.heap.push { cls:=.type "range",data:=.fields #[.int lo t,.int hi u,.int 1 v] }).objs.size:=by simpa using hb
  subst e
  exact I1.fpOk (Nat.le_refl _) (I1.hok.fresh (Nat.le_refl _))
def iRng1 (ta:TA):TI:=fun σ H R=>ta σ H fun vs H1=>∃j:Int,vs=[.int j]/\-(2 ^ 62)<=j/\j<2 ^ 62/\R (Itr 0 j.toNat) H1
theorem pi_range1 {a:Expr}{ta:TA}{p pos:Pos}(hg:Gl X "range")(hm:X.mg "range"=none)(ha:PA X [a] ta)(hs:starEach [a] X.env=[(false,eval a X.env)]:=by rfl):PI X tg (.Call (.Name "range" p) [a] [] pos) (iRng1 ta):=by
 intro pins s σ H R I h
 refine Call_ (ld_blt I hg hm boot_range (PyProof.Rows.callWith_type1 (thn (ha pos pins s σ H _ I h) fun us s1 ⟨vs,H1,I1,r1,q1⟩=>?_) hs rfl))
 obtain⟨j,e,q1,q2,q⟩:=q1
 subst e
 cases r1 with
 |cons r rr=>
  cases rr
  obtain⟨t,rfl⟩:=r
  exact call_range_1 (range_it I1 (by omega) (by omega) q1 q2 (by simpa using q))
def tFor (wi:TI)(g:TG)(tb:TS):TS:=fun D σ H=>wi σ H fun J H1=>∃W:Nat->Nat->St->Hp->Prop,(∃m,W 0 m σ H1)/\∀i m σ H,W i m σ H→
 (J.stop i H/\D.nx σ H)\/(J.go i H/\∃N:St->Hp->Prop,(∀σ' H',N σ' H'->∃m',m'<m/\W (i+1) m' σ' H')/\∀x H',J.yld i H x H'->g x σ H' fun σ2 H2=>tb { D with nx:=N,ct:=N,bk:=D.nx } σ2 H2)
def pinsAt (fp:List Addr)(h:Heap):List (Addr×Obj):=fp.filterMap fun b=>(h.get? b).map fun o=>(b,o)
theorem mem_pinsAt {fp:List Addr}{h:Heap}{b:Addr}{o:Obj}(hb:b∈fp)(e:h.get? b=some o):(b,o)∈pinsAt fp h:=List.mem_filterMap.mpr ⟨b,hb,by rw[e];rfl⟩
theorem of_pinsAt {fp:List Addr}{h:Heap}{p:Addr×Obj}(hp:p∈pinsAt fp h):p.1∈fp/\h.get? p.1=some p.2:=by
 obtain⟨b,hb,e⟩:=List.mem_filterMap.mp hp
 cases q:h.get? b with
 |none=>rw[q] at e;cases e
 |some o=>
  rw[q] at e
  have e':(b,o)=p:=Option.some.inj e
  subst e'
  exact⟨hb,q⟩
theorem Inv.pinned {pins:List (Addr×Obj)}{σ:St}{H:Hp}{s:Shared}{fp:List Addr}(I:Inv X pins σ H s)(hf:∀b∈fp,FpOk X pins H b)(ho:∀b∈fp,∃o,s.heap.get? b=some o/\∀v,o.data≠.cell v):Inv X (pins++pinsAt fp s.heap) σ H s:=
 I.pins_of fun p hp=>(List.mem_append.mp hp).elim (fun z=>I.pin p (List.mem_append_right _ z)) fun z=>by
  obtain⟨hb,e⟩:=of_pinsAt z
  obtain⟨f0,f1,f2,_⟩:=hf p.1 hb
  obtain⟨o,e',d⟩:=ho p.1 hb
  rw[e] at e';cases e'
  exact⟨e,f0,f1,f2,d⟩
theorem Inv.unpinned {pins pl:List (Addr×Obj)}{σ:St}{H:Hp}{s:Shared}(I:Inv X (pins++pl) σ H s):Inv X pins σ H s:=I.pins_of fun p hp=>I.pin p (List.mem_append_right _ (List.mem_append_left _ hp))
theorem ps_for {iter:Expr}{body:List Stmt}{wi:TI}{g:TG}{tb:TS}{pos:Pos}(hp:PassesOwn (model X.prog X.w) X.A X.env X.xe)(hc:X.calm=true)(hi:PI X tg iter wi)(hg:PG X tg g)(hb:PSs X body tb)
  (hs:∀x,foldedSetIterable iter X.env x=pure x:=by intro _;rfl):PS X (.For tg iter body [] pos) (tFor wi g tb):=by
 intro pins s σ H D I h
 refine wpAny_For (thn (hi pins s σ H _ I h) fun v s1 h1=>thn h1 fun itv s2 h2=>?_) hs
 obtain⟨it,fp,tn,J,H2,e,I2,T,st2,f2,W,⟨m0,w0⟩,turn⟩:=h2
 subst e
 have stat:∀{H':Hp},(∀b∈fp,H' b=none)->∀b∈fp,FpOk X pins H' b:=fun hn b hb=>⟨hn b hb,(f2 b hb).2⟩
 refine codeAny_forLoop_any (fun n s'=>∃i σ' H',Inv X pins σ' H' s'/\tn i s'.heap/\(∀b∈fp,H' b=none)/\W i n σ' H') ?_ m0 ⟨0,σ,H2,I2,st2,fun b hb=>(f2 b hb).1,w0⟩
 rintro n s3 ⟨i,σ3,H3,I3,st3,fr3,w3⟩
 rcases turn i n σ3 H3 w3 with⟨stop,qn⟩|⟨go,N,hN,step⟩
 ·refine wpAny_passesOwn hp (thn (T.done X rfl rfl rfl hc i pins s3 σ3 H3 X.xe I3 (stat fr3) st3 stop) fun r s4 ⟨hr,I4⟩=>?_)
  subst hr
  exact wpAny_execs_nil ⟨σ3,H3,I4,qn⟩
 ·refine wpAny_passesOwn hp (thn (T.item X rfl rfl rfl hc i pins s3 σ3 H3 X.xe I3 (stat fr3) st3 go) fun r s4 ⟨u,hr,h4⟩=>?_)
  subst hr
  refine wpAny_passesOwn hp (thn h4 fun _ s5 ⟨x,H5,I5,r5,y5,st5,fr5⟩=>?_)
  have I5':=I5.pinned (stat fr5) (T.obj _ _ st5)
  refine wpAny_passesOwn hp (thn (hg _ s5 σ3 H5 x u _ I5' r5 (step x H5 y5)) fun _ s6 ⟨σ6,H6,I6,q6⟩=>?_)
  refine wpAny_passesOwn hp (thn (hb _ s6 σ6 H6 _ I6 q6) fun f s7 q7=>?_)
  have again:∀{σ7:St} {H7:Hp},Inv X (pins++pinsAt fp s5.heap) σ7 H7 s7->N σ7 H7->∃m,m<n/\∃i σ' H',Inv X pins σ' H' s7/\tn i s7.heap/\(∀b∈fp,H' b=none)/\W i m σ' H':=fun {σ7 H7} I7 n7=>by
   obtain⟨m',hm,w7⟩:=hN σ7 H7 n7
   refine⟨m',hm,i+1,σ7,H7,I7.unpinned,T.keep _ _ _ st5 fun b hb o e=>(I7.pin (b,o) (List.mem_append_right _ (List.mem_append_right _ (mem_pinsAt hb e)))).1,fun b hb=>?_,w7⟩
   obtain⟨o,e,d⟩:=T.obj _ _ st5 b hb
   exact(I7.pin (b,o) (List.mem_append_right _ (List.mem_append_right _ (mem_pinsAt hb e)))).2.1
  cases f with
  |next=>obtain⟨σ7,H7,I7,n7⟩:=q7;exact again I7 n7
  |cont=>obtain⟨σ7,H7,I7,n7⟩:=q7;exact again I7 n7
  |brk=>obtain⟨σ7,H7,I7,q7⟩:=q7;exact⟨σ7,H7,I7.unpinned,q7⟩
  |ret v=>obtain⟨x7,σ7,H7,I7,r7,q7⟩:=q7;exact⟨x7,σ7,H7,I7.unpinned,r7,q7⟩
end
theorem for_list {K:W.Frag}{a:Addr}{xs:List V}{g:TG}{tb:TS}{D:Ends}{σ:St}{H:Hp}(Pv:Nat->St->Hp->Prop)(h0:Pv 0 σ H)(hl:∀i σ H,i<=xs.length->Pv i σ H->SqL K H a xs)
  (hs:∀i x σ H,xs[i]?=some x->Pv i σ H->g x σ H fun σ2 H2=>tb { D with nx:=Pv (i+1),ct:=Pv (i+1),bk:=D.nx } σ2 H2) (hd:∀σ H,Pv xs.length σ H->D.nx σ H):
  ∃W:Nat->Nat->St->Hp->Prop,(∃m,W 0 m σ H)/\∀i m σ H,W i m σ H→
   ((Itl K a).stop i H/\D.nx σ H)\/((Itl K a).go i H/\∃N:St->Hp->Prop,(∀σ' H',N σ' H'->∃m',m'<m/\W (i+1) m' σ' H')/\∀x H',(Itl K a).yld i H x H'->g x σ H' fun σ2 H2=>tb { D with nx:=N,ct:=N,bk:=D.nx } σ2 H2):=by
 refine⟨fun i m σ H=>m=xs.length-i/\i<=xs.length/\Pv i σ H,⟨xs.length,by simp,Nat.zero_le _,h0⟩,?_⟩
 rintro i m σ H ⟨rfl,hi,p⟩
 have q:=hl i σ H hi p
 by_cases hlt:i<xs.length
 ·refine .inr ⟨⟨xs,xs[i],q,by simp[hlt]⟩,Pv (i+1),fun σ' H' p'=>⟨xs.length-(i+1),by omega,rfl,hlt,p'⟩,fun x H' y=>?_⟩
  obtain⟨e,y⟩:=y
  subst e
  exact hs i x σ _ (y xs q) p
 ·have e:i=xs.length:=by omega
  subst e
  exact .inl ⟨⟨xs,q,Nat.le_refl _⟩,hd σ H p⟩
theorem for_tup {K:W.Frag}{a:Addr}{xs:List V}{g:TG}{tb:TS}{D:Ends}{σ:St}{H:Hp}(Pv:Nat->St->Hp->Prop)(h0:Pv 0 σ H)(hl:∀i σ H,i<=xs.length->Pv i σ H->SqT K H a xs)
  (hs:∀i x σ H,xs[i]?=some x->Pv i σ H->g x σ H fun σ2 H2=>tb { D with nx:=Pv (i+1),ct:=Pv (i+1),bk:=D.nx } σ2 H2) (hd:∀σ H,Pv xs.length σ H->D.nx σ H):
  ∃W:Nat->Nat->St->Hp->Prop,(∃m,W 0 m σ H)/\∀i m σ H,W i m σ H→
   ((Itt K a).stop i H/\D.nx σ H)\/((Itt K a).go i H/\∃N:St->Hp->Prop,(∀σ' H',N σ' H'->∃m',m'<m/\W (i+1) m' σ' H')/\∀x H',(Itt K a).yld i H x H'->g x σ H' fun σ2 H2=>tb { D with nx:=N,ct:=N,bk:=D.nx } σ2 H2):=by
 refine⟨fun i m σ H=>m=xs.length-i/\i<=xs.length/\Pv i σ H,⟨xs.length,by simp,Nat.zero_le _,h0⟩,?_⟩
 rintro i m σ H ⟨rfl,hi,p⟩
 have q:=hl i σ H hi p
 by_cases hlt:i<xs.length
 ·refine .inr ⟨⟨xs,xs[i],q,by simp[hlt]⟩,Pv (i+1),fun σ' H' p'=>⟨xs.length-(i+1),by omega,rfl,hlt,p'⟩,fun x H' y=>?_⟩
  obtain⟨e,y⟩:=y
  subst e
  exact hs i x σ _ (y xs q) p
 ·have e:i=xs.length:=by omega
  subst e
  exact .inl ⟨⟨xs,q,Nat.le_refl _⟩,hd σ H p⟩
theorem for_range {lo:Int}{n:Nat}{g:TG}{tb:TS}{D:Ends}{σ:St}{H:Hp}(Pv:Nat->St->Hp->Prop)(h0:Pv 0 σ H)
  (hs:∀i σ H,i<n->Pv i σ H->g (.int (lo+i)) σ H fun σ2 H2=>tb { D with nx:=Pv (i+1),ct:=Pv (i+1),bk:=D.nx } σ2 H2) (hd:∀σ H,Pv n σ H->D.nx σ H):
  ∃W:Nat->Nat->St->Hp->Prop,(∃m,W 0 m σ H)/\∀i m σ H,W i m σ H→
   ((Itr lo n).stop i H/\D.nx σ H)\/((Itr lo n).go i H/\∃N:St->Hp->Prop,(∀σ' H',N σ' H'->∃m',m'<m/\W (i+1) m' σ' H')/\∀x H',(Itr lo n).yld i H x H'->g x σ H' fun σ2 H2=>tb { D with nx:=N,ct:=N,bk:=D.nx } σ2 H2):=by
 refine⟨fun i m σ H=>m=n-i/\i<=n/\Pv i σ H,⟨n,by simp,Nat.zero_le _,h0⟩,?_⟩
 rintro i m σ H ⟨rfl,hi,p⟩
 by_cases hlt:i<n
 ·refine .inr ⟨hlt,Pv (i+1),fun σ' H' p'=>⟨n-(i+1),by omega,rfl,hlt,p'⟩,fun x H' y=>?_⟩
  obtain⟨e,y⟩:=y
  subst e y
  exact hs i σ _ hlt p
 ·have e:i=n:=by omega
  subst e
  exact .inl ⟨Nat.le_refl _,hd σ H p⟩
end L2
namespace L2
open PySem PySem.Spec PyProof.Rows
abbrev R2:=V->V->Hp->VK->Prop
def OpR (X:Cx)(f:Value->Value->Sem Value)(r:R2):Prop:=
 ∀(pins:List (Addr×Obj)) (s:Shared) (σ:St) (H:Hp) (x y:V) (v u:Value) (Q:VK),Inv X pins σ H s->RelV x v->RelV y u->r x y H Q→
  wpAny (model X.prog X.w) X.A (f v u) (EP X pins σ Q) X.xe s
def UnR (X:Cx)(f:Value->Sem Value)(r:V->Hp->VK->Prop):Prop:=
 ∀(pins:List (Addr×Obj)) (s:Shared) (σ:St) (H:Hp) (x:V) (v:Value) (Q:VK),Inv X pins σ H s->RelV x v->r x H Q→
  wpAny (model X.prog X.w) X.A (f v) (EP X pins σ Q) X.xe s
def CallR (X:Cx)(f:Value)(r:List V->Hp->VK->Prop):Prop:=
 ∀(pins:List (Addr×Obj)) (s:Shared) (σ:St) (H:Hp) (xs:List V) (us:List Value) (Q:VK),Inv X pins σ H s->Vals xs us->r xs H Q→
  wpAny (model X.prog X.w) X.A (call f us) (EP X pins σ Q) X.xe s
def tOp (r:R2)(ta tb:TE):TE:=fun σ H Q=>ta σ H fun x H1=>tb σ H1 fun y H2=>r x y H2 Q
def tUn (r:V->Hp->VK->Prop)(ta:TE):TE:=fun σ H Q=>ta σ H fun x H1=>r x H1 Q
def rI (C:Int->Int->Prop)(g:Int->Int->V):R2:=fun x y H Q=>∃i j,x=.int i/\y=.int j/\C i j/\Q (g i j) H
def rI0 (g:Int->Int->V):R2:=fun x y H Q=>∃i j,x=.int i/\y=.int j/\Q (g i j) H
def rU (g:Int->V):V->Hp->VK->Prop:=fun x H Q=>∃i,x=.int i/\Q (g i) H
section
variable {X:Cx} {a b c:Expr} {ta tb tc:TE} {pos:Pos}
theorem binT (ha:PE X a ta)(hb:PE X b tb){pins:List (Addr×Obj)}{s:Shared}{σ:St}{H:Hp}{R:V->V->Hp->Prop}(I:Inv X pins σ H s)
  (h:ta σ H fun x H1=>tb σ H1 fun y H2=>R x y H2) {Q:Value->Shared->Prop} {f:Value->Value->Sem Value}
  (hf:∀v u s2 x y H2,Inv X pins σ H2 s2->RelV x v->RelV y u->R x y H2->wpAny (model X.prog X.w) X.A (f v u) Q X.xe s2):
  wpAny (model X.prog X.w) X.A (eval a X.env) (fun v s₁=>wpAny (model X.prog X.w) X.A (eval b X.env) (fun u s₂=>wpAny (model X.prog X.w) X.A (f v u) Q X.xe s₂) X.xe s₁) X.xe s:=by
 refine thn (ha pins s σ H _ I h) fun v s1 hq9=>?_
 obtain⟨x,H1,I1,r1,q1⟩:=hq9
 refine thn (hb pins s1 σ H1 _ I1 q1) fun u s2 hq9=>?_
 obtain⟨y,H2,I2,r2,q2⟩:=hq9
 exact hf v u s2 x y H2 I2 r1 r2 q2
theorem pe_op {op:Operator}{r:R2}(ho:OpR X (binaryOp op) r)(ha:PE X a ta)(hb:PE X b tb):PE X (.BinOp a op b pos) (tOp r ta tb):=by
 intro pins s σ H Q I h
 exact wpAny_BinOp (binT ha hb I h fun v u s2 x y H2 I2 rx ry q=>ho pins s2 σ H2 x y v u Q I2 rx ry q)
theorem pe_un {op:UnaryOp}{r:V->Hp->VK->Prop}(ho:UnR X (unaryOp op) r)(ha:PE X a ta):PE X (.UnaryOp op a pos) (tUn r ta):=by
 intro pins s σ H Q I h
 exact UnaryOp_ (thn (ha pins s σ H _ I h) fun v s1 ⟨x,H1,I1,r1,q1⟩=>ho pins s1 σ H1 x v Q I1 r1 q1)
theorem opI {f:Value->Value->Sem Value}{C:Int->Int->Prop}{g:Int->Int->Int}
  (rule:∀(i j:Int) (t u:Tok) (s:Shared) (Q:Value->Shared->Prop) (E:Value->Shared->Prop),C i j->Q (.int (g i j) s.toks) { s with toks:=s.toks+1 }->wpAny (model X.prog X.w) X.A (f (.int i t) (.int j u)) Q E s):
  OpR X f (rI C fun i j=>.int (g i j)):=by
 intro pins s σ H x y v u Q I rx ry h
 obtain⟨i,j,rfl,rfl,hc,q⟩:=h
 obtain⟨t,rfl⟩:=rx
 obtain⟨t',rfl⟩:=ry
 exact rule i j t t' s _ _ hc ⟨.int (g i j),H,I.tok _,⟨_,rfl⟩,q⟩
theorem opI0 {f:Value->Value->Sem Value}{g:Int->Int->Int}
  (rule:∀(i j:Int) (t u:Tok) (s:Shared) (Q:Value->Shared->Prop) (E:Value->Shared->Prop),Q (.int (g i j) s.toks) { s with toks:=s.toks+1 }->wpAny (model X.prog X.w) X.A (f (.int i t) (.int j u)) Q E s):
  OpR X f (rI0 fun i j=>.int (g i j)):=by
 intro pins s σ H x y v u Q I rx ry h
 obtain⟨i,j,rfl,rfl,q⟩:=h
 obtain⟨t,rfl⟩:=rx
 obtain⟨t',rfl⟩:=ry
 exact rule i j t t' s _ _ ⟨.int (g i j),H,I.tok _,⟨_,rfl⟩,q⟩
theorem opB0 {f:Value->Value->Sem Value}{g:Int->Int->Bool}
  (rule:∀(i j:Int) (t u:Tok) (s:Shared) (Q:Value->Shared->Prop) (E:Value->Shared->Prop),Q (.bool (g i j)) s->wpAny (model X.prog X.w) X.A (f (.int i t) (.int j u)) Q E s):
  OpR X f (rI0 fun i j=>.bl (g i j)):=by
 intro pins s σ H x y v u Q I rx ry h
 obtain⟨i,j,rfl,rfl,q⟩:=h
 obtain⟨t,rfl⟩:=rx
 obtain⟨t',rfl⟩:=ry
 exact rule i j t t' s _ _ ⟨.bl (g i j),H,I,rfl,q⟩
def CDiv (i j:Int):Prop:=0<j/\j<1073741824
def CMul (i j:Int):Prop:=(-(2 ^ 64)<i/\i<2 ^ 64)\/(-(2 ^ 64)<j/\j<2 ^ 64)
theorem CMul.ok {i j:Int}(h:CMul i j):IntMulOk i j:=by
 rcases h with⟨h1,h2⟩|⟨h1,h2⟩
 ·exact .of_left (intBits_le_64 h1 h2)
 ·exact .of_right (intBits_le_64 h1 h2)
theorem op_add:OpR X (binaryOp .Add) (rI0 fun i j=>.int (i+j)):=opI0 fun _ _ _ _ _ _ _ q=>add_int q
theorem op_sub:OpR X (binaryOp .Sub) (rI0 fun i j=>.int (i-j)):=opI0 fun _ _ _ _ _ _ _ q=>sub_int q
theorem op_mul:OpR X (binaryOp .Mult) (rI CMul fun i j=>.int (i*j)):=opI fun _ _ _ _ _ _ _ hc q=>mul_int q hc.ok
theorem op_fdiv:OpR X (binaryOp .FloorDiv) (rI CDiv fun i j=>.int (i / j)):=opI fun i j _ _ _ _ _ hc q=>by
 have h1:(0:Int)<j:=hc.1
 have h2:j<1073741824:=hc.2
 exact floordiv_int (by omega) (by rw[Int.fdiv_eq_ediv_of_nonneg i (by omega)];exact q) (.inl (PyProof.noPylong_small (by omega)))
theorem op_mod:OpR X (binaryOp .Mod) (rI (fun _ j=>0<j) fun i j=>.int (i%j)):=opI fun i j _ _ _ _ _ hc q=>by
 have h1:(0:Int)<j:=hc
 exact mod_int' (by omega) (by rw[Int.fmod_eq_emod_of_nonneg i (by omega)];exact q)
theorem unI {f:Value->Sem Value}{g:Int->Int}
  (rule:∀(i:Int) (t:Tok) (s:Shared) (Q:Value->Shared->Prop) (E:Value->Shared->Prop),Q (.int (g i) s.toks) { s with toks:=s.toks+1 }->wpAny (model X.prog X.w) X.A (f (.int i t)) Q E s):
  UnR X f (rU fun i=>.int (g i)):=by
 intro pins s σ H x v Q I rx h
 obtain⟨i,rfl,q⟩:=h
 obtain⟨t,rfl⟩:=rx
 exact rule i t s _ _ ⟨.int (g i),H,I.tok _,⟨_,rfl⟩,q⟩
theorem un_neg:UnR X (unaryOp .USub) (rU fun i=>.int (-i)):=unI fun _ _ _ _ _ q=>neg_int q
end
def scal:V->V->Bool
 |.non,.non=>true | .non,.int _=>true | .int _,.non=>true | .non,.bl _=>true | .bl _,.non=>true | .non,.str _=>true | .str _,.non=>true
 |.int _,.int _=>true | .bl _,.bl _=>true | .str _,.str _=>true | .byt _,.byt _=>true
 |.int _,.str _=>true | .str _,.int _=>true | .bl _,.str _=>true | .str _,.bl _=>true
 |_,_=>false
def rEq:R2:=fun x y H Q=>scal x y=true/\Q (.bl (decide (x=y))) H
def rNe:R2:=fun x y H Q=>scal x y=true/\Q (.bl (!decide (x=y))) H
theorem dec_int {i j:Int}:decide (V.int i=V.int j)=(i==j):=by
 rw[Bool.eq_iff_iff]
 simp
theorem dec_bl {i j:Bool}:decide (V.bl i=V.bl j)=(i==j):=by
 rw[Bool.eq_iff_iff]
 simp
theorem dec_str {i j:Str}:decide (V.str i=V.str j)=(i==j):=by
 rw[Bool.eq_iff_iff]
 simp
theorem dec_byt {i j:Array UInt8}:decide (V.byt i=V.byt j)=(i.toList==j.toList):=by
 rw[Bool.eq_iff_iff]
 cases i
 cases j
 simp
section
variable {X:Cx} {a b c:Expr} {ta tb tc:TE} {pos:Pos}
theorem fin_bl {pins:List (Addr×Obj)}{σ:St}{H:Hp}{s:Shared}{Q:VK}{k k':Bool}(I:Inv X pins σ H s)(q:Q (.bl k) H)(e:k=k'):EP X pins σ Q (.bool k') s:=by
 subst e
 exact⟨.bl k,H,I,rfl,q⟩
theorem op_eq:OpR X (compareOp .Eq) rEq:=by
 intro pins s σ H x y v u Q I rx ry h
 obtain⟨hs,q⟩:=h
 cases x with
 |non=>
  cases rx
  cases y with
  |non=>cases ry;exact PySem.EqNone.eq_none_none (fin_bl I q (by simp))
  |bl j=>cases ry;exact PySem.EqNone.eq_none_bool (fin_bl I q (by simp))
  |int j=>obtain⟨t',rfl⟩:=ry;exact PySem.EqNone.eq_none_int (fin_bl I q (by simp))
  |str j=>obtain⟨t',rfl⟩:=ry;exact PySem.EqNone.eq_none_str (fin_bl I q (by simp))
  |_=>exact absurd (show false=true from hs) Bool.false_ne_true
 |bl i=>
  cases rx
  cases y with
  |non=>cases ry;exact PySem.EqNone.eq_bool_none (fin_bl I q (by simp))
  |bl j=>cases ry;exact eq_bool (fin_bl I q dec_bl)
  |str j=>obtain⟨t',rfl⟩:=ry;exact PySem.EqMixed.eq_bool_str (fin_bl I q (by simp))
  |_=>exact absurd (show false=true from hs) Bool.false_ne_true
 |int i=>
  obtain⟨t,rfl⟩:=rx
  cases y with
  |non=>cases ry;exact PySem.EqNone.eq_int_none (fin_bl I q (by simp))
  |int j=>obtain⟨t',rfl⟩:=ry;exact eq_int (fin_bl I q dec_int)
  |str j=>obtain⟨t',rfl⟩:=ry;exact PySem.EqMixed.eq_int_str (fin_bl I q (by simp))
  |_=>exact absurd (show false=true from hs) Bool.false_ne_true
 |str i=>
  obtain⟨t,rfl⟩:=rx
  cases y with
  |non=>cases ry;exact PySem.EqNone.eq_str_none (fin_bl I q (by simp))
  |bl j=>cases ry;exact PySem.EqMixed.eq_str_bool (fin_bl I q (by simp))
  |int j=>obtain⟨t',rfl⟩:=ry;exact PySem.EqMixed.eq_str_int (fin_bl I q (by simp))
  |str j=>obtain⟨t',rfl⟩:=ry;exact eq_str (fin_bl I q dec_str)
  |_=>exact absurd (show false=true from hs) Bool.false_ne_true
 |byt i=>
  obtain⟨t,rfl⟩:=rx
  cases y with
  |byt j=>obtain⟨t',rfl⟩:=ry;exact W.eq_bytes (fin_bl I q dec_byt)
  |_=>exact absurd (show false=true from hs) Bool.false_ne_true
 |_=>cases y<;>exact absurd (show false=true from hs) Bool.false_ne_true
theorem op_ne:OpR X (compareOp .NotEq) rNe:=by
 intro pins s σ H x y v u Q I rx ry h
 obtain⟨hs,q⟩:=h
 cases x with
 |non=>
  cases rx
  cases y with
  |non=>cases ry;exact PySem.EqNone.ne_none_none (fin_bl I q (by simp))
  |bl j=>cases ry;exact PySem.EqNone.ne_none_bool (fin_bl I q (by simp))
  |int j=>obtain⟨t',rfl⟩:=ry;exact PySem.EqNone.ne_none_int (fin_bl I q (by simp))
  |str j=>obtain⟨t',rfl⟩:=ry;exact PySem.EqNone.ne_none_str (fin_bl I q (by simp))
  |_=>exact absurd (show false=true from hs) Bool.false_ne_true
 |bl i=>
  cases rx
  cases y with
  |non=>cases ry;exact PySem.EqNone.ne_bool_none (fin_bl I q (by simp))
  |bl j=>cases ry;exact ne_bool (fin_bl I q (congrArg not dec_bl))
  |str j=>obtain⟨t',rfl⟩:=ry;exact PySem.EqMixed.ne_bool_str (fin_bl I q (by simp))
  |_=>exact absurd (show false=true from hs) Bool.false_ne_true
 |int i=>
  obtain⟨t,rfl⟩:=rx
  cases y with
  |non=>cases ry;exact PySem.EqNone.ne_int_none (fin_bl I q (by simp))
  |int j=>obtain⟨t',rfl⟩:=ry;exact ne_int (fin_bl I q (congrArg not dec_int))
  |str j=>obtain⟨t',rfl⟩:=ry;exact PySem.EqMixed.ne_int_str (fin_bl I q (by simp))
  |_=>exact absurd (show false=true from hs) Bool.false_ne_true
 |str i=>
  obtain⟨t,rfl⟩:=rx
  cases y with
  |non=>cases ry;exact PySem.EqNone.ne_str_none (fin_bl I q (by simp))
  |bl j=>cases ry;exact PySem.EqMixed.ne_str_bool (fin_bl I q (by simp))
  |int j=>obtain⟨t',rfl⟩:=ry;exact PySem.EqMixed.ne_str_int (fin_bl I q (by simp))
  |str j=>obtain⟨t',rfl⟩:=ry;exact ne_str (fin_bl I q (congrArg not dec_str))
  |_=>exact absurd (show false=true from hs) Bool.false_ne_true
 |byt i=>
  obtain⟨t,rfl⟩:=rx
  cases y with
  |byt j=>obtain⟨t',rfl⟩:=ry;exact W.ne_bytes (fin_bl I q (congrArg not dec_byt))
  |_=>exact absurd (show false=true from hs) Bool.false_ne_true
 |_=>cases y<;>exact absurd (show false=true from hs) Bool.false_ne_true
theorem op_lt:OpR X (compareOp .Lt) (rI0 fun i j=>.bl (decide (i<j))):=opB0 fun _ _ _ _ _ _ _ q=>lt_int q
theorem op_le:OpR X (compareOp .LtE) (rI0 fun i j=>.bl (decide (i<=j))):=opB0 fun _ _ _ _ _ _ _ q=>le_int q
theorem op_gt:OpR X (compareOp .Gt) (rI0 fun i j=>.bl (decide (j<i))):=opB0 fun _ _ _ _ _ _ _ q=>gt_int q
theorem op_ge:OpR X (compareOp .GtE) (rI0 fun i j=>.bl (decide (j<=i))):=opB0 fun _ _ _ _ _ _ _ q=>ge_int q
theorem op_isN:OpR X (compareOp .Is) (fun x y H Q=>y=.non/\Q (.bl (decide (x=.non))) H):=by
 intro pins s σ H x y v u Q I rx ry h
 obtain⟨rfl,q⟩:=h
 cases ry
 refine is_none_gen (fin_bl I q ?_)
 cases x<;>first
  | (cases rx;rfl)
  | (obtain⟨t,rfl⟩:=rx;rfl)
theorem op_notN:OpR X (compareOp .IsNot) (fun x y H Q=>y=.non/\Q (.bl (!decide (x=.non))) H):=by
 intro pins s σ H x y v u Q I rx ry h
 obtain⟨rfl,q⟩:=h
 cases ry
 refine isnot_none_gen (fin_bl I q ?_)
 cases x<;>first
  | (cases rx;rfl)
  | (obtain⟨t,rfl⟩:=rx;rfl)
theorem nomark (b:Expr){op:CmpOp}(h:op≠.In:=by decide)(h2:op≠.NotIn:=by decide):behindInMarks op b=false:=by
 have e1:(op==CmpOp.In)=false:=by cases op<;>first|rfl|exact absurd rfl h
 have e2:(op==CmpOp.NotIn)=false:=by cases op<;>first|rfl|exact absurd rfl h2
 cases b<;>simp[behindInMarks,e1,e2]
theorem pe_cmpR {op:CmpOp}{r:R2}(ho:OpR X (compareOp op) r)(ha:PE X a ta)(hb:PE X b tb)(hm:behindInMarks op b=false):PE X (.Compare a [op] [b] pos) (tOp r ta tb):=by
 intro pins s σ H Q I h
 exact wpAny_Compare1 (binT ha hb I h fun v u s2 x y H2 I2 rx ry q=>ho pins s2 σ H2 x y v u Q I2 rx ry q) hm
def tTest (t:TE):TT:=fun σ H Q=>t σ H fun x H'=>∃k,x=.bl k/\Q k H'
theorem pt_cmpR {op:CmpOp}{r:R2}(ho:OpR X (compareOp op) r)(ha:PE X a ta)(hb:PE X b tb)(hm:behindInMarks op b=false):PT X (.Compare a [op] [b] pos) (tTest (tOp r ta tb)):=by
 intro pins s σ H Q I h
 refine wpAny_isTrue_Compare1 (thn (ha pins s σ H _ I h) fun v s1 ⟨x,H1,I1,r1,q1⟩=>thn (hb pins s1 σ H1 _ I1 q1) fun u s2 ⟨y,H2,I2,r2,q2⟩=>
  thn (ho pins s2 σ H2 x y v u _ I2 r1 r2 q2) fun c s3 ⟨z,H3,I3,r3,k,e,q3⟩=>?_) hm
 subst e
 cases r3
 exact wpAny_truthy_bool ⟨H3,I3,q3⟩
theorem line63:(sizeLine:Nat)<2 ^ 63:=by rw[sizeLine_eq];decide
theorem vals1 {x:V}{us:List Value}(r:Vals [x] us):∃u,us=[u]/\RelV x u:=by
 cases r with
 |cons r1 r2=>cases r2;exact⟨_,rfl,r1⟩
theorem vals2 {x y:V}{us:List Value}(r:Vals [x,y] us):∃u w',us=[u,w']/\RelV x u/\RelV y w':=by
 cases r with
 |cons r1 r2=>
  cases r2 with
  |cons r3 r4=>cases r4;exact⟨_,_,rfl,r1,r3⟩
theorem call_int1:CallR X (.type "int") (fun xs H Q=>(∃i,xs=[.int i]/\Q (.int i) H)\/∃k,xs=[.bl k]/\Q (.int (if k then 1 else 0)) H):=by
 intro pins s σ H xs us Q I r h
 rcases h with⟨i,rfl,q⟩|⟨k,rfl,q⟩
 ·obtain⟨u,rfl,t,rfl⟩:=vals1 r
  exact call_int_int ⟨.int i,H,I,⟨_,rfl⟩,q⟩
 ·obtain⟨u,rfl,r1⟩:=vals1 r
  cases r1
  exact call_int_bool ⟨.int (if k then 1 else 0),H,I.tok _,⟨_,rfl⟩,q⟩
end
end L2
namespace L2
open PySem PySem.Spec PyProof.Rows
structure ObjM (h:Heap)(x dx C:Addr)(mA:Str->Option Value):Prop where
 obj:h.get? x=some (W.instObj C dx)
 ns:h.Ns1 dx mA
 ne:dx≠x
theorem lookIn_ns {h:Heap}{dx:Addr}{mA:Str->Option Value}(n:h.Ns1 dx mA):∃od,h.get? dx=some od/\∀name,W.lookIn name od=some (mA name):=by
 obtain⟨o,es,ep,ho,hd,hk,_,hm⟩:=n
 refine⟨o,ho,fun name=>?_⟩
 have e:=hm name
 unfold nsFind findBy at e
 rw[<- Array.find?_toList] at e
 unfold W.lookIn
 rw[hd]
 dsimp only
 split
 ·rename_i y q
  rw[q] at e
  exact congrArg some e
 ·rename_i q
  rw[q] at e
  have a:es.toList.any (·.refKey)=false:=by
   rw[List.any_eq_false]
   intro y hy
   obtain⟨z,t,hkey⟩:=hk y (Array.mem_toList_iff.mp hy)
   simp[DictEntry.refKey,hkey]
  have a':¬es.toList.any (·.refKey)=true:=by rw[a];exact Bool.false_ne_true
  rw[if_neg a']
  exact congrArg some e
theorem ObjM.look {h:Heap}{x dx C:Addr}{mA:Str->Option Value}(I:ObjM h x dx C mA):∃od,W.InstAt h x (W.instObj C dx) C (some od)/\∀name,W.lookIn name od=some (mA name):=
 let ⟨od,ho,hl⟩:=lookIn_ns I.ns
 ⟨od,⟨I.obj,rfl,rfl,ho⟩,hl⟩
section
variable {prog:Program} {w:World} {A:Around} {E:Value->Shared->Prop} {s:Shared} {K:W.Frag} {x dx C f:Addr} {mA:Str->Option Value} {name:Str} {v:Value}
theorem get_map {expr:Bool}{Q:Value->Shared->Prop}(X:K.In s.heap)(I:ObjM s.heap x dx C mA)(hg:W.plainGet K C name=true)(hh:W.hasDictIn K C=true)
  (ha:W.findIn K (.ref C) name=some none) (hv:mA name=some v) (hv':W.handedIn v=true) (h:Q v { s with toks:=s.toks+1 }):
  wpAny (model prog w) A (getAttr (.ref x) name expr) Q E s:=by
 obtain⟨od,J,hl⟩:=I.look
 exact W.get_value X J (W.plainGet_of hg).1 (W.findObj_own hh ha rfl (by rw[hl,hv])) hv' h
theorem get_meth {pl:Sem Bool}{Q:Value×List Value->Shared->Prop}(X:K.In s.heap)(I:ObjM s.heap x dx C mA)(hg:W.plainGet K C name=true)
  (hf:W.findIn K (.ref C) name=some (some (.ref f))) (ht:W.isFn K (.ref f)=true) (hv:mA name=none) (h:Q (.ref f,[.ref x]) s):
  wpAny (model prog w) A (getMethod (.ref x) name pl) Q E s:=by
 obtain⟨od,J,hl⟩:=I.look
 exact W.method_fn X J (W.plainGet_of hg).1 (W.plainGet_of hg).2 hf (beq_iff_eq.mp ht) (by show(W.lookIn name od).map (·.isSome)=some false;rw[hl,hv];rfl) h
theorem set_map {ns:List Str}{Q:Unit->Shared->Prop}(X:K.In s.heap)(I:ObjM s.heap x dx C mA)
  (hs:W.findIn K (.ref C) "__setattr__"=some (some (.builtin "object.__setattr__"))) (hp:W.plainOver K C=true) (ht:W.takerIn K C name=some none) (hh:W.hasDictIn K C=true)
  (hw:PySem.Within mA ns) (hsz:ns.length<=sizeLine)
  (h:∀h',ObjM h' x dx C (fun y=>if y=name then some v else mA y)->Heap.SameBut dx s.heap h'->Q () { s with heap:=h',toks:=s.toks+2 }):
  wpAny (model prog w) A (setAttr (.ref x) name v) Q E s:=by
 obtain⟨od,J,hl⟩:=I.look
 refine W.set_plain X J hs (W.osa_open (s:={ s with toks:=s.toks+1 }) (r:=none) X J hp ht fun b=>?_)
 obtain⟨cd,hc,hd'⟩:=W.any_some hh
 have hx:s.heap.get? x=some ⟨.ref C,some dx,.plain,#[]⟩:=I.obj
 refine wpAny_bind (wpAny_pure (wpAny_bind (wpAny_bind (wpAny_loadPart hx (wpAny_bind (W.Looks.here (s:={ s with toks:=s.toks+1 }) (W.looks_clsIn X hc) ?_))))))
 rw[hd']
 refine wpAny_pure (a:=some dx) (wpAny_bind (wpAny_pure (wpAny_bind ?_)))
 refine wpAny_nsSet1 (s:={ s with toks:=s.toks+1 }) I.ns fun h' hn2 hs2=>?_
 obtain⟨oD,esD,epD,hoD,hdD,hcD⟩:=hn2.count (PySem.Within.cons name v hw)
 refine wpAny_bind (wpAny_lookBehind hoD (by rw[hdD];exact pastItsLine_dict (Nat.le_trans hcD (by rw[List.length_cons];omega))) ?_)
 exact wpAny_pure (h _ ⟨(hs2.2 _ (Ne.symm I.ne)).trans I.obj,hn2,I.ne⟩ hs2)
theorem make_map {R:Result->Shared->Prop}{vs:List Value}{kw:List (Str×Value)}(X:K.In s.heap)(hm:W.makesIn K C=true)
  (hi:W.findIn K (.ref C) "__init__"=some (some (.ref f))) (hf:W.typeIn K (.ref f)=some (.type "function"))
  (h:codeAny (model prog w) (A.under (.builtin "type.__call__" ⟨.ref C::vs,kw⟩)) (.call (.ref f) ⟨.ref (s.heap.objs.size+1)::vs,kw⟩) (W.InitBack (s.heap.objs.size+1) R)
   { s with heap:=(s.heap.push W.emptyDict).push (W.instObj C s.heap.objs.size) }):
  codeAny (model prog w) A (.call (.ref C) ⟨vs,kw⟩) R s:=by
 obtain⟨hh,g,d,t,os⟩:=s
 exact W.make_core (W.makes_of X hm) (W.looks_findIn X hi) (fun self=>W.bind_fn X self hf) (.inl rfl) h
end
def putF (f:Str)(v:V):List (Str×V)->List (Str×V)
 | []=>[(f,v)]
 | (g,x)::r=>if g=f then(g,v)::r else(g,x)::putF f v r
theorem lookup_putF (f g:Str)(v:V):∀fs:List (Str×V),(putF f v fs).lookup g=if g=f then some v else fs.lookup g
 | []=>by
  show List.lookup g [(f,v)]=_
  by_cases h:g=f
  ·have hb:(g==f)=true:=beq_iff_eq.mpr h
   simp only[List.lookup,hb,if_pos h]
  ·have hb:(g==f)=false:=beq_eq_false_iff_ne.mpr h
   simp only[List.lookup,hb,if_neg h]
 | (k,x)::r=>by
  have ih:=lookup_putF f g v r
  rw[show putF f v ((k,x)::r)=(if k=f then(k,v)::r else(k,x)::putF f v r) from rfl]
  by_cases hk:k=f
  ·rw[if_pos hk]
   by_cases h:g=k
   ·have hb:(g==k)=true:=beq_iff_eq.mpr h
    simp only[List.lookup,hb,if_pos (h.trans hk)]
   ·have hb:(g==k)=false:=beq_eq_false_iff_ne.mpr h
    simp only[List.lookup,hb,if_neg (fun e:g=f=>h (e.trans hk.symm))]
  ·rw[if_neg hk]
   by_cases h:g=k
   ·have hb:(g==k)=true:=beq_iff_eq.mpr h
    simp only[List.lookup,hb,if_neg (fun e:g=f=>hk (h.symm.trans e))]
   ·have hb:(g==k)=false:=beq_eq_false_iff_ne.mpr h
    simp only[List.lookup,hb]
    exact ih
theorem keys_putF (f:Str)(v:V):∀fs:List (Str×V),f∈(putF f v fs).map (·.1)/\∀g,g∈fs.map (·.1)->g∈(putF f v fs).map (·.1)
 | []=>⟨by simp[putF],fun g h=>by simp at h⟩
 | (k,x)::r=>by
  obtain⟨i1,i2⟩:=keys_putF f v r
  rw[show putF f v ((k,x)::r)=(if k=f then(k,v)::r else(k,x)::putF f v r) from rfl]
  by_cases hk:k=f
  ·rw[if_pos hk]
   subst hk
   exact⟨by simp,fun g h=>by simpa using h⟩
  ·rw[if_neg hk]
   refine⟨?_,fun g h=>?_⟩
   ·rw[List.map_cons]
    exact List.mem_cons_of_mem _ i1
   ·rw[List.map_cons] at h ⊢
    rcases List.mem_cons.mp h with e|e
    ·exact List.mem_cons.mpr (.inl e)
    ·exact List.mem_cons_of_mem _ (i2 g e)
theorem length_putF (f:Str)(v:V):∀fs:List (Str×V),(putF f v fs).length<=fs.length+1
 | []=>by simp[putF]
 | (k,x)::r=>by
  have ih:=length_putF f v r
  rw[show putF f v ((k,x)::r)=(if k=f then(k,v)::r else(k,x)::putF f v r) from rfl]
  by_cases hk:k=f
  ·rw[if_pos hk,List.length_cons,List.length_cons];omega
  ·rw[if_neg hk,List.length_cons,List.length_cons];omega
theorem RelO.some_of {v:V}{o:Option Value}(r:RelO (some v) o):∃u,o=some u/\RelV v u:=by
 cases o with
 |none=>exact(show False from r).elim
 |some u=>exact⟨u,rfl,r⟩
theorem RelO.none_of {o:Option Value}(r:RelO none o):o=none:=by
 cases o with
 |none=>rfl
 |some u=>exact(show False from r).elim
theorem handed_of {v:V}{u:Value}(r:RelV v u):W.handedIn u=true:=by
 cases v with
 |non=>cases(show u=Value.none from r);rfl
 |bl b=>cases(show u=Value.bool b from r);rfl
 |int i=>obtain⟨t,e⟩:=(show ∃t,u=Value.int i t from r);cases e;rfl
 |str x=>obtain⟨t,e⟩:=(show ∃t,u=Value.str x t from r);cases e;rfl
 |byt b=>obtain⟨t,e⟩:=(show ∃t,u=Value.bytes b t from r);cases e;rfl
 |flt b=>obtain⟨t,e⟩:=(show ∃t,u=Value.float b t from r);cases e;rfl
 |ref a=>cases(show u=Value.ref a from r);rfl
 |ty n=>cases(show u=Value.type n from r);rfl
section
variable {P:Program} {w:World} {H H':Hp} {h h':Heap} {a C dx:Addr} {fs fs':List (Str×V)}
theorem ins_get (hok:HOk P w H h)(e:H a=some (.ins C dx fs)):∃mA,ObjM h a dx C mA/\(∀f,RelO (fs.lookup f) (mA f))/\PySem.Within mA (fs.map (·.1))/\fs.length<=1000/\H dx=some (.own a):=by
 obtain⟨d,z,ne,ob,mA,n,r,q⟩:=(show ObjOk P w H h a (.ins C dx fs) from hok a _ e)
 exact⟨mA,⟨ob,n,ne⟩,r,q,z,d⟩
end
structure Cls (K:W.Frag)(C:Addr):Prop where
 pg:W.plainGet K C Str.empty=true
 hd:W.hasDictIn K C=true
 po:W.plainOver K C=true
 sa:W.findIn K (.ref C) "__setattr__"=some (some (.builtin "object.__setattr__"))
theorem Cls.get {K:W.Frag}{C:Addr}(c:Cls K C)(f:Str):W.plainGet K C f=true:=c.pg
def NoAttr (K:W.Frag)(C:Addr)(f:Str):Prop:=W.findIn K (.ref C) f=some none
theorem NoAttr.taker {K:W.Frag}{C:Addr}{f:Str}(n:NoAttr K C f):W.takerIn K C f=some none:=by
 unfold W.takerIn
 rw[show W.findIn K (.ref C) f=some none from n]
 rfl
structure Meth (K:W.Frag)(C:Addr)(m:Str)(f:Addr):Prop where
 at_:W.findIn K (.ref C) m=some (some (.ref f))
 fn:W.isFn K (.ref f)=true
 kp:W.keepIn K (.ref f)=true
section
variable {X:Cx} {pins:List (Addr×Obj)} {σ:St} {H:Hp} {s:Shared} {a C dx:Addr} {fs:List (Str×V)} {f:Str} {v:V} {A:Around} {E:Value->Shared->Prop}
theorem getattr_ok {b:Bool}{Q:Value->Shared->Prop}(I:Inv X pins σ H s)(e:H a=some (.ins C dx fs))(c:Cls X.K C)(n:NoAttr X.K C f)(l:fs.lookup f=some v)
  (h:∀u s',Inv X pins σ H s'->RelV v u->Q u s'):wpAny (model X.prog X.w) A (getAttr (.ref a) f b) Q E s:=by
 obtain⟨mA,O,r,_,_,_⟩:=ins_get I.hok e
 obtain⟨u,hu,ru⟩:=RelO.some_of (v:=v) (o:=mA f) (by rw[<- l];exact r f)
 exact get_map I.kIn O (c.get f) c.hd n hu (handed_of ru) (h u _ (I.tok _) ru)
theorem getmeth_ok {m:Str}{g:Addr}{pl:Sem Bool}{Q:Value×List Value->Shared->Prop}(I:Inv X pins σ H s)(e:H a=some (.ins C dx fs))(c:Cls X.K C)(k:Meth X.K C m g)(l:fs.lookup m=none)
  (h:Q (.ref g,[.ref a]) s):wpAny (model X.prog X.w) A (getMethod (.ref a) m pl) Q E s:=by
 obtain⟨mA,O,r,_,_,_⟩:=ins_get I.hok e
 have hn:mA m=none:=RelO.none_of (by rw[<- l];exact r m)
 exact get_meth I.kIn O (c.get m) k.at_ k.fn hn h
theorem setattr_ok {y:V}{u:Value}{Q:Unit->Shared->Prop}(I:Inv X pins σ H s)(e:H a=some (.ins C dx fs))(c:Cls X.K C)(n:NoAttr X.K C f)(hl:fs.length<1000)(ry:RelV y u)
  (h:∀s',Inv X pins σ (upd H a (.ins C dx (putF f y fs))) s'->Q () s'):wpAny (model X.prog X.w) A (setAttr (.ref a) f u) Q E s:=by
 obtain⟨mA,O,r,wi,_,ho⟩:=ins_get I.hok e
 have hz:(fs.map (·.1)).length<=sizeLine:=by rw[List.length_map,sizeLine_eq];omega
 refine set_map I.kIn O c.sa c.po n.taker c.hd wi hz fun h' O' sb=>h _ ?_
 have hd:∃o,h'.get? dx=some o:=let ⟨o,_,_,e',_⟩:=O'.ns;⟨o,e'⟩
 refine I.write (x:=a) (e:=dx) (by rw[e];exact True.intro) (.inr ho) (fun b q hb z=>(sb.2 b hb).trans z) hd ?_
 refine⟨by rw[upd_ne O.ne];exact ho,?_,O.ne,O'.obj,_,O'.ns,fun g=>?_,fun g hg=>?_⟩
 ·have:=length_putF f y fs;omega
 ·show RelO ((putF f y fs).lookup g) (if g=f then some u else mA g)
  rw[lookup_putF]
  by_cases q:g=f
  ·rw[if_pos q,if_pos q];exact ry
  ·rw[if_neg q,if_neg q];exact r g
 ·by_cases q:g=f
  ·rw[q];exact(keys_putF f y fs).1
  ·refine(keys_putF f y fs).2 g (wi g fun z=>hg ?_)
   show(if g=f then some u else mA g)=none
   rw[if_neg q];exact z
theorem Inv.made (I:Inv X pins σ H s):Inv X pins σ (upd (upd H s.heap.objs.size (.own (s.heap.objs.size+1))) (s.heap.objs.size+1) (.ins C s.heap.objs.size []))
  { s with heap:=(s.heap.push W.emptyDict).push (W.instObj C s.heap.objs.size) }:=by
 have e1:(s.heap.push W.emptyDict).get? s.heap.objs.size=some W.emptyDict:=Heap.get?_push_size s.heap rfl
 have e2:((s.heap.push W.emptyDict).push (W.instObj C s.heap.objs.size)).get? (s.heap.objs.size+1)=some (W.instObj C s.heap.objs.size):=by
  have:=Heap.get?_push_size (s.heap.push W.emptyDict) (o:=W.instObj C s.heap.objs.size) rfl
  rwa [Heap.size_push] at this
 have e3:(s.heap.push W.emptyDict).Ns s.heap.objs.size (fun _=>none):=⟨W.emptyDict,#[],_,e1,rfl,(fun e he=>absurd he (by simp)),fun _=>rfl⟩
 have I1:=I.laid (a:=s.heap.objs.size) (o:=.own (s.heap.objs.size+1)) (h':=s.heap.push W.emptyDict) (t':=s.toks) (fun b u q=>Heap.get?_push_of_some _ q) (Nat.le_refl _) ⟨_,e1⟩
 refine I1.laid (a:=s.heap.objs.size+1) (o:=.ins C s.heap.objs.size []) (t':=s.toks) (fun b u q=>Heap.get?_push_of_some _ q) (Nat.le_of_eq (Heap.size_push _ _)) ?_
 have ne:s.heap.objs.size≠s.heap.objs.size+1:=Nat.ne_of_lt (Nat.lt_succ_self _)
 refine⟨by rw[upd_ne ne,upd_same],Nat.zero_le _,ne,e2,fun _=>none,(Heap.Ns1.of_empty e3).at fun o q=>Heap.get?_push_of_some _ q,fun _=>True.intro,fun y hy=>absurd rfl hy⟩
theorem attr_of {prog:Program}{w:World}{env:Env}{e:Expr}{f:Str}{pos:Pos}{s:Shared}{Q:Value->Shared->Prop}(hb:attributeBase e f env (eval e env)=eval e env)
  (h:wpAny (model prog w) A (eval e env) (fun o s₁=>wpAny (model prog w) A (getAttr o f true) Q E s₁) E s):wpAny (model prog w) A (eval (.Attribute e f pos) env) Q E s:=
 Attribute_any_ h (by rw[arm_eval_Attribute,hb])
end
def tFld (K:W.Frag)(ta:TE)(f:Str):TE:=fun σ H Q=>ta σ H fun x H1=>∃a C dx fs v,x=.ref a/\H1 a=some (.ins C dx fs)/\Cls K C/\NoAttr K C f/\fs.lookup f=some v/\Q v H1
def sFld (K:W.Frag)(ta tv:TE)(f:Str):TS:=fun D σ H=>tv σ H fun y H1=>ta σ H1 fun x H2=>∃a C dx fs,x=.ref a/\H2 a=some (.ins C dx fs)/\Cls K C/\NoAttr K C f/\fs.length<1000∧
 D.nx σ (upd H2 a (.ins C dx (putF f y fs)))
section
variable {X:Cx} {o e value:Expr} {f:Str} {pos pos' tpos:Pos} {ta tv:TE}
theorem pe_fld (he:PE X e ta)(hb:attributeBase e f X.env (eval e X.env)=eval e X.env):PE X (.Attribute e f pos) (tFld X.K ta f):=by
 intro pins s σ H Q I h
 refine attr_of hb (thn (he pins s σ H _ I h) fun u s1 ⟨x,H1,I1,rx,a,C,dx,fs,v,ex,ea,c,n,l,q⟩=>?_)
 subst ex
 obtain rfl:u=Value.ref a:=rx
 exact getattr_ok I1 ea c n l fun u' s2 I2 ru=>⟨v,H1,I2,ru,q⟩
theorem ps_fld (ha:PE X o ta)(hv:PE X value tv)(hs:swapsWith value (some (.Attribute o f pos')) pos.line X.env=pure false):PS X (.Assign [.Attribute o f pos'] value pos) (sFld X.K ta tv f):=by
 intro pins s σ H D I h
 refine plainObj_wpAny_Assign_Attribute (thn (hv pins s σ H _ I h) fun u s1 ⟨y,H1,I1,ry,q⟩=>thn (ha pins s1 σ H1 _ I1 q) fun ov s2 ⟨x,H2,I2,rx,a,C,dx,fs,ex,ea,c,n,l,q2⟩=>?_) hs
 subst ex
 obtain rfl:ov=Value.ref a:=rx
 exact setattr_ok I2 ea c n l ry fun s3 I3=>⟨σ,_,I3,q2⟩
end
section
variable {X:Cx} {pins:List (Addr×Obj)} {σ:St} {H:Hp} {s:Shared} {A:Around} {E:Value->Shared->Prop} {Q:Value->Shared->Prop} {c:Value} {b:Bool}
inductive TyOf (K:W.Frag) (H:Hp):V->Value->Prop where
 |non:TyOf K H .non (.type "NoneType")
 |bl (x:Bool):TyOf K H (.bl x) (.type "bool")
 |int (i:Int):TyOf K H (.int i) (.type "int")
 |str (x:Str):TyOf K H (.str x) (.type "str")
 |flt (x:UInt64):TyOf K H (.flt x) (.type "float")
 |lst {a:Addr} {xs:List V} (e:H a=some (.lst xs)):TyOf K H (.ref a) (.type "list")
 |frz {a:Addr} {o:Obj} {xs:List V} (e:H a=some (.frz o (.lst xs))):TyOf K H (.ref a) (.type "list")
 |tup {a:Addr} {xs:List V} (e:H a=some (.tup xs)):TyOf K H (.ref a) (.type "tuple")
 |dK {a:Addr} {kvs:List (Key×V)} (e:H a=some (.dK kvs)):TyOf K H (.ref a) (.type "dict")
 |dT {a:Addr} {kvs:List (List Key×V)} (e:H a=some (.dT kvs)):TyOf K H (.ref a) (.type "dict")
 |ins {a C dx:Addr} {fs:List (Str×V)} (e:H a=some (.ins C dx fs)) (cl:Cls K C) (ha:W.findIn K (.ref C) "__class__"=some (some (.builtin "object.__class__")))
   (hn:W.specialIn K (.builtin "object.__class__") "__get__"=some (some (.builtin "getset_descriptor.__get__"))) (htk:W.takesIn K (.builtin "object.__class__")=some true)
   (hm:W.mroIn K C (.type "object")=some true):TyOf K H (.ref a) (.ref C)
theorem isinst_ok {x:V}{u t:Value}(I:Inv X pins σ H s)(rx:RelV x u)(ty:TyOf X.K H x t)(e:W.kitOne X.K t c=some b)(h:∀tk,Q (.bool b) { s with toks:=tk }):
  wpAny (model X.prog X.w) A (call (.builtin "isinstance") [u,c]) Q E s:=by
 cases ty with
 |non=>cases(show u=Value.none from rx);exact W.kia_one W.kitx_none I.kIn True.intro e (fun z=>nomatch z) h
 |bl y=>cases(show u=Value.bool y from rx);exact W.kia_one W.kitx_bool I.kIn True.intro e (fun z=>nomatch z) h
 |int i=>obtain⟨t,q⟩:=(show ∃t,u=Value.int i t from rx);cases q;exact W.kia_one W.kitx_int I.kIn True.intro e (fun z=>nomatch z) h
 |str y=>obtain⟨t,q⟩:=(show ∃t,u=Value.str y t from rx);cases q;exact W.kia_one W.kitx_str I.kIn True.intro e (fun z=>nomatch z) h
 |flt y=>obtain⟨t,q⟩:=(show ∃t,u=Value.float y t from rx);cases q;exact W.kia_one W.kitx_float I.kIn True.intro e (fun z=>nomatch z) h
 |@lst a xs ea=>
  cases(show u=Value.ref a from rx)
  obtain⟨_,_,n,_,h1⟩:=(show ObjOk X.prog X.w H s.heap a (.lst xs) from I.hok a _ ea)
  exact W.kia_one W.kitx_list I.kIn ⟨_,h1,rfl⟩ e (fun z=>nomatch z) h
 |@frz a ob xs ea=>
  cases(show u=Value.ref a from rx)
  obtain⟨_,_,_,n,_,h1⟩:=(show ObjOk X.prog X.w H s.heap a (.frz ob (.lst xs)) from I.hok a _ ea)
  exact W.kia_one W.kitx_list I.kIn ⟨_,h1,rfl⟩ e (fun z=>nomatch z) h
 |@tup a xs ea=>
  cases(show u=Value.ref a from rx)
  obtain⟨_,_,_,p⟩:=(show ObjOk X.prog X.w H s.heap a (.tup xs) from I.hok a _ ea)
  obtain⟨o,h1,h2,_⟩:=p
  exact W.kia_one W.kitx_tuple I.kIn ⟨o,h1,h2⟩ e (fun z=>nomatch z) h
 |@dK a kvs ea=>
  cases(show u=Value.ref a from rx)
  obtain⟨_,_,vs,_,p⟩:=(show ObjOk X.prog X.w H s.heap a (.dK kvs) from I.hok a _ ea)
  obtain⟨o,es,ep,h1,h2,_⟩:=p
  exact W.kia_one W.kitx_dict I.kIn ⟨o,h1,h2.1⟩ e (fun z=>nomatch z) h
 |@dT a kvs ea=>
  cases(show u=Value.ref a from rx)
  obtain⟨_,_,xs,_,o,es,ep,h1,h2,_⟩:=(show ObjOk X.prog X.w H s.heap a (.dT kvs) from I.hok a _ ea)
  exact W.kia_one W.kitx_dict I.kIn ⟨o,h1,h2.1⟩ e (fun z=>nomatch z) h
 |@ins a C dx fs ea cl ha hn htk hm=>
  cases(show u=Value.ref a from rx)
  obtain⟨mA,O,_⟩:=ins_get I.hok ea
  obtain⟨od,J,_⟩:=O.look
  exact W.kia_one (W.kitx_own (cl.get _) cl.hd ha hn htk hm) I.kIn J e (fun z=>nomatch z) h
end
end L2
namespace L2
open PySem PySem.Spec PyProof.Rows
structure Room (k:Nat)(A:Around):Prop where
 hd:A.handled=none
 dp:A.depth+3*k+5<recursionLimit
 un:A.units+16*k+200<cLine
theorem Room.mono {j k:Nat}{A:Around}(r:Room k A)(h:j<=k):Room j A:=⟨r.hd,by have:=r.dp;omega,by have:=r.un;omega⟩
theorem Room.deeper {k:Nat}{A:Around}(r:Room (k+1) A)(env:Env):Room k (A.deeper env):=
 ⟨r.hd,by have:=r.dp;show A.depth+1+3*k+5<_;omega,by have:=r.un;show A.units+3+16*k+200<_;omega⟩
theorem make_depth {A:Around}{C:Addr}{us:List Value}{kw:List (Str×Value)}:(A.under (.builtin "type.__call__" ⟨.ref C::us,kw⟩)).depth=A.depth+1:=by
 first|rfl|simp[Around.under,Code.weight,Code.isCreation,Code.isGuard,Code.isCaller,Code.frames,Code.isFrame,guardIds]
theorem make_units {A:Around}{C:Addr}{us:List Value}{kw:List (Str×Value)}:(A.under (.builtin "type.__call__" ⟨.ref C::us,kw⟩)).units=A.units+1:=by
 first|rfl|simp[Around.under,Code.cUnits,Code.frames,Code.isFrame]
theorem Room.make {k:Nat}{A:Around}(r:Room (k+1) A)(C:Addr)(us:List Value)(kw:List (Str×Value)):Room k (A.under (.builtin "type.__call__" ⟨.ref C::us,kw⟩)):=
 ⟨r.hd,by have:=r.dp;rw[make_depth];omega,by have:=r.un;rw[make_units];omega⟩
theorem Room.depth {k:Nat}{A:Around}(r:Room k A):A.depth<recursionLimit:=by have:=r.dp;omega
theorem Room.units {k:Nat}{A:Around}(r:Room k A):A.units+64<cLine:=by have:=r.un;omega
theorem Room.units0 {k:Nat}{A:Around}(r:Room k A):A.units<cLine:=by have:=r.un;omega
def tNil:TA:=fun _ H Q=>Q [] H
def tCons (ta:TE)(tr:TA):TA:=fun σ H Q=>ta σ H fun x H1=>tr σ H1 fun xs H2=>Q (x::xs) H2
section
variable {X:Cx} {e:Expr} {es:List Expr} {te:TE} {t:TA} {pos:Pos}
theorem pa_nil:PA X [] tNil:=fun _ _ _ _ H Q I h=>Calls.spliced_nil ⟨[],H,I,.nil,h⟩
theorem pa_cons (ha:PE X e te)(hr:PA X es t)(hs:starEach (e::es) X.env=(false,eval e X.env)::starEach es X.env:=by rfl):PA X (e::es) (tCons te t):=by
 intro pos pins s σ H Q I h
 rw[hs]
 show wpAny _ _ (spliced ((false,eval e X.env)::backTo pos (starEach es X.env))) _ _ s
 refine Calls.spliced_cons (thn (ha pins s σ H _ I h) fun u s1 ⟨x,H1,I1,r1,q1⟩=>?_)
 exact thn (hr pos pins s1 σ H1 _ I1 q1) fun us s2 ⟨xs,H2,I2,r2,q2⟩=>⟨x::xs,H2,I2,.cons r1 r2,q2⟩
def tTup (t:TA):TE:=fun σ H Q=>t σ H fun xs H1=>xs.length<=sizeLine/\∀p,H1 p=none->Q (.ref p) (upd H1 p (.tup xs))
def tLst (t:TA):TE:=fun σ H Q=>t σ H fun xs H1=>xs.length<=sizeLine/\∀p,H1 p=none->Q (.ref p) (upd H1 p (.lst xs))
theorem pe_tup {x1}(h:PA X es t):PE X (.Tuple es x1 pos) (tTup t):=by
 intro pins s σ H Q I hq
 refine wpAny_Tuple_spliced (thn (h pos pins s σ H _ I hq) fun us s1 ⟨xs,H1,I1,r,z,q⟩=>⟨by rw[<- r.length];exact z,?_⟩)
 have hf:H1 s1.heap.objs.size=none:=I1.hok.fresh (Nat.le_refl _)
 refine⟨.ref s1.heap.objs.size,upd H1 s1.heap.objs.size (.tup xs),I1.laid (t':=s1.toks) (fun b u e=>Heap.get?_push_of_some _ e) (Nat.le_refl _) ?_,rfl,q _ hf⟩
 exact⟨z,us,r,⟨_,Heap.get?_push_size _ rfl,rfl,_,rfl⟩⟩
theorem pe_lst (h:PA X es t):PE X (.List es pos) (tLst t):=by
 intro pins s σ H Q I hq
 refine wpAny_List_spliced (thn (h pos pins s σ H _ I hq) fun us s1 ⟨xs,H1,I1,r,z,q⟩=>⟨by rw[<- r.length];exact z,?_⟩)
 have hf:H1 s1.heap.objs.size=none:=I1.hok.fresh (Nat.le_refl _)
 refine⟨.ref s1.heap.objs.size,upd H1 s1.heap.objs.size (.lst xs),I1.laid (t':=s1.toks) (fun b u e=>Heap.get?_push_of_some _ e) (Nat.le_refl _) ?_,rfl,q _ hf⟩
 exact⟨z,us,0,r,Heap.get?_push_size _ rfl⟩
end
abbrev Sp:=List V->Hp->VK->XK->Prop
abbrev CXT:=List Env->Hp->Shared->XK->Value->Shared->Prop
structure Env0 (P:Program)(w:World)(K:W.Frag)(mg:Str->Option Value)(base:Heap)(A:Around)(outer:List Env)(s:Shared)(H:Hp):Prop where
 frames:A.frames=some outer
 mod:Mod K mg base
 bs:∀b o,base.get? b=some o->s.heap.get? b=some o/\H b=none
 bsz:base.objs.size<=s.heap.objs.size
 funs:s.heap.FunFrames base outer
 frf:∀b∈frs outer,H b=none
 hok:HOk P w H s.heap
 bare:AllBare s.gens
def CE (outer:List Env)(P:Program)(w:World)(H:Hp)(s:Shared)(Q:VK)(u:Value)(s':Shared):Prop:=
 ∃v H',s'.os=s.os/\AllBare s'.gens/\Un (frs outer) [] H H' s.heap s'.heap/\HOk P w H' s'.heap/\RelV v u/\Q v H'
def CR (CX:CXT)(outer:List Env)(P:Program)(w:World)(H:Hp)(s:Shared)(Q:VK)(E:XK)(r:Result)(s':Shared):Prop:=
 match r with
 |.ok (.ret u)=>CE outer P w H s Q u s'
 |.ok _=>False
 |.error e=>CX outer H s E e s'
structure FnOk (P:Program)(w:World)(K:W.Frag)(mg:Str->Option Value)(base:Heap)(CX:CXT)(k:Nat)(f:Addr)(fd:FuncData)(ps:List Str)(sp:Sp):Prop where
 len:∀vs H Q E,sp vs H Q E->vs.length=ps.length
 run:∀(A:Around) (outer:List Env) (s:Shared) (H:Hp) (args:Args) (us:List Value) (vs:List V) (Q:VK) (E:XK),Room k A->Env0 P w K mg base A outer s H->BindsTo s fd args (ps.zip us)->Vals vs us->sp vs H Q E→
  codeAny (model P w) A (.call (.ref f) args) (CR CX outer P w H s Q E) s
theorem Env0.make {P:Program}{w:World}{K:W.Frag}{mg:Str->Option Value}{base:Heap}{A:Around}{outer:List Env}{s:Shared}{H:Hp}(e:Env0 P w K mg base A outer s H)(C:Addr)(us:List Value)(kw:List (Str×Value)):
  Env0 P w K mg base (A.under (.builtin "type.__call__" ⟨.ref C::us,kw⟩)) outer s H:=⟨by first|exact e.frames|(simpa [Around.under,Code.envs,Code.isFrame,pushEnvs] using e.frames),e.mod,e.bs,e.bsz,e.funs,e.frf,e.hok,e.bare⟩
section
variable {X:Cx} {pins:List (Addr×Obj)} {σ:St} {H:Hp} {s s':Shared}
theorem Inv.env0 (I:Inv X pins σ H s):Env0 X.prog X.w X.K X.mg X.base X.A X.stack s H:=
 ⟨I.ok.frames,I.ok.mod,I.bs,Nat.le_trans I.ok.bsz I.sz,I.stack,I.stkFree,I.hok,I.bare⟩
theorem Inv.after {Q:VK}{u:Value}(I:Inv X pins σ H s)(h:CE X.stack X.prog X.w H s Q u s'):EP X pins σ Q u s':=by
 obtain⟨v,H',os,bare,un,hok,r,q⟩:=h
 obtain⟨hh,g,d,t,os'⟩:=s'
 obtain rfl:os'=s.os:=os
 exact⟨v,H',I.call (h':=hh) (g':=g) (d':=d) (t':=t) (ch:=[]) un hok bare (fun b z=>absurd z (by simp)),r,q⟩
end
def tCall (sp:Sp)(dvs:List V)(E:XK)(t:TA):TE:=fun σ H Q=>t σ H fun vs H1=>sp (vs++dvs) H1 Q E
def tMeth (C:Addr)(m:Str)(sp:Sp)(dvs:List V)(E:XK)(ta:TE)(t:TA):TE:=fun σ H Q=>ta σ H fun x H1=>∃a dx fs,x=.ref a/\H1 a=some (.ins C dx fs)/\fs.lookup m=none∧
 t σ H1 fun vs H2=>sp (x::(vs++dvs)) H2 Q E
def tMake (C:Addr)(sp:Sp)(dvs:List V)(E:XK)(t:TA):TE:=fun σ H Q=>t σ H fun vs H1=>∀x dx,H1 x=none->H1 dx=none->dx≠x→
 sp (.ref x::(vs++dvs)) (upd (upd H1 dx (.own x)) x (.ins C dx [])) (fun v H2=>v=.non/\Q (.ref x) H2) E
def Binds (K:W.Frag)(fd:FuncData)(ps:List Str)(ds:List Value):Prop:=
 ∀(s:Shared) (us:List Value),K.In s.heap->(us++ds).length=ps.length->BindsTo s fd ⟨us,[]⟩ (ps.zip (us++ds))
theorem Binds.all {K:W.Frag}{fd:FuncData}{ps:List Str}(h:∀us:List Value,us.length=ps.length->bindArgs fd ⟨us,[]⟩=pure (ps.zip us)):Binds K fd ps []:=fun s us _ hl=>by
 rw[List.append_nil] at hl ⊢
 exact .of_eq (h us hl)
def Passes (CX:CXT)(X:Cx)(E:XK):Prop:=∀(pins:List (Addr×Obj)) (σ:St) (H:Hp) (s:Shared) (e:Value) (s':Shared),Inv X pins σ H s->CX X.stack H s E e s'->X.xe e s'
section
variable {X:Cx} {CX:CXT} {k:Nat} {f C:Addr} {fd:FuncData} {ps:List Str} {sp:Sp} {dvs:List V} {ds:List Value} {E:XK} {x m:Str} {p pos apos:Pos} {e o:Expr} {es:List Expr} {ta:TE} {t:TA}
theorem run_fn {pins:List (Addr×Obj)}{σ:St}{H:Hp}{s:Shared}{Q:VK}{us:List Value}{vs:List V}(F:FnOk X.prog X.w X.K X.mg X.base CX k f fd ps sp)(hr:Room k X.A)(hb:Binds X.K fd ps ds)(hd:Vals dvs ds)(hx:Passes CX X E)
  (I:Inv X pins σ H s) (r:Vals vs us) (h:sp (vs++dvs) H Q E):wpAny (model X.prog X.w) X.A (call (.ref f) us) (EP X pins σ Q) X.xe s:=by
 have r2:Vals (vs++dvs) (us++ds):=r.append hd
 have hl:(us++ds).length=ps.length:=by rw[<- r2.length];exact F.len _ _ _ _ h
 refine wpAny_call (codeAny_mono (F.run X.A X.stack s H ⟨us,[]⟩ (us++ds) (vs++dvs) Q E hr I.env0 (hb s us I.kIn hl) r2 h) fun r s' hq=>?_)
 cases r with
 |error e=>exact hx pins σ H s e s' I hq
 |ok fl=>
  cases fl with
  |ret u=>exact I.after hq
  |next=>exact False.elim hq
  |brk=>exact False.elim hq
  |cont=>exact False.elim hq
theorem pe_call (F:FnOk X.prog X.w X.K X.mg X.base CX k f fd ps sp)(hr:Room k X.A)(hg:Gl X x)(hm:X.mg x=some (.ref f))(hk:W.keepIn X.K (.ref f)=true)(hb:Binds X.K fd ps ds)(hd:Vals dvs ds)(hx:Passes CX X E)
  (ha:PA X (e::es) t) (hdb:(x==("__debug__":Str))=false:=by decide) (he:starEach (e::es) X.env=(false,eval e X.env)::starEach es X.env:=by rfl) (hpl:(backTo pos (starEach es X.env)).any (·.1)=false:=by rfl):
  PE X (.Call (.Name x p) (e::es) [] pos) (tCall sp dvs E t):=by
 intro pins s σ H Q I h
 refine wpAny_Call_Name_kw (ld_glob I hg hm ?_ hdb)
 refine W.callWith_K (h₀:=X.base) I.ok.mod.kin hk (thn (ha pos pins s σ H _ I h) fun us s1 ⟨vs,H1,I1,r,q⟩=>⟨I1.kIn,?_⟩) he hpl
 exact run_fn F hr hb hd hx I1 r q
theorem pe_meth {pl:Sem Bool}(he:PE X o ta)(c:Cls X.K C)(hm:Meth X.K C m f)(F:FnOk X.prog X.w X.K X.mg X.base CX k f fd ps sp)(hr:Room k X.A)(hb:Binds X.K fd ps ds)(hd:Vals dvs ds)(hx:Passes CX X E)(ha:PA X (e::es) t)
  (hst:starEach (e::es) X.env=(false,eval e X.env)::starEach es X.env:=by rfl) (hpl:(backTo pos (starEach es X.env)).any (·.1)=false:=by rfl)
  (ht:eval (.Call (.Attribute o m apos) (e::es) [] pos) X.env=(do
   let ov ← eval o X.env
   standAt apos.atName
   let (f,first) ← holding [ov] (getMethod ov m pl)
   callWith pos f first (backTo pos (starEach (e::es) X.env)) (backToKw pos (keywordEach [] X.env))):=by rfl):
  PE X (.Call (.Attribute o m apos) (e::es) [] pos) (tMeth C m sp dvs E ta t):=by
 intro pins s σ H Q I h
 refine W.methodCall_KW (pl:=pl) (thn (he pins s σ H _ I h) fun u s1 ⟨x,H1,I1,rx,a,dx,fs,ex,ea,l,q⟩=>?_) ht
 subst ex
 obtain rfl:u=Value.ref a:=rx
 refine getmeth_ok I1 ea c hm l ?_
 refine W.callWith_K (first:=[.ref a]) (h₀:=X.base) I.ok.mod.kin hm.kp (thn (ha pos pins s1 σ H1 _ I1 q) fun us s2 ⟨vs,H2,I2,r,q2⟩=>⟨I2.kIn,?_⟩) hst hpl
 exact run_fn (us:=.ref a::us) (vs:=.ref a::vs) F hr hb hd hx I2 (.cons rfl r) q2
structure Mk (K:W.Frag)(C f:Addr):Prop where
 makes:W.makesIn K C=true
 init:W.findIn K (.ref C) "__init__"=some (some (.ref f))
 fn:W.isFn K (.ref f)=true
 kp:W.keepIn K (.ref C)=true
theorem run_make {pins:List (Addr×Obj)}{σ:St}{H:Hp}{s:Shared}{Q:VK}{us:List Value}{vs:List V}(M:Mk X.K C f)(F:FnOk X.prog X.w X.K X.mg X.base CX k f fd ps sp)(hr:Room (k+1) X.A)(hb:Binds X.K fd ps ds)(hd:Vals dvs ds)
  (hx:Passes CX X E) (I:Inv X pins σ H s) (r:Vals vs us)
  (h:∀x dx,H x=none->H dx=none->dx≠x->sp (.ref x::(vs++dvs)) (upd (upd H dx (.own x)) x (.ins C dx [])) (fun v H2=>v=.non/\Q (.ref x) H2) E):
  wpAny (model X.prog X.w) X.A (call (.ref C) us) (EP X pins σ Q) X.xe s:=by
 have hq:=h (s.heap.objs.size+1) s.heap.objs.size (I.hok.fresh (Nat.le_succ _)) (I.hok.fresh (Nat.le_refl _)) (Nat.ne_of_lt (Nat.lt_succ_self _))
 have I2:=Inv.made (C:=C) I
 have r2:Vals (V.ref (s.heap.objs.size+1)::(vs++dvs)) (Value.ref (s.heap.objs.size+1)::(us++ds)):=.cons rfl (r.append hd)
 have hl:(Value.ref (s.heap.objs.size+1)::us++ds).length=ps.length:=by
  have e:=r2.length
  rw[F.len _ _ _ _ hq] at e
  exact e.symm
 refine wpAny_call (make_map (f:=f) I.kIn M.makes M.init (beq_iff_eq.mp M.fn) (codeAny_mono (F.run _ X.stack _ _ ⟨Value.ref (s.heap.objs.size+1)::us,[]⟩ (Value.ref (s.heap.objs.size+1)::(us++ds)) _ _ E (hr.make C us [])
  (I2.env0.make C us []) (hb _ (Value.ref (s.heap.objs.size+1)::us) I2.kIn hl) r2 hq) fun r s' hq'=>?_))
 cases r with
 |error e=>exact hx pins σ _ _ e s' I2 hq'
 |ok fl=>
  cases fl with
  |ret u=>
   obtain⟨v,H',I3,rv,ev,q3⟩:=I2.after hq'
   subst ev
   exact⟨rv,⟨V.ref (s.heap.objs.size+1),H',I3,rfl,q3⟩⟩
  |next=>exact False.elim hq'
  |brk=>exact False.elim hq'
  |cont=>exact False.elim hq'
theorem pe_make (M:Mk X.K C f)(F:FnOk X.prog X.w X.K X.mg X.base CX k f fd ps sp)(hr:Room (k+1) X.A)(hg:Gl X x)(hm:X.mg x=some (.ref C))(hb:Binds X.K fd ps ds)(hd:Vals dvs ds)(hx:Passes CX X E)
  (ha:PA X (e::es) t) (hdb:(x==("__debug__":Str))=false:=by decide) (he:starEach (e::es) X.env=(false,eval e X.env)::starEach es X.env:=by rfl) (hpl:(backTo pos (starEach es X.env)).any (·.1)=false:=by rfl):
  PE X (.Call (.Name x p) (e::es) [] pos) (tMake C sp dvs E t):=by
 intro pins s σ H Q I h
 refine wpAny_Call_Name_kw (ld_glob I hg hm ?_ hdb)
 refine W.callWith_K (h₀:=X.base) I.ok.mod.kin M.kp (thn (ha pos pins s σ H _ I h) fun us s1 ⟨vs,H1,I1,r,q⟩=>⟨I1.kIn,?_⟩) he hpl
 exact run_make M F hr hb hd hx I1 r q
end
structure FnScope (N P:List Str)(sc:Scope):Prop where
 kind:sc.kind=.function
 co:sc.isCoroutine=false
 gen:sc.isGenerator=false
 nd:N.Nodup
 pre:N.take P.length=P
 par:∀x∈P,sc.names.lookup x=some .local\/sc.names.lookup x=some .cell
 nofree:∀y∈sc.names,y.2≠.free
theorem FnScope.of {N P:List Str}{sc:Scope}(h:sc.kind=.function/\sc.isCoroutine=false/\sc.isGenerator=false/\N.Nodup/\N.take P.length=P/\(∀x∈P,sc.names.lookup x=some .local\/sc.names.lookup x=some .cell)/\∀y∈sc.names,y.2≠.free):FnScope N P sc:=⟨h.1,h.2.1,h.2.2.1,h.2.2.2.1,h.2.2.2.2.1,h.2.2.2.2.2.1,h.2.2.2.2.2.2⟩
theorem bindL_out {kindOf:Str->Option NameKind}{x:Str}:∀{binds:List (Str×Value)} {m:Str->Option Value},(∀v,(x,v)∉binds)->bindL kindOf binds m x=m x
 | [],_,_=>rfl
 | (n,v)::r,m,h=>by
  unfold bindL
  rw[bindL_out fun w hw=>h w (List.mem_cons_of_mem _ hw)]
  split
  ·have:x≠n:=by rintro rfl;exact h v List.mem_cons_self
   simp[this]
  ·rfl
theorem bindC_out {kindOf:Str->Option NameKind}{x:Str}:∀{binds:List (Str×Value)} {m:Str->Option Value},(∀v,(x,v)∉binds)->bindC kindOf binds m x=m x
 | [],_,_=>rfl
 | (n,v)::r,m,h=>by
  unfold bindC
  rw[bindC_out fun w hw=>h w (List.mem_cons_of_mem _ hw)]
  split
  ·rfl
  ·have:x≠n:=by rintro rfl;exact h v List.mem_cons_self
   simp[this]
theorem bindL_get {kindOf:Str->Option NameKind}{x:Str}{v:Value}:∀{P:List Str} {vs:List Value} {i:Nat} {m:Str->Option Value},P.Nodup->P[i]?=some x->vs[i]?=some v->kindOf x=some .local→
  bindL kindOf (P.zip vs) m x=some v
 | [],_,_,_,_,h,_,_=>by simp at h
 |_::_,[],_,_,_,_,h,_=>by simp at h
 |p::P,w::vs,0,m,nd,h1,h2,hk=>by
  simp at h1 h2;subst h1;subst h2
  show bindL kindOf ((p,w)::P.zip vs) m p=_
  unfold bindL
  rw[bindL_out fun v hv=>(List.nodup_cons.mp nd).1 (List.of_mem_zip hv).1,if_pos hk]
  simp
 |p::P,w::vs,i+1,m,nd,h1,h2,hk=>by
  show bindL kindOf ((p,w)::P.zip vs) m x=_
  unfold bindL
  exact bindL_get (i:=i) (List.nodup_cons.mp nd).2 (by simpa using h1) (by simpa using h2) hk
theorem bindC_get {kindOf:Str->Option NameKind}{x:Str}{v:Value}:∀{P:List Str} {vs:List Value} {i:Nat} {m:Str->Option Value},P.Nodup->P[i]?=some x->vs[i]?=some v->kindOf x≠some .local→
  bindC kindOf (P.zip vs) m x=some v
 | [],_,_,_,_,h,_,_=>by simp at h
 |_::_,[],_,_,_,_,h,_=>by simp at h
 |p::P,w::vs,0,m,nd,h1,h2,hk=>by
  simp at h1 h2;subst h1;subst h2
  show bindC kindOf ((p,w)::P.zip vs) m p=_
  unfold bindC
  rw[bindC_out fun v hv=>(List.nodup_cons.mp nd).1 (List.of_mem_zip hv).1,if_neg hk]
  simp
 |p::P,w::vs,i+1,m,nd,h1,h2,hk=>by
  show bindC kindOf ((p,w)::P.zip vs) m x=_
  unfold bindC
  exact bindC_get (i:=i) (List.nodup_cons.mp nd).2 (by simpa using h1) (by simpa using h2) hk
def start (N:List Str)(vs:List V):St:=vs.map some++List.replicate (N.length-vs.length) none
def cxOf (CX:CXT)(P:Program)(w:World)(K:W.Frag)(mg:Str->Option Value)(base:Heap)(N:List Str)(qual:Str)(scope:Scope)(f:Addr)(cd:Value)(A:Around)(outer:List Env)(s:Shared)(H:Hp)(E:XK):Cx where
 prog:=P
 w:=w
 K:=K
 mg:=mg
 base:=base
 A:=A.deeper (envOfC qual scope s.heap.objs.size f cd)
 N:=N
 s₀:=s
 H₀:=H
 env:=envOfC qual scope s.heap.objs.size f cd
 outer:=outer
 stack:=envOfC qual scope s.heap.objs.size f cd::outer
 ex:=[]
 calm:=true
 fn:=fun _=>true
 pn:=[]
 xe:=fun e s'=>wpAny (model P w) (A.deeper (envOfC qual scope s.heap.objs.size f cd)) (leaving (envOfC qual scope s.heap.objs.size f cd) e) (fun _ s''=>CX outer H s E e s'') (fun e' s''=>CX outer H s E e' s'') s'
theorem cell_has {sc:Scope}{n:Nat}{x:Str}(h:sc.names.lookup x=some .cell):∃c,(cellsFrom n sc.names []).lookup x=some c:=by
 have q:=W.cellsFrom_some sc.names n [] (.inl h)
 exact Option.isSome_iff_exists.mp q
theorem inv_start {CX:CXT}{P:Program}{w:World}{K:W.Frag}{mg:Str->Option Value}{base:Heap}{N ps:List Str}{qual:Str}{scope:Scope}{f:Addr}{cd:Value}{A:Around}{outer:List Env}{s s1:Shared}{H:Hp}{E:XK}{us:List Value}{vs:List V}
  (S:FnScope N ps scope) (hd:A.handled=none) (e0:Env0 P w K mg base A outer s H) (hl:vs.length=ps.length) (r:Vals vs us)
  (x:InCallC s s.heap.objs.size (bindL (envOfC qual scope s.heap.objs.size f cd).kindOf (ps.zip us) fun _=>none) (cellsFrom (s.heap.objs.size+1) scope.names []) (bindC (envOfC qual scope s.heap.objs.size f cd).kindOf (ps.zip us) fun _=>none) s1):
  Inv (cxOf CX P w K mg base N qual scope f cd A outer s H E) [] (start N vs) H s1:=by
 have hpl:ps.length<=N.length:=by have:=congrArg List.length S.pre;rw[List.length_take] at this;omega
 obtain⟨h1,tk,rfl,hk⟩:=x.done
 have noA:∀b:Addr,b∉(cxOf CX P w K mg base N qual scope f cd A outer s H E).ex:=fun b z=>absurd (show b∈([]:List Addr) from z) (by simp)
 refine⟨⟨e0.mod,S.kind,rfl,rfl,Nat.le_refl _,fun y z c h1 h2=>?_,fun y hy=>?_,fun y c _ h=>?_,fun _=>hd,Around.frames_deeper e0.frames,.inr ⟨rfl,rfl⟩,fun b z=>absurd z (noA b),e0.bs,e0.bsz,fun b _ _=>noA b,fun b z=>absurd z (noA b),e0.funs,e0.frf⟩,
  rfl,e0.bare,Un.kept hk,⟨_,x.toInCall.ns,fun i y v h1 h2 h3=>?_⟩,fun y c h=>⟨_,x.cell y c h⟩,e0.hok.fresh (Nat.le_refl _),fun y c h=>?_,fun p hp=>absurd (show p∈([]:List (Addr×Obj)) from hp) (by simp),e0.hok.kept hk,?_⟩
 ·exact name_of_addr x.apart (PySem.mem_of_lookup h1) (PySem.mem_of_lookup h2)
 ·have hy:scope.names.lookup y=some .cell\/scope.names.lookup y=some .free:=hy
  rcases hy with hy|hy
  ·exact cell_has hy
  ·exact absurd rfl (S.nofree _ (PySem.mem_of_lookup hy))
 ·exact Nat.le_of_lt (x.above y c (PySem.mem_of_lookup h))
 ·have hi:i<vs.length:=by
   unfold start at h2
   by_cases hi:i<vs.length
   ·exact hi
   ·rw[List.getElem?_append_right (by simpa using hi)] at h2
    rw[List.getElem?_replicate] at h2
    split at h2<;>cases h2
  have ha:vs[i]?=some v:=by
   unfold start at h2
   rw[List.getElem?_append_left (by simpa using hi),List.getElem?_map] at h2
   cases e:vs[i]? with
   |none=>rw[e] at h2;cases h2
   |some a=>rw[e] at h2;cases h2;rfl
  obtain⟨u,hu,rv⟩:=r.get ha
  have hp:ps[i]?=some y:=by
   rw[<- S.pre,List.getElem?_take_of_lt (by omega)];exact h1
  have ndP:ps.Nodup:=by rw[<- S.pre];exact S.nd.sublist (List.take_sublist _ _)
  refine⟨u,rv,?_⟩
  rcases S.par y (List.mem_of_getElem? hp) with k|k
  ·exact .inl ⟨k,bindL_get ndP hp hu k⟩
  ·obtain⟨c,e⟩:=cell_has (n:=s.heap.objs.size+1) k
   refine .inr ⟨.inl k,c,e,?_⟩
   have q:=x.cell y c e
   rw[bindC_get ndP hp hu (by show scope.names.lookup y≠_;rw[k];decide)] at q
   exact q
 ·exact e0.hok.fresh (Nat.le_of_lt (x.above y c (PySem.mem_of_lookup h)))
 ·unfold start
  show _=N.length
  rw[List.length_append,List.length_map,List.length_replicate]
  omega
theorem fn_of {CX:CXT}{P:Program}{w:World}{K:W.Frag}{mg:Str->Option Value}{base:Heap}{k:Nat}{f:Addr}{name qual:Str}{params:Arguments}{body:List Stmt}{scope:Scope}{dV kV doc pm cdv ct oc:Value}{an od:Option Addr}
  {osl:Array (Option Value)} {N ps:List Str} {sp:Sp} (lk:K.lookup f=some ⟨oc,od,.func (W.fnOf name qual params body scope dV kV doc pm an cdv ct),osl⟩) (hcd:W.codeIn K cdv qual=true) (S:FnScope N ps scope)
  (len:∀vs H Q E,sp vs H Q E->vs.length=ps.length)
  (hbody:∀(A:Around) (outer:List Env) (s:Shared) (H:Hp) (vs:List V) (Q:VK) (E:XK),Room k (A.deeper (envOfC qual scope s.heap.objs.size f cdv))->sp vs H Q E→
   ∃t,PSs (cxOf CX P w K mg base N qual scope f cdv A outer s H E) body t/\t { nx:=fun _ H'=>Q .non H',rt:=Q } (start N vs) H):
  FnOk P w K mg base CX (k+1) f (W.fnOf name qual params body scope dV kV doc pm an cdv ct) ps sp:=by
 refine⟨len,fun A outer s H args us vs Q E hr e0 hb r hsp=>?_⟩
 have hl:=len _ _ _ _ hsp
 have KX:K.In s.heap:=e0.mod.kin.keeps fun b o e=>(e0.bs b o e).1
 have lim:s.heap.NoLimit:=e0.mod.nolimit.keeps fun b o e=>(e0.bs b o e).1
 have hkind:∀y∈ps.zip us,scope.names.lookup y.1=some .local\/(scope.names.lookup y.1=some .cell/\((cellsFrom (s.heap.objs.size+1) scope.names []).lookup y.1).isSome=true):=fun⟨n,v⟩ hy=>by
  rcases S.par n (List.of_mem_zip hy).1 with q|q
  ·exact .inl q
  ·exact .inr ⟨q,W.cellsFrom_some _ _ _ (.inl q)⟩
 refine codeAny_call_function hr.depth (KX _ _ lk) rfl S.co S.gen rfl (W.codeRec_of KX hcd) (hb _ _ _ _ ?_)
 refine wpAny_newFunctionEnv_cells S.kind hkind fun env he s1 x=>?_
 subst he
 refine⟨lim.keeps x.toInCall.keep,codeAny_func ?_⟩
 obtain⟨t,ht,hq⟩:=hbody A outer s H vs Q E (hr.deeper _) hsp
 have I:Inv (cxOf CX P w K mg base N qual scope f cdv A outer s H E) [] (start N vs) H s1:=inv_start S hr.hd e0 hl r x
 refine wpAny_mono (ht [] s1 (start N vs) H _ I hq) (fun fl s' hs=>?_) fun e s' hs=>hs
 have fin:∀{σ':St} {H':Hp} {v:V} {u:Value},Inv (cxOf CX P w K mg base N qual scope f cdv A outer s H E) [] σ' H' s'->RelV v u->Q v H'->CE outer P w H s Q u s':=
  fun {σ' H' v u} J rv q=>⟨v,H',J.os,J.bare,J.base,J.hok,rv,q⟩
 cases fl with
 |ret u=>
  obtain⟨v,σ',H',J,rv,q⟩:=hs
  exact fin J rv q
 |next=>
  obtain⟨σ',H',J,q⟩:=hs
  exact fin (v:=V.non) (u:=Value.none) J rfl q
 |brk=>
  obtain⟨_,_,_,q⟩:=hs
  exact False.elim q
 |cont=>
  obtain⟨_,_,_,q⟩:=hs
  exact False.elim q
end L2
namespace L2
open PySem PySem.Spec PyProof.Rows
section
variable {X:Cx} {x:Str} {p pos:Pos} {e:Expr} {es:List Expr} {t:TA} {id T:String} {r:List V->Hp->VK->Prop}
def tCB (r:List V->Hp->VK->Prop)(t:TA):TE:=fun σ H Q=>t σ H fun vs H1=>r vs H1 Q
theorem pe_callB (hc:CallR X (.builtin id) r)(hg:Gl X x)(hm:X.mg x=none)(hv:bootBuiltins x=some (.builtin id))(ha:PA X (e::es) t)(hn:x≠"__name__":=by decide)(hdb:(x==("__debug__":Str))=false:=by decide)
  (he:starEach (e::es) X.env=(false,eval e X.env)::starEach es X.env:=by rfl) (hpl:(backTo pos (starEach es X.env)).any (·.1)=false:=by rfl):PE X (.Call (.Name x p) (e::es) [] pos) (tCB r t):=by
 intro pins s σ H Q I h
 refine wpAny_Call_Name_kw (ld_blt I hg hm hv ?_ hn hdb)
 exact PyProof.Rows.callWith_builtin1 (thn (ha pos pins s σ H _ I h) fun us s1 ⟨vs,H1,I1,r1,q1⟩=>hc pins s1 σ H1 vs us Q I1 r1 q1) he hpl
theorem pe_callTy (hc:CallR X (.type T) r)(hg:Gl X x)(hm:X.mg x=none)(hv:bootBuiltins x=some (.type T))(ha:PA X (e::es) t)(hn:x≠"__name__":=by decide)(hdb:(x==("__debug__":Str))=false:=by decide)
  (he:starEach (e::es) X.env=(false,eval e X.env)::starEach es X.env:=by rfl) (hpl:(backTo pos (starEach es X.env)).any (·.1)=false:=by rfl):PE X (.Call (.Name x p) (e::es) [] pos) (tCB r t):=by
 intro pins s σ H Q I h
 refine wpAny_Call_Name_kw (ld_blt I hg hm hv ?_ hn hdb)
 exact PyProof.Rows.callWith_type1 (thn (ha pos pins s σ H _ I h) fun us s1 ⟨vs,H1,I1,r1,q1⟩=>hc pins s1 σ H1 vs us Q I1 r1 q1) he hpl
end
end L2
namespace HT
open PySem PyProof.Rows
def lexLt:List Int->List Int->Bool
 | [],[]=>false
 | [],_::_=>true
 |_::_,[]=>false
 |x::xs,y::ys=>if x=y then lexLt xs ys else decide (x<y)
theorem lexLt_cons (x y:Int)(xs ys:List Int):lexLt (x::xs) (y::ys)=if x=y then lexLt xs ys else decide (x<y):=rfl
theorem lexLt_nil_nil:lexLt [] []=false:=rfl
theorem lexLt_cons_nil (x:Int)(xs:List Int):lexLt (x::xs) []=false:=rfl
section
variable {prog:Program} {w:World} {A:Around} {E:Value->Shared->Prop} {s:Shared}
theorem cat_tup {t b:Addr}{vs ws:List Value}{Q:Value->Shared->Prop}(ht:IsTup s.heap t vs.toArray)(hb:IsTup s.heap b ws.toArray)(hv:vs≠[])
  (h1:ws=[]->Q (.ref t) s) (h2:ws≠[]->Q (.ref s.heap.objs.size) { s with heap:=s.heap.push { cls:=.type "tuple",data:=.seq (vs++ws).toArray } })
  (hsz:vs.length+ws.length<=sizeLine):wpAny (model prog w) A (binaryOp .Add (.ref t) (.ref b)) Q E s:=by
 obtain⟨⟨cls,dd,data,sl⟩,ho,hc,n,hd⟩:=id ht
 obtain⟨⟨cls2,dd2,data2,sl2⟩,ho2,hc2,n2,hd2⟩:=id hb
 simp only at hc hd hc2 hd2
 subst hc hd hc2 hd2
 have e:vs.toArray++ws.toArray=(vs++ws).toArray:=by simp
 by_cases hw:ws=[]
 ·exact concat_meets ⟨_,ho,rfl⟩ ⟨_,ho2,rfl⟩ noFill_tuple_add seq_tuple_add PySem.F.slot_tuple_add PySem.F.entry_tuple_add (PySem.F.args_tuple_add_2 _ _)
   (tuple_addW1 t b vs.toArray ws.toArray n n2 dd dd2 sl sl2 (by simpa using hv) (by simp[hw])) ⟨ho,ho2,h1 hw⟩
 ·refine concat_meets ⟨_,ho,rfl⟩ ⟨_,ho2,rfl⟩ noFill_tuple_add seq_tuple_add PySem.F.slot_tuple_add PySem.F.entry_tuple_add (PySem.F.args_tuple_add_2 _ _)
   (tuple_addW2 t b vs.toArray ws.toArray n n2 dd dd2 sl sl2 (by simpa using hv) (by simpa using hw) (by rw[List.size_toArray,List.size_toArray];exact hsz)) ⟨ho,ho2,?_⟩
  rw[e]
  exact h2 hw
def sIx (n d:Nat):Option Int->Nat
 |none=>d
 |some v=>if v<0 then(v+(n:Int)).toNat else min v.toNat n
theorem sIx_none (n d:Nat):sIx n d none=d:=rfl
theorem sIx_nat (n d k:Nat):sIx n d (some (k:Int))=min k n:=by
 show(if (k:Int)<0 then((k:Int)+(n:Int)).toNat else min (k:Int).toNat n)=min k n
 rw[if_neg (by omega),Int.toNat_natCast]
theorem sIx_le (n d:Nat)(hd:d<=n)(o:Option Int):sIx n d o<=n:=by
 cases o with
 |none=>exact hd
 |some v=>
  show(if v<0 then(v+(n:Int)).toNat else min v.toNat n)<=n
  by_cases hv:v<0
  ·rw[if_pos hv];omega
  ·rw[if_neg hv];exact Nat.min_le_right _ _
theorem clip_eq (v:Int)(n d:Nat):(if v<0 then max (v+(n:Int)) 0 else min v (n:Int))=((sIx n d (some v):Nat):Int):=by
 show(if v<0 then max (v+(n:Int)) 0 else min v (n:Int))=(((if v<0 then(v+(n:Int)).toNat else min v.toNat n):Nat):Int)
 by_cases hv:v<0
 ·simp only[if_pos hv];omega
 ·simp only[if_neg hv];omega
theorem adjust_gen (lo hi:Option Int)(n:Nat):Builtin.Slice.sliceAdjust lo hi 1 (n:Int)=(((sIx n 0 lo:Nat):Int),((sIx n n hi:Nat):Int)):=by
 have h1:¬((1:Int)<0):=by omega
 unfold Builtin.Slice.sliceAdjust
 simp only[h1,if_false]
 refine Prod.ext ?_ ?_
 ·cases lo with
  |none=>rfl
  |some v=>exact clip_eq v n 0
 ·cases hi with
  |none=>rfl
  |some v=>exact clip_eq v n n
theorem places_gen (i j:Nat):Builtin.Slice.slicePlaces (i:Int) (j:Int) 1=j-i:=by
 unfold Builtin.Slice.slicePlaces
 have h1:(1:Int) > 0:=by omega
 simp only[h1,if_true,Int.ediv_one]
 split<;>omega
theorem slicePart_ {v:Value}{o:Option Int}{Q:Option Int->Shared->Prop}(p:IsPart v o)(h:Q o s):wpAny (model prog w) A (Builtin.Slice.slicePartIndex v) Q E s:=by
 cases p with
 |none=>exact slicePart_none h
 |int i t=>exact slicePart_int h
theorem sliceApplied_gen {sl:Addr}{vl vu:Value}{lo hi:Option Int}{n:Nat}{Q:Int×Int×Nat->Shared->Prop}(hs:s.heap.IsSliceOf sl vl vu .none)(pl:IsPart vl lo)(pu:IsPart vu hi)
  (h:Q (((sIx n 0 lo:Nat):Int),1,sIx n n hi-sIx n 0 lo) s):wpAny (model prog w) A (Builtin.Slice.sliceApplied (.ref sl) (pure (n:Int))) Q E s:=by
 obtain⟨os,hos,hcs,hds⟩:=id hs
 unfold Builtin.Slice.sliceApplied Builtin.Slice.sliceFields
 refine wpAny_bind (wpAny_bind (wpAny_field hos hds (x:=vl) rfl (wpAny_bind (wpAny_field hos hds (x:=vu) rfl (wpAny_bind (wpAny_field hos hds (x:=.none) rfl (wpAny_pure ?_)))))))
 refine wpAny_bind (slicePart_none ?_)
 show wpAny _ _ (if ((1:Int)==0)=true then _ else _) _ _ s
 rw[if_neg (by decide)]
 refine wpAny_bind (slicePart_ pl (wpAny_bind (slicePart_ pu (wpAny_bind (wpAny_pure ?_)))))
 show wpAny _ _ (match Builtin.Slice.sliceAdjust lo hi 1 (n:Int) with|(lo,hi)=>pure (lo,(1:Int),Builtin.Slice.slicePlaces lo hi 1)) _ _ s
 rw[adjust_gen lo hi n]
 show wpAny _ _ (pure (((sIx n 0 lo:Nat):Int),(1:Int),Builtin.Slice.slicePlaces ((sIx n 0 lo:Nat):Int) ((sIx n n hi:Nat):Int) 1)) _ _ s
 rw[places_gen]
 exact wpAny_pure h
theorem pick_gen (xs:Array Value)(i k:Nat):((List.range k).filterMap fun(m:Nat)=>xs[((i:Int)+(m:Int)*1).toNat]?).toArray=((xs.toList.drop i).take k).toArray:=by
 have e:(fun(m:Nat)=>xs[((i:Int)+(m:Int)*1).toNat]?)=fun m=>xs[i+m]?:=by
  funext m
  have:((i:Int)+(m:Int)*1).toNat=i+m:=by omega
  rw[this]
 rw[e]
 have:=pick_run xs i k
 rw[List.filterMap_map] at this
 have e2:((fun x=>xs[x]?) ∘ fun x=>i+x)=fun m=>xs[i+m]?:=rfl
 rw[e2] at this
 rw[this]
theorem getItem_tuple_cut {t sl:Addr}{items:Array Value}{vl vu:Value}{lo hi:Option Int}{Q:Value->Shared->Prop}(ht:IsTup s.heap t items)(hs:s.heap.IsSliceOf sl vl vu .none)(pl:IsPart vl lo)(pu:IsPart vu hi)
  (hw:¬(sIx items.size 0 lo=0/\sIx items.size items.size hi=items.size))
  (h:Q (.ref s.heap.objs.size) { s with heap:=s.heap.push { cls:=.type "tuple",data:=.seq ((items.toList.drop (sIx items.size 0 lo)).take (sIx items.size items.size hi-sIx items.size 0 lo)).toArray } })
  (hsz:items.size<=sizeLine):wpAny (model prog w) A (getItem (.ref t) (.ref sl)) Q E s:=by
 have htake:sizeOk (.seq ((items.toList.drop (sIx items.size 0 lo)).take (sIx items.size items.size hi-sIx items.size 0 lo)).toArray):=by
  show((items.toList.drop (sIx items.size 0 lo)).take (sIx items.size items.size hi-sIx items.size 0 lo)).toArray.size<=sizeLine
  rw[List.size_toArray,List.length_take,List.length_drop,Array.length_toList]
  omega
 have hj:sIx items.size items.size hi<=items.size:=sIx_le _ _ (Nat.le_refl _) hi
 obtain⟨os,hos,hcs,hds⟩:=id hs
 have hTs:s.TypeIs (.ref sl) "slice":=⟨os,hos,hcs⟩
 unfold getItem
 try with_reducible refine wpAny_holding ?_
 first|refine wpAny_bind (wpAny_pure ?_)|skip
 refine wpAny_bind (wpAny_sequenceKey ht.typeIs (by decide) ?_)
 refine wpAny_bind (wpAny_callSpecial?_slot (name:=Str.ofString "__getitem__") ht.typeIs PyProof.Rows.slot_tuple_getitem
  (wpAny_call_entry PyProof.Rows.slot_tuple_getitem ht.typeIs entry_tuple_getitem ?_ (args_tuple_getitem _ _)))
 show wpAny _ _ (Builtin.Tuple.tupleItemsOf (.ref t) >>= _) _ _ s
 refine wpAny_bind (tupleItemsOf_ ht ?_)
 refine wpAny_bind (wpAny_typeOf hTs ?_)
 rw[if_pos (by decide)]
 refine wpAny_bind (sliceApplied_gen hs pl pu ?_)
 have hno:¬((((sIx items.size 0 lo:Nat):Int)==0&&(1:Int)==1&&(sIx items.size items.size hi-sIx items.size 0 lo)==items.size)=true):=by
  intro q
  rw[Bool.and_eq_true,Bool.and_eq_true] at q
  have q1:((sIx items.size 0 lo:Nat):Int)=0:=eq_of_beq q.1.1
  have q2:sIx items.size items.size hi-sIx items.size 0 lo=items.size:=eq_of_beq q.2
  exact hw ⟨by omega,by omega⟩
 show wpAny _ _ (if (((sIx items.size 0 lo:Nat):Int)==0&&(1:Int)==1&&(sIx items.size items.size hi-sIx items.size 0 lo)==items.size)=true then _ else _) _ _ s
 rw[if_neg hno,pick_gen]
 first
  |exact wpAny_bind (m:=Builtin.Tuple.tupleExact _) (wpAny_newObj_type (wpAny_pure ⟨_,rfl,wpAny_pure h⟩) htake)
  |exact wpAny_bind (m:=Builtin.Tuple.tupleExact _) (wpAny_newObj_type (wpAny_bind (wpAny_pure (wpAny_pure ⟨_,rfl,wpAny_pure h⟩))) htake)
  |exact wpAny_bind (wpAny_bind (m:=Builtin.Tuple.tupleExact _) (wpAny_newObj_type (wpAny_pure (wpAny_pure ⟨_,rfl,wpAny_pure h⟩)) htake))
  |exact wpAny_bind (wpAny_bind (m:=Builtin.Tuple.tupleExact _) (wpAny_newObj_type (wpAny_pure ⟨_,rfl,wpAny_pure h⟩) htake))
end
end HT
namespace L2
open PySem PySem.Spec PyProof.Rows
abbrev TO:=St->Hp->(Option Int->Hp->Prop)->Prop
def PO (X:Cx)(e:Option Expr)(t:TO):Prop:=
 ∀(pins:List (Addr×Obj)) (s:Shared) (σ:St) (H:Hp) (Q:Option Int->Hp->Prop),Inv X pins σ H s->t σ H Q→
  wpAny (model X.prog X.w) X.A (evalPart e X.env) (fun u s'=>∃o H',Inv X pins σ H' s'/\IsPart u o/\Q o H') X.xe s
def tNoPart:TO:=fun _ H Q=>Q none H
def tPart (t:TE):TO:=fun σ H Q=>t σ H fun x H1=>∃i,x=.int i/\Q (some i) H1
theorem intsAre_of {ns:List Int}:∀{us:List Value},Vals (ns.map V.int) us->IntsAre us ns:=by
 induction ns with
 |nil=>intro us r;rw[List.map_nil] at r;cases r;exact .nil
 |cons n ns ih=>
  intro us r
  rw[List.map_cons] at r
  cases r with
  |cons r1 r2=>
   obtain⟨t,e⟩:=r1
   subst e
   exact .cons n t (ih r2)
section
variable {X:Cx} {e:Expr} {te:TE} {lo hi:Option Expr} {tl th:TO} {pos p2:Pos}
theorem po_none:PO X none tNoPart:=by
 intro pins s σ H Q I h
 rw[evalPart_none]
 exact wpAny_pure ⟨none,H,I,.none,h⟩
theorem po_some (h:PE X e te):PO X (some e) (tPart te):=by
 intro pins s σ H Q I hw
 rw[evalPart_some]
 refine thn (h pins s σ H _ I hw) fun u s1 hq9=>?_
 obtain⟨x,H1,I1,r1,q1⟩:=hq9
 obtain⟨i,rfl,q⟩:=q1
 obtain⟨t,rfl⟩:=r1
 exact⟨some i,H1,I1,.int i t,q⟩
def SlR (X:Cx)(r:V->Option Int->Option Int->Hp->VK->Prop):Prop:=
 ∀(pins:List (Addr×Obj)) (s:Shared) (σ:St) (H:Hp) (x:V) (v vl vu:Value) (lo hi:Option Int) (sl:Addr) (Q:VK),Inv X pins σ H s->RelV x v->s.heap.IsSliceOf sl vl vu .none->IsPart vl lo->IsPart vu hi->r x lo hi H Q→
  ∃T id,typeLookup (.type T) "__getitem__"=pure (some (.builtin id))/\s.TypeIs v T/\wpAny (model X.prog X.w) X.A (getItem v (.ref sl)) (EP X pins σ Q) X.xe s
def tSl (r:V->Option Int->Option Int->Hp->VK->Prop)(te:TE)(tl th:TO):TE:=fun σ H Q=>te σ H fun x H1=>tl σ H1 fun l H2=>th σ H2 fun u H3=>r x l u H3 Q
theorem pe_slice {r:V->Option Int->Option Int->Hp->VK->Prop}(hr:SlR X r)(he:PE X e te)(hl:PO X lo tl)(hu:PO X hi th):PE X (.Subscript e (.Slice lo hi none p2) pos) (tSl r te tl th):=by
 intro pins s σ H Q I h
 refine Subscript_ (thn (he pins s σ H _ I h) fun v s1 ⟨x,H1,I1,r1,q1⟩=>?_)
 refine wpAny_Slice (thn (hl pins s1 σ H1 _ I1 q1) fun vl s2 ⟨l,H2,I2,pl,q2⟩=>thn (hu pins s2 σ H2 _ I2 q2) fun vu s3 ⟨u,H3,I3,pu,q3⟩=>?_)
 rw[evalPart_none]
 refine wpAny_pure ?_
 have I4:Inv X pins σ H3 { s3 with heap:=s3.heap.push { cls:=.type "slice",data:=.fields #[vl,vu,.none] } }:=I3.kept (t':=s3.toks) fun b ob q=>Heap.get?_push_of_some _ q
 obtain⟨T,id,hT,ht,hg⟩:=hr pins { s3 with heap:=s3.heap.push { cls:=.type "slice",data:=.fields #[vl,vu,.none] } } σ H3 x v vl vu l u s3.heap.objs.size Q I4 r1 (Heap.IsSliceOf.new ..) pl pu q3
 show wpAny (model X.prog X.w) X.A (subscriptTail e (.Slice lo hi none p2) v (.ref s3.heap.objs.size)) (EP X pins σ Q) X.xe { s3 with heap:=s3.heap.push { cls:=.type "slice",data:=.fields #[vl,vu,.none] } }
 exact tail_any (ops:=[.ref s3.heap.objs.size,v]) ht hT hg (by with_unfolding_all rfl)
def cutV (xs:List V)(lo hi:Option Int):List V:=(xs.drop (HT.sIx xs.length 0 lo)).take (HT.sIx xs.length xs.length hi-HT.sIx xs.length 0 lo)
theorem cutV_length (xs:List V)(lo hi:Option Int):(cutV xs lo hi).length<=xs.length:=by
 unfold cutV
 rw[List.length_take,List.length_drop]
 omega
def rSlT (K:W.Frag):V->Option Int->Option Int->Hp->VK->Prop:=fun x lo hi H Q=>∃a xs,x=.ref a/\SqT K H a xs∧
 ¬(HT.sIx xs.length 0 lo=0/\HT.sIx xs.length xs.length hi=xs.length)/\∀p,H p=none->Q (.ref p) (upd H p (.tup (cutV xs lo hi)))
theorem sl_tup:SlR X (rSlT X.K):=by
 intro pins s σ H x v vl vu lo hi sl Q I rx hs pl pu h
 obtain⟨a,xs,rfl,hx,hw,q⟩:=h
 cases rx
 obtain⟨its,r,ht,hz⟩:=I.tuple hx
 have hlen:its.toArray.size=xs.length:=by rw[List.size_toArray];exact r.length.symm
 refine⟨"tuple",_,PyProof.Rows.slot_tuple_getitem.lookup,ht.typeIs,?_⟩
 refine HT.getItem_tuple_cut ht hs pl pu (by rw[hlen];exact hw) ?_ (by rw[hlen];exact hz)
 rw[hlen]
 refine⟨.ref s.heap.objs.size,_,I.laid (t':=s.toks) (o:=.tup (cutV xs lo hi)) (fun b ob q=>Heap.get?_push_of_some _ q) (Nat.le_refl _) ?_,rfl,q _ (I.hok.fresh (Nat.le_refl _))⟩
 exact⟨Nat.le_trans (cutV_length xs lo hi) hz,_,(r.drop (HT.sIx xs.length 0 lo)).take (HT.sIx xs.length xs.length hi-HT.sIx xs.length 0 lo),IsTup.new _ _⟩
def rCatT (K:W.Frag):R2:=fun x y H Q=>∃a b xs ys,x=.ref a/\y=.ref b/\SqT K H a xs/\SqT K H b ys/\xs≠[]/\xs.length+ys.length<=sizeLine∧
 (ys=[]->Q (.ref a) H)/\(ys≠[]->∀p,H p=none->Q (.ref p) (upd H p (.tup (xs++ys))))
theorem Vals.nil_iff {xs:List V}{us:List Value}(r:Vals xs us):us=[]↔xs=[]:=by
 cases r with
 |nil=>simp
 |cons _ _=>simp
theorem op_catT:OpR X (binaryOp .Add) (rCatT X.K):=by
 intro pins s σ H x y v u Q I rx ry h
 obtain⟨a,b,xs,ys,rfl,rfl,ha,hb,hx,hz,q1,q2⟩:=h
 cases rx
 cases ry
 obtain⟨its,r1,p1,_⟩:=I.tuple ha
 obtain⟨its2,r2,p2,_⟩:=I.tuple hb
 refine HT.cat_tup p1 p2 (fun z=>hx (r1.nil_iff.mp z)) (fun z=>⟨.ref a,H,I,rfl,q1 (r2.nil_iff.mp z)⟩) (fun z=>?_) (by rw[<- r1.length,<- r2.length];exact hz)
 refine⟨.ref s.heap.objs.size,_,I.laid (t':=s.toks) (o:=.tup (xs++ys)) (fun b ob q=>Heap.get?_push_of_some _ q) (Nat.le_refl _) ?_,rfl,q2 (fun w=>z (r2.nil_iff.mpr w)) _ (I.hok.fresh (Nat.le_refl _))⟩
 exact⟨by rw[List.length_append];exact hz,_,r1.append r2,IsTup.new _ _⟩
end
end L2
namespace L2
open PySem PySem.Spec PyProof.Rows
def ixN (n:Nat)(i:Int):Option Nat:=if 0<=i then(if i<n then some i.toNat else none) else if -(n:Int)<=i then some (i+n).toNat else none
def atI {α:Type}(xs:List α)(i:Int):Option α:=(ixN xs.length i).bind fun j=>xs[j]?
theorem ixN_seq {n:Nat}{i:Int}{j:Nat}(h:ixN n i=some j):seqIndex? i n=some j/\j<n/\-(n:Int)<=i/\i<n:=by
 unfold ixN at h
 by_cases h0:0<=i
 ·rw[if_pos h0] at h
  by_cases h1:i<n
  ·rw[if_pos h1] at h
   have e:i.toNat=j:=Option.some.inj h
   exact⟨by rw[seqIndex_of h0 h1,e],by omega,by omega,h1⟩
  ·rw[if_neg h1] at h;cases h
 ·rw[if_neg h0] at h
  by_cases h1:-(n:Int)<=i
  ·rw[if_pos h1] at h
   have e:(i+n).toNat=j:=Option.some.inj h
   exact⟨by rw[seqIndex_neg (by omega) h1,e],by omega,h1,by omega⟩
  ·rw[if_neg h1] at h;cases h
theorem atI_get {α:Type}{xs:List α}{i:Int}{v:α}(h:atI xs i=some v):∃j,seqIndex? i xs.length=some j/\xs[j]?=some v/\j<xs.length/\-(xs.length:Int)<=i/\i<xs.length:=by
 unfold atI at h
 cases e:ixN xs.length i with
 |none=>rw[e] at h;cases h
 |some j=>
  rw[e] at h
  obtain⟨h1,h2,h3,h4⟩:=ixN_seq e
  exact⟨j,h1,h,h2,h3,h4⟩
theorem atI_nat {α:Type}{xs:List α}{j:Nat}{v:α}(h:xs[j]?=some v):atI xs (j:Int)=some v:=by
 have hj:j<xs.length:=(List.getElem?_eq_some_iff.mp h).1
 have e:ixN xs.length (j:Int)=some j:=by
  unfold ixN
  rw[if_pos (by omega),if_pos (by omega)];simp
 unfold atI;rw[e];exact h
def PlainIx (b:Expr):Prop:=∀o i,subscripted b false o i=operate [o,i] (getItem o i)
def IxR (X:Cx)(r:R2):Prop:=
 ∀(value slice:Expr) (pins:List (Addr×Obj)) (s:Shared) (σ:St) (H:Hp) (x y:V) (v u:Value) (Q:VK),Inv X pins σ H s->RelV x v->RelV y u->r x y H Q→
  subscripted slice false v u=operate [v,u] (getItem v u)->wpAny (model X.prog X.w) X.A (subscriptTail value slice v u) (EP X pins σ Q) X.xe s
def MtR (X:Cx)(id:String)(r:V->List V->Hp->VK->Prop):Prop:=
 ∀(pins:List (Addr×Obj)) (s:Shared) (σ:St) (H:Hp) (x:V) (xs:List V) (v:Value) (us:List Value) (Q:VK),Inv X pins σ H s->RelV x v->Vals xs us->r x xs H Q→
  wpAny (model X.prog X.w) X.A (call (.builtin id) (v::us)) (EP X pins σ Q) X.xe s
section
variable {X:Cx} {a b:Expr} {ta tb:TE} {pos:Pos}
theorem pe_ix {r:R2}(hr:IxR X r)(ha:PE X a ta)(hb:PE X b tb)(hs:PlainIx b):PE X (.Subscript a b pos) (tOp r ta tb):=by
 intro pins s σ H Q I h
 exact Subscript_ (binT ha hb I h fun v u s2 x y H2 I2 rx ry q=>hr a b pins s2 σ H2 x y v u Q I2 rx ry q (hs _ _))
def rIxL (K:W.Frag):R2:=fun x y H Q=>∃p xs i v,x=.ref p/\y=.int i/\SqL K H p xs/\atI xs i=some v/\Q v H
def rIxT (K:W.Frag):R2:=fun x y H Q=>∃p xs i v,x=.ref p/\y=.int i/\SqT K H p xs/\atI xs i=some v/\Q v H
theorem ix_list:IxR X (rIxL X.K):=by
 intro value slice pins s σ H x y v u Q I rx ry h hs
 obtain⟨p,xs,i,z,rfl,rfl,hq,he,q⟩:=h
 cases rx
 obtain⟨t,rfl⟩:=ry
 obtain⟨its,r,pl,hz⟩:=I.list hq
 obtain⟨j,h1,h2,h3,h4,h5⟩:=atI_get he
 obtain⟨w,ew,rw'⟩:=r.get h2
 have hl:=r.length
 have hn:=line63
 have fin:EP X pins σ Q w s:=⟨z,H,I,rw',q⟩
 by_cases h0:0<=i
 ·have hj:i.toNat=j:=by
   rw[seqIndex_of h0 h5] at h1
   exact Option.some.inj h1
  exact item_listR pl.isList h0 (by omega) (by rw[hj];simpa using ew) fin hs
 ·have hj:(i+(its.toArray.size:Int)).toNat=j:=by
   rw[seqIndex_neg (by omega) h4] at h1
   rw[List.size_toArray,<- hl]
   exact Option.some.inj h1
  exact subscriptTail_builtinR (x:=w) pl.isList.typeIs slot_list_getitem.lookup
   (wpAny_getItem_list_neg (Q:=fun r s'=>r=w/\EP X pins σ Q r s') pl.isList (by omega) (by rw[List.size_toArray]<;>omega) (by omega) (by rw[hj];simpa using ew) ⟨rfl,fin⟩) hs
theorem ix_tup:IxR X (rIxT X.K):=by
 intro value slice pins s σ H x y v u Q I rx ry h hs
 obtain⟨p,xs,i,z,rfl,rfl,hq,he,q⟩:=h
 cases rx
 obtain⟨t,rfl⟩:=ry
 obtain⟨its,r,pl,hz⟩:=I.tuple hq
 obtain⟨j,h1,h2,h3,h4,h5⟩:=atI_get he
 obtain⟨w,ew,rw'⟩:=r.get h2
 have hl:=r.length
 have hn:=line63
 have fin:EP X pins σ Q w s:=⟨z,H,I,rw',q⟩
 exact subscriptTail_builtinR (x:=w) pl.typeIs slot_tuple_getitem.lookup
  (getItem_tuple (j:=j) (Q:=fun r s'=>r=w/\EP X pins σ Q r s') pl (by omega) (by omega) (by rw[List.size_toArray,<- hl];exact h1) (by simpa using ew) ⟨rfl,fin⟩) hs
def flatV:V->Bool
 |.non=>true
 |.bl _=>true
 |.int _=>true
 |.str _=>true
 |_=>false
def eqV:V->V->Bool
 |.non,.non=>true
 |.bl a,.bl b=>a==b
 |.bl a,.int b=>(if a then 1 else 0)==b
 |.int a,.bl b=>a==(if b then 1 else 0)
 |.int a,.int b=>a==b
 |.str a,.str b=>a==b
 |_,_=>false
theorem eqAt_V {A:Around}{s:Shared}{y x:V}{u v:Value}(ry:RelV y u)(rx:RelV x v)(fy:flatV y=true)(fx:flatV x=true):SeqAt.EqAt A s u v (eqV y x):=by
 cases y with
 |non=>
  cases ry
  cases x with
  |non=>cases rx;exact SeqAt.EqAt.same _
  |bl b=>cases rx;exact SeqAt.EqAt.none_bool b
  |int b=>obtain⟨t,rfl⟩:=rx;exact SeqAt.EqAt.none_int b t
  |str b=>obtain⟨t,rfl⟩:=rx;exact SeqAt.EqAt.none_str b t
  |_=>exact absurd (show false=true from fx) Bool.false_ne_true
 |bl a=>
  cases ry
  cases x with
  |non=>cases rx;exact SeqAt.EqAt.bool_none a
  |bl b=>cases rx;exact SeqAt.EqAt.bool_bool a b
  |int b=>obtain⟨t,rfl⟩:=rx;exact SeqAt.EqAt.bool_int a b t
  |str b=>obtain⟨t,rfl⟩:=rx;exact SeqAt.EqAt.bool_str a b t
  |_=>exact absurd (show false=true from fx) Bool.false_ne_true
 |int a=>
  obtain⟨t',rfl⟩:=ry
  cases x with
  |non=>cases rx;exact SeqAt.EqAt.int_none a t'
  |bl b=>cases rx;exact SeqAt.EqAt.int_bool a t' b
  |int b=>obtain⟨t,rfl⟩:=rx;exact SeqAt.EqAt.int_int a t' b t
  |str b=>obtain⟨t,rfl⟩:=rx;exact SeqAt.EqAt.int_str a t' b t
  |_=>exact absurd (show false=true from fx) Bool.false_ne_true
 |str a=>
  obtain⟨t',rfl⟩:=ry
  cases x with
  |non=>cases rx;exact SeqAt.EqAt.str_none a t'
  |bl b=>cases rx;exact SeqAt.EqAt.str_bool a t' b
  |int b=>obtain⟨t,rfl⟩:=rx;exact SeqAt.EqAt.str_int a t' b t
  |str b=>obtain⟨t,rfl⟩:=rx;exact SeqAt.EqAt.str_str a t' b t
  |_=>exact absurd (show false=true from fx) Bool.false_ne_true
 |_=>exact absurd (show false=true from fy) Bool.false_ne_true
theorem call_len_seq:CallR X (.builtin "len") (fun xs H Q=>∃p ys,xs=[.ref p]/\(SqL X.K H p ys\/SqT X.K H p ys)/\Q (.int ys.length) H):=by
 intro pins s σ H xs us Q I r h
 obtain⟨p,ys,rfl,hq,q⟩:=h
 obtain⟨u,rfl,rx⟩:=vals1 r
 cases rx
 have hn:=line63
 rcases hq with hq|hq
 ·obtain⟨its,r',pl,hz⟩:=I.list hq
  have hlen:=r'.length
  exact Calls.call_len_list pl.isList (by simp only[List.size_toArray]<;>omega) ⟨.int ys.length,H,I.tok _,⟨s.toks+1,by rw[List.size_toArray,hlen]⟩,q⟩
 ·obtain⟨its,r',pl,hz⟩:=I.tuple hq
  have hlen:=r'.length
  exact len_tuple pl (by simp only[List.size_toArray]<;>omega) ⟨.int ys.length,H,I.tok _,⟨s.toks+1,by rw[List.size_toArray,hlen]⟩,q⟩
theorem call_tuple_of:CallR X (.type "tuple") (fun xs H Q=>∃p ys,xs=[.ref p]/\((SqL X.K H p ys/\∀l,H l=none->Q (.ref l) (upd H l (.tup ys)))\/(SqT X.K H p ys/\Q (.ref p) H))):=by
 intro pins s σ H xs us Q I r h
 obtain⟨p,ys,rfl,h⟩:=h
 obtain⟨u,rfl,rx⟩:=vals1 r
 cases rx
 rcases h with⟨hq,q⟩|⟨hq,q⟩
 ·obtain⟨its,r',pl,hz⟩:=I.list hq
  have hlen:=r'.length
  refine call_tuple_list pl.isList (fun h' kp=>?_) (by simp only[List.size_toArray]<;>omega)
  have I1:Inv X pins σ H { s with heap:=h' }:=I.kept (t':=s.toks) kp
  have I2:Inv X pins σ (upd H h'.objs.size (.tup ys)) { s with heap:=h'.push { cls:=.type "tuple",data:=.seq its.toArray } }:=
   I1.laid (t':=s.toks) (fun b o e=>Heap.get?_push_of_some _ e) (Nat.le_refl _) (show ObjOk X.prog X.w _ _ _ (.tup ys) from⟨hz,its,r',IsTup.new _ _⟩)
  exact⟨.ref h'.objs.size,_,I2,rfl,q _ (I1.hok.fresh (Nat.le_refl _))⟩
 ·obtain⟨its,r',pl,hz⟩:=I.tuple hq
  exact call_tuple_same pl ⟨.ref p,H,I,rfl,q⟩
def tyV (K:W.Frag)(T:String)(x:V)(H:Hp):Prop:=match x with
 |.str _=>T="str"
 |.int _=>T="int"
 |.ref p=>(T="list"/\∃xs,SqL K H p xs)\/(T="tuple"/\∃o,K.lookup p=some o/\o.cls=.type "tuple"/\o.dict=none)∨
   (T="dict"/\((∃kvs,H p=some (.dK kvs))\/∃kvs,H p=some (.dT kvs)))\/(T="set"/\∃S n,H p=some (.set S n))
 |_=>False
theorem tyV_is {pins:List (Addr×Obj)}{σ:St}{H:Hp}{s:Shared}{T:String}{x:V}{v:Value}(I:Inv X pins σ H s)(r:RelV x v)(ty:tyV X.K T x H):
  s.TypeIs v T/\∀a,v=.ref a->∃ob,s.heap.get? a=some ob/\ob.dict=none:=by
 cases x with
 |str z=>
  obtain⟨t,rfl⟩:=r
  cases(show T="str" from ty)
  exact⟨typeIs_str s z t,fun _ e=>nomatch e⟩
 |int i=>
  obtain⟨t,rfl⟩:=r
  cases(show T="int" from ty)
  exact⟨typeIs_int s i t,fun _ e=>nomatch e⟩
 |ref p=>
  cases r
  rcases ty with⟨rfl,xs,hq⟩|⟨rfl,o,hk,hc,hd⟩|⟨rfl,hk⟩|⟨rfl,S,n,hk⟩
  ·obtain⟨its,_,pl,_⟩:=I.list hq
   refine⟨pl.isList.typeIs,fun a e=>?_⟩
   cases e
   obtain⟨o,n,e,c,hd,_⟩:=pl
   exact⟨o,e,hd⟩
  ·refine⟨⟨o,I.kIn p o hk,hc⟩,fun a e=>?_⟩
   cases e
   exact⟨o,I.kIn _ o hk,hd⟩
  ·have z:∃o,s.heap.get? p=some o/\o.ExactDict:=by
    rcases hk with⟨kvs,hk⟩|⟨kvs,hk⟩
    ·obtain⟨_,_,_,_,o,_,_,e,ex,_⟩:=I.hok p _ hk
     exact⟨o,e,ex⟩
    ·obtain⟨_,_,_,_,o,_,_,e,ex,_⟩:=I.hok p _ hk
     exact⟨o,e,ex⟩
   obtain⟨o,e,ex⟩:=z
   refine⟨⟨o,e,ex.1⟩,fun a e2=>?_⟩
   cases e2
   exact⟨o,e,ex.2.1⟩
  ·obtain⟨o,_,_,_,e,ex,_⟩:=I.hok p _ hk
   refine⟨⟨o,e,ex.1⟩,fun a e2=>?_⟩
   cases e2
   exact⟨o,e,ex.2.1⟩
 |_=>exact False.elim ty
def tBM (K:W.Frag)(T:String)(r:V->List V->Hp->VK->Prop)(to:TE)(t:TA):TE:=fun σ H Q=>to σ H fun x H1=>tyV K T x H1/\t σ H1 fun xs H2=>r x xs H2 Q
variable {o e:Expr} {es:List Expr} {to:TE} {t:TA} {name:Str} {apos cpos:Pos} {T id:String} {r:V->List V->Hp->VK->Prop}
theorem pe_bm (pa:PlainAttrs T)(slot:Slot T name id)(hty:typeOf (.builtin id)=pure (.type "method_descriptor"))(hm:MtR X id r)(ho:PE X o to)(ha:PA X (e::es) t)
  (hbase:attributeBase o name X.env (eval o X.env)=eval o X.env:=by rfl)
  (hfew:((backTo cpos (starEach (e::es) X.env)).all (fun x=>!x.1)&&(backToKw cpos (keywordEach [] X.env)).all (fun x=>x.1.isSome)
   &&decide ((e::es).length+([]:List Keyword).length+(if ([]:List Keyword).isEmpty then 0 else 1)<30))=true:=by rfl)
  (hline:(apos.endLine==cpos.line)=true:=by rfl) (hs:starEach (e::es) X.env=(false,eval e X.env)::starEach es X.env:=by rfl) (hplain:(backTo cpos (starEach es X.env)).any (·.1)=false:=by rfl):
  PE X (.Call (.Attribute o name apos) (e::es) [] cpos) (tBM X.K T r to t):=by
 intro pins s σ H Q I h
 refine wpAny_Call_method_late hbase hfew hline rfl (thn (ho pins s σ H _ I h) fun v s1 ⟨x,H1,I1,r1,ty,q1⟩=>?_)
 obtain⟨h1,h2⟩:=tyV_is I1 r1 ty
 refine⟨T,id,pa,slot,hty,h1,h2,?_⟩
 have hA:=ha cpos pins s1 σ H1 _ I1 q1
 rw[hs] at hA ⊢
 refine Calls.callWith_builtin (by show(false||(backTo cpos (starEach es X.env)).any (·.1))=false;rw[hplain]<;>rfl) (Calls.evalArgs_plain ?_)
 exact thn hA fun us s2 ⟨vs,H2,I2,r2,q2⟩=>hm pins s2 σ H2 x vs v us Q I2 r1 r2 q2
end
end L2
namespace L2
open PySem PySem.Spec PyProof.Rows
def MtM (X:Cx)(id:String)(r:V->List V->Hp->VK->Prop):Prop:=
 ∀(pins:List (Addr×Obj)) (s:Shared) (σ:St) (H:Hp) (x:V) (xs:List V) (v:Value) (us:List Value) (Q:VK),Inv X pins σ H s->RelV x v->Vals xs us->r x xs H Q→
  wpAny (model X.prog X.w) X.A (call (.builtin id) (v::us)) (EP X pins σ Q) X.xe s
theorem Vals.one:∀{x:V} {us:List Value},Vals [x] us->∃u,us=[u]/\RelV x u
 |_,_,.cons r .nil=>⟨_,rfl,r⟩
theorem Vals.two:∀{x y:V} {us:List Value},Vals [x,y] us->∃u v,us=[u,v]/\RelV x u/\RelV y v
 |_,_,_,.cons r (.cons q .nil)=>⟨_,_,rfl,r,q⟩
section
variable {X:Cx} {pins:List (Addr×Obj)} {σ:St} {H:Hp} {s:Shared} {l b:Addr} {xs ys zs:List V}
theorem Inv.lset {its its':List Value}{n:Nat}{f:Array Value->Array Value}{t':Nat}(I:Inv X pins σ H s)(hH:H l=some (.lst xs))
  (e:s.heap.get? l=some { cls:=.type "list",data:=.seq its.toArray n }) (hf:f its.toArray=its'.toArray) (hv:Vals ys its') (hz:ys.length<=sizeLine):
  Inv X pins σ (upd H l (.lst ys)) { s with heap:=s.heap.update l (Obj.mapSeq f),toks:=t' }:=by
 have q:=PySem.IsL.update e f
 rw[hf] at q
 refine I.write (x:=l) (e:=l) (by rw[hH];exact trivial) (.inl rfl) (fun b' u hb hu=>(Heap.get?_update_other s.heap (Obj.mapSeq f) (Ne.symm hb)).trans hu) ⟨_,q⟩ ?_
 exact⟨hz,its',_,hv,q⟩
theorem Inv.lnew {its:List Value}{t':Nat}(I:Inv X pins σ H s)(hv:Vals ys its)(hz:ys.length<=sizeLine):
  Inv X pins σ (upd H s.heap.objs.size (.lst ys)) { s with heap:=s.heap.push { cls:=.type "list",data:=.seq its.toArray },toks:=t' }:=
 I.laid (fun _ _ q=>Heap.get?_push_of_some _ q) (Nat.le_refl _) ⟨hz,its,0,hv,Heap.get?_push_size _ rfl⟩
theorem Inv.lstM (I:Inv X pins σ H s)(hH:H l=some (.lst xs)):xs.length<=sizeLine/\∃(its:List Value) (n:Nat),Vals xs its/\xs.length=its.length/\s.heap.get? l=some { cls:=.type "list",data:=.seq its.toArray n }:=by
 obtain⟨z,its,n,r,e⟩:=I.hok l _ hH
 exact⟨z,its,n,r,r.length,e⟩
end
section
variable {X:Cx}
def rAppend:V->List V->Hp->VK->Prop:=fun x vs H Q=>∃l xs y,x=.ref l/\vs=[y]/\H l=some (.lst xs)/\xs.length<sizeLine/\Q .non (upd H l (.lst (xs++[y])))
theorem mt_append:MtM X "list.append" rAppend:=by
 intro pins s σ H x vs v us Q I rx rv h
 obtain⟨l,xs,y,rfl,rfl,hH,hz,q⟩:=h
 cases rx
 obtain⟨u,rfl,ru⟩:=rv.one
 obtain⟨z,its,n,r,hl,e⟩:=I.lstM hH
 refine call_meets F.slot_list_append ⟨_,e,rfl⟩ F.entry_list_append (F.args_list_append_2 _ _) (PySem.list_append l its.toArray n u (by rw[List.size_toArray];omega)) ⟨e,?_⟩
 refine⟨.non,_,I.lset (its':=its++[u]) hH e (by simp) (r.append (.cons ru .nil)) ?_,rfl,q⟩
 rw[List.length_append,List.length_singleton]
 omega
end
end L2
namespace Att
open PySem PySem.W PySem.Calls PyProof.Rows
theorem ints_of_wellAll {P:Params}{h:Heap}:∀(ns:List Int) (vs:List Value),WellAll P h vs (ns.map WData.int)->IntsAre vs ns:=by
 intro ns
 induction ns with
 |nil=>
  intro vs w
  rw[List.map_nil] at w
  cases w
  exact .nil
 |cons n ns ih=>
  intro vs w
  rw[List.map_cons] at w
  cases w with
  |cons a b=>
   cases a
   exact .cons _ _ (ih _ b)
theorem script_of {l:OpenLaw}{n:Nat}(hn:l.most=some n){P:Params}{h:Heap}{args:List WData}{vals:List Value}
  (hpre:l.row.toRowW.claim.pre args=true) (hwl:WellAll P h vals args):
  ∃a vs ns,vals=[Value.ref a]/\args=[WData.list (ns.map WData.int)]/\h.get? a=some { cls:=.type "list",data:=.seq vs.toArray }/\IntsAre vs ns/\ns.length<=n:=by
 have hsh:WShape.hasAll [] args [.list .int]=true:=(pre_splitW hpre).1
 have hc:l.pre.holds [] { args:=args }=true:=(pre_splitW hpre).2
 obtain⟨d,r,rfl,h1,h2⟩:=hasAllW_cons hsh
 obtain rfl:=hasAllW_nil h2
 obtain⟨xs,rfl,h3⟩:=hasW_list h1
 obtain⟨ns,rfl⟩:=items_int h3
 have hlen:ns.length<=n:=by
  unfold OpenLaw.pre at hc
  have h4:(WTm.not (.lt (.lit (.int (n:Int))) (.len (.arg 0)))).holds [] { args:=[.list (ns.map .int)] }=true:=by
   have h4:=(holds_andW hc).1
   rw[hn] at h4
   exact h4
  have h5:=condW_of h4 (w_not (w_lt w_lit (w_len_list (w_arg rfl))))
  rw[List.length_map] at h5
  refine Nat.le_of_not_lt fun q=>?_
  have q':(n:Int)<((ns.length:Nat):Int):=by omega
  first
   | (rw[decide_eq_true q'] at h5;exact absurd h5 (by decide))
   | (simp at h5;omega)
 cases hwl with
 |cons w1 w2=>
  cases w2
  cases w1 with
  |list ho hall=>exact⟨_,_,ns,rfl,rfl,ho,ints_of_wellAll ns _ hall,hlen⟩
theorem post_true (l:OpenLaw)(args:List WData):l.row.toRowW.claim.post args (.bool true) args=true:=
 postW_of (r:=l.row.toRowW) (X:=(true==true))
  (show WShape.has [] (.bool true) .bool=true by first|rfl|decide|simp[WShape.has,WShape.arms,WShape.armsAll])
  (show(WTm.eq .res (.lit (.bool true))).value [] { args:=args,res:=some (.bool true),after:=args }=some (.bool (true==true)) from w_eq_bool (w_res rfl) w_lit) rfl
theorem attach_call {l:OpenLaw}{n:Nat}{q:Program}{loose:List Str}{XP:(Str->Option Value)->Heap->Prop}{YP:World->Heap->Prop}{d:DefRec}
  (hn:l.most=some n) (hdf:d.params.defaults=[])
  (call:∀(w:World) (s₀ s₁:Shared) (mg mb:Str->Option Value) (fa:Addr) (o:Obj) (pm cd doc:Value) (a:Addr) (vs:List Value) (ns:List Int),
   Ground q loose [] XP w s₀ mg mb s₁.heap->YP w s₁.heap→
   s₁.heap.get? fa=some o->o.data=.func (docDef d.name d.params d.body d.scope pm cd doc)->s₁.heap.CodeRec cd d.name->mg d.name=some (.ref fa)→
   s₁.heap.get? a=some { cls:=.type "list",data:=.seq vs.toArray }->IntsAre vs ns->ns.length<=n->s₁.gens=#[]→
   codeAny (model l.prog w) callerA (.call (.ref fa) ⟨[.ref a],[]⟩) (fun r s'=>r=.ok (.ret (.bool true))/\OldK s₁.heap s'.heap/\s'.os=s₁.os/\AllBare s'.gens) s₁):
  WalkO q loose XP YP l.row.toRowW d [] (fun f vs=>PySem.call f vs):=by
 intro w s₀ s₁ mg mb G Y fa o pm cd doc dV kV ho hd hcd hD hmg hg args vals as hpre hlay hrd hwl hlo
 obtain rfl:dV=.none:=Dflts.none hD hdf
 obtain rfl:kV=.none:=Dflts.noKw hD
 obtain⟨a,vs,ns,rfl,rfl,hobj,hints,hlen⟩:=script_of hn hpre hwl
 refine enter_call (codeAny_mono (call w s₀ s₁ mg mb fa o pm cd doc a vs ns G Y ho (fd_plain hd) hcd hmg hobj hints hlen hg) fun r s' hq=>?_)
 obtain⟨rfl,h2,h3,h4⟩:=hq
 exact⟨.inl ⟨.bool true,.bool true,[],rfl,fun _=>rfl,.bool true,post_true l _,fun _=>⟨List.Pairwise.nil,fun _ hm=>(nomatch hm)⟩⟩,h2,h3,h4⟩
end Att
namespace L2
open PySem PySem.Spec PyProof.Rows
theorem vals_ints:∀{vs:List Value} {ns:List Int},IntsAre vs ns->Vals (ns.map V.int) vs
 |_,_,.nil=>.nil
 |_,_,.cons n t h=>.cons ⟨t,rfl⟩ (vals_ints h)
end L2
namespace L2
open PySem PySem.Spec PyProof.Rows
abbrev CX0:CXT:=fun _ _ _ _ _ _=>False
abbrev E0:XK:=fun _ _ _=>False
theorem pass0 {X:Cx}:Passes CX0 X E0:=fun _ _ _ _ _ _ _ h=>h.elim
structure Fun (K:W.Frag)(x qual:Str)(st:Stmt)(f:Addr)(fd:FuncData):Prop where
 ex:∃(oc:Value) (od:Option Addr) (kV doc pm:Value) (an:Option Addr) (cdv ct:Value) (osl:Array (Option Value)),
  fd=W.fnOf x qual (defArgs st) (defBody st) (defScope st) .none kV doc pm an cdv ct/\K.lookup f=some ⟨oc,od,.func fd,osl⟩/\W.codeIn K cdv qual=true
 kp:W.keepIn K (.ref f)=true
section
variable {P:Program} {w:World} {K:W.Frag} {mg:Str->Option Value} {base:Heap}
theorem Fun.ok {x qual:Str}{st:Stmt}{f:Addr}{fd:FuncData}{N ps:List Str}{k:Nat}{sp:Sp}(F:Fun K x qual st f fd)(S:FnScope N ps (defScope st))(len:∀vs H Q E,sp vs H Q E->vs.length=ps.length)
  (hbody:∀(cdv:Value) (A:Around) (outer:List Env) (s:Shared) (H:Hp) (vs:List V) (Q:VK) (E:XK),Room k (A.deeper (envOfC qual (defScope st) s.heap.objs.size f cdv))->sp vs H Q E→
   ∃t,PSs (cxOf CX0 P w K mg base N qual (defScope st) f cdv A outer s H E).nox (defBody st) t/\t { nx:=fun _ H'=>Q .non H',rt:=Q } (start N vs) H):FnOk P w K mg base CX0 (k+1) f fd ps sp:=by
 obtain⟨oc,od,kV,doc,pm,an,cdv,ct,osl,rfl,lk,hcd⟩:=F.ex
 refine fn_of lk hcd S len fun A outer s H vs Q E hr hsp=>?_
 obtain⟨t,h,q⟩:=hbody cdv A outer s H vs Q E hr hsp
 exact⟨t,h.nox,q⟩
theorem Fun.binds {x qual:Str}{st:Stmt}{f:Addr}{fd:FuncData}{ps:List Str}(F:Fun K x qual st f fd)
  (h:∀(kV doc pm:Value) (an:Option Addr) (cdv ct:Value) (us:List Value),us.length=ps.length->bindArgs (W.fnOf x qual (defArgs st) (defBody st) (defScope st) .none kV doc pm an cdv ct) ⟨us,[]⟩=pure (ps.zip us)):Binds K fd ps []:=by
 obtain⟨oc,od,kV,doc,pm,an,cdv,ct,osl,rfl,lk,hcd⟩:=F.ex
 exact .all (h kV doc pm an cdv ct)
theorem fun_mk {x qual:Str}{st:Stmt}{f:Addr}{oc:Value}{od an:Option Addr}{osl:Array (Option Value)}{kV doc pm cdv ct:Value}(l:K.lookup f=some ⟨oc,od,.func (W.fnOf x qual (defArgs st) (defBody st) (defScope st) .none kV doc pm an cdv ct),osl⟩)
  (c:W.codeIn K cdv qual=true) (k:W.keepIn K (.ref f)=true):Fun K x qual st f (W.fnOf x qual (defArgs st) (defBody st) (defScope st) .none kV doc pm an cdv ct):=⟨⟨oc,od,kV,doc,pm,an,cdv,ct,osl,rfl,l,c⟩,k⟩
end
theorem hu_of {A:Around}{k:Nat}(hr:Room k A):A.units+1<cLine:=Nat.lt_of_le_of_lt (Nat.add_le_add_left (by decide:1<=64) _) hr.units
theorem small1000 {n:Nat}(h:n<=1000):n<sizeLine:=Nat.lt_of_le_of_lt h (by decide)
section
variable {X:Cx}
theorem pv (i:Nat){x:Str}{pos:Pos}(hN:X.N[i]?=some x:=by rfl)(hv:Vis X.env.scope x:=by first|exact Or.inl rfl|exact Or.inr (Or.inl rfl)|exact Or.inr (Or.inr rfl))(hd:(x==("__debug__":Str))=false:=by decide)
  (hcd:(x==("__classdict__":Str))=false:=by decide):PE X (.Name x pos) (tVar i):=pe_var hN hv hd hcd
end
theorem iteF {A B:Prop}(h:B):if false=true then A else B:=by
 rw[if_neg Bool.false_ne_true]
 exact h
theorem iteT {A B:Prop}(h:A):if true=true then A else B:=by
 rw[if_pos rfl]
 exact h
theorem ite2 {c A B:Prop}[Decidable c](h1:c->A)(h2:¬c->B):if c then A else B:=by
 by_cases h:c
 ·rw[if_pos h]
  exact h1 h
 ·rw[if_neg h]
  exact h2 h
def Same (H H':Hp):Prop:=∀b o,H b=some o->H' b=some o
theorem Same.refl (H:Hp):Same H H:=fun _ _ h=>h
theorem Same.trans {H H1 H2:Hp}(a:Same H H1)(b:Same H1 H2):Same H H2:=fun c o h=>b c o (a c o h)
theorem Same.free {H H':Hp}(e:Same H H'){l:Addr}(h:H' l=Option.none):H l=Option.none:=by
 cases q:H l with
 |none=>rfl
 |some o=>
  rw[e l o q] at h
  cases h
theorem Same.seq {K:W.Frag}{H H':Hp}{a:Addr}{xs:List V}(e:Same H H')(h:SqL K H a xs):SqL K H' a xs:=by
 rcases h with(h|⟨o,h⟩)|h
 ·exact .inl (.inl (e _ _ h))
 ·exact .inl (.inr ⟨o,e _ _ h⟩)
 ·exact .inr h
end L2
set_option maxHeartbeats 4000000
namespace L2
open PySem PySem.Spec PyProof.Rows
section
variable {prog:Program} {w:World} {A:Around} {R:Result->Shared->Prop} {s:Shared}
theorem comp_loop {elt target iter:Expr}{ifs:List Expr}{scope:Scope}{pos:Pos}{it acc:Value}{env:Env}(I:Nat->Shared->Prop)
  (turn:∀n s,I n s->wpAny (model prog w) A (pyNext it) (fun r s1=>match r with
   |none=>R (.ok .next) s1
   |some v=>wpAny (model prog w) A (letOwnedTupleGo target it v) (fun _ s1'=>wpAny (model prog w) A (assign target env v) (fun _ s2=>
     wpAny (model prog w) A (forIn ifs true fun c r=>if r=true then do let ok ← isTrue c env (eval c env);pure (ForInStep.yield ok) else pure (ForInStep.yield r)) (fun ok s3=>
      if ok=true then wpAny (model prog w) A (eval elt env) (fun x s4=>
       wpAny (model prog w) A (call (.builtin "list.append") [acc,x]) (fun _ s5=>∃m,m<n/\I m s5) (fun _ _=>False) s4) (fun _ _=>False) s3
      else ∃m,m<n/\I m s3) (fun _ _=>False) s2) (fun _ _=>False) s1') (fun _ _=>False) s1) (fun _ _=>False) s)
  (n:Nat) (h:I n s):
  codeAny (model prog w) A (.compLoop (.ListComp elt [⟨target,iter,ifs,0⟩] scope pos) 0 it acc env) R s:=by
 refine codeAny_loop rfl I (fun n s hI=>?_) n h
 show wpAny _ A ((compTurn (.ListComp elt [⟨target,iter,ifs,0⟩] scope pos) 0 it acc env).onRaise (fun x=>do noteFrame x env;theTreesLotGoes x)) _ _ s
 refine wpAny_noted ?_
 rw[compTurn_list]
 refine wpAny_bind (wpAny_standAt (wpAny_bind (wpAny_mono (turn n s hI) (fun r s1 h1=>?_) fun _ _ f=>f.elim)))
 cases r with
 |none=>exact wpAny_pure h1
 |some v=>
  refine wpAny_bind (wpAny_mono h1 (fun _ s1' h1'=>?_) fun _ _ f=>f.elim)
  refine wpAny_bind (wpAny_mono h1' (fun _ s2 h2=>wpAny_bind (wpAny_mono h2 (fun ok s3 h3=>?_) fun _ _ f=>f.elim)) fun _ _ f=>f.elim)
  cases ok with
  |false=>exact wpAny_pure ⟨rfl,h3⟩
  |true=>
   exact wpAny_bind (wpAny_bind (wpAny_mono h3 (fun x s4 h4=>wpAny_bind (wpAny_mono h4 (fun _ s5 h5=>wpAny_pure (wpAny_pure ⟨rfl,h5⟩)) fun _ _ f=>f.elim)) fun _ _ f=>f.elim))
end
def clOf (env:Env):List (Str×NameKind)->List (Str×Addr)->List (Str×Addr)
 | [],cs=>cs
 | (n,k)::r,cs=>clOf env r (if (k==NameKind.free)=true then(match env.cells.lookup n with|some a=>(n,a)::cs|none=>cs) else cs)
theorem closure_loop {env:Env}{f:Str×NameKind->List (Str×Addr)->Sem (ForInStep (List (Str×Addr)))}
  (hf:∀n k cs,f (n,k) cs=if (k==NameKind.free)=true then(do let a ← cellOf env n;pure (.yield ((n,a)::cs))) else pure (.yield cs)):
  ∀(l:List (Str×NameKind)) (cs:List (Str×Addr)),(∀y∈l,y.2=.free->∃c,env.cells.lookup y.1=some c)->forIn l cs f=pure (clOf env l cs)
 | [],cs,_=>by rw[List.forIn_nil];rfl
 | (n,k)::r,cs,h=>by
  have hr:∀y∈r,y.2=.free->∃c,env.cells.lookup y.1=some c:=fun y hy=>h y (List.mem_cons_of_mem _ hy)
  rw[List.forIn_cons,hf]
  unfold clOf
  by_cases hk:(k==NameKind.free)=true
  ·obtain⟨c,hc⟩:=h (n,k) List.mem_cons_self (by simpa using hk)
   have hc':env.cells.lookup n=some c:=hc
   rw[if_pos hk,if_pos hk]
   simp only[cellOf,hc',pure_bind]
   exact closure_loop hf r _ hr
  ·rw[if_neg hk,if_neg hk,pure_bind]
   exact closure_loop hf r _ hr
theorem closure_eq {env:Env}{scope:Scope}(h:∀y∈scope.names,y.2=.free->∃c,env.cells.lookup y.1=some c):closureFor scope env=pure (clOf env scope.names []):=by
 simp only[closureFor]
 rw[closure_loop (env:=env) (fun n k cs=>by cases hk:k==NameKind.free<;>simp[hk]) scope.names [] h]
 rfl
theorem clOf_mem {env:Env}{x:Str}{c:Addr}:∀{l:List (Str×NameKind)} {cs:List (Str×Addr)},(∀z d,cs.lookup z=some d->env.cells.lookup z=some d)->(clOf env l cs).lookup x=some c->env.cells.lookup x=some c
 | [],_,hc,h=>hc _ _ h
 | (n,k)::r,cs,hc,h=>by
  unfold clOf at h
  refine clOf_mem (l:=r) ?_ h
  intro z d hz
  split at hz
  ·split at hz
   ·rename_i a ha
    rw[List.lookup_cons] at hz
    split at hz
    ·rename_i e
     have e':z=n:=by simpa using e
     subst e'
     rw[ha]
     exact hz
    ·exact hc z d hz
   ·exact hc z d hz
  ·exact hc z d hz
theorem clOf_get {env:Env}{x:Str}{c:Addr}(e:env.cells.lookup x=some c):∀{l:List (Str×NameKind)} {cs:List (Str×Addr)},(∀z d,cs.lookup z=some d->env.cells.lookup z=some d)→
  ((x,NameKind.free)∈l\/∃d,cs.lookup x=some d)->(clOf env l cs).lookup x=some c
 | [],cs,hc,h=>by
  rcases h with h|⟨d,h⟩
  ·simp at h
  ·have:=hc x d h
   rw[e] at this
   cases this
   exact h
 | (n,k)::r,cs,hc,h=>by
  unfold clOf
  have hc2:∀z d,(if (k==NameKind.free)=true then(match env.cells.lookup n with|some a=>(n,a)::cs|none=>cs) else cs).lookup z=some d->env.cells.lookup z=some d:=by
   intro z d hz
   split at hz
   ·split at hz
    ·rename_i a ha
     rw[List.lookup_cons] at hz
     split at hz
     ·rename_i e
      have e':z=n:=by simpa using e
      subst e'
      rw[ha]
      exact hz
     ·exact hc z d hz
    ·exact hc z d hz
   ·exact hc z d hz
  refine clOf_get e (l:=r) hc2 ?_
  have keep:∀d,cs.lookup x=some d->∃d,(if (k==NameKind.free)=true then(match env.cells.lookup n with|some a=>(n,a)::cs|none=>cs) else cs).lookup x=some d:=by
   intro d hd
   split
   ·split
    ·rename_i a ha
     rw[List.lookup_cons]
     split
     ·exact⟨_,rfl⟩
     ·exact⟨d,hd⟩
    ·exact⟨d,hd⟩
   ·exact⟨d,hd⟩
  rcases h with h|⟨d,h⟩
  ·rcases List.mem_cons.mp h with h|h
   ·have e1:x=n:=congrArg Prod.fst h
    have e2:k=NameKind.free:=(congrArg Prod.snd h).symm
    subst e1 e2
    refine .inr ⟨c,?_⟩
    rw[if_pos (by decide),e]
    simp[List.lookup_cons]
   ·exact .inl h
  ·exact .inr (keep d h)
theorem relabel_free {env:Env}:∀{names:List (Str×NameKind)} {x:Str} {k:NameKind},
  (names.map fun(n,k)=>if (k==NameKind.free&&env.scope.kind==.function&&env.kindOf n==some .cell) then(n,NameKind.cell) else(n,k)).lookup x=some k->(k=.cell\/k=.free)->(∀y∈names,y.2≠.cell)->names.lookup x=some .free
 | [],_,_,h,_,_=>by simp at h
 | (n,k0)::r,x,k,h,hk,hn=>by
  have ih:=@relabel_free env r x k
  have h':List.lookup x ((if (k0==NameKind.free&&env.scope.kind==.function&&env.kindOf n==some .cell)=true then(n,NameKind.cell) else(n,k0))::(r.map fun(n,k)=>if (k==NameKind.free&&env.scope.kind==.function&&env.kindOf n==some .cell) then(n,NameKind.cell) else(n,k)))=some k:=h
  cases hx:x==n with
  |true=>
   have go:List.lookup x ((n,k0)::r)=some k0:=by simp[List.lookup_cons,hx]
   rw[go]
   by_cases hc:(k0==NameKind.free&&env.scope.kind==.function&&env.kindOf n==some .cell)=true
   ·have:k0=NameKind.free:=by
     simp only[Bool.and_eq_true] at hc
     simpa using hc.1.1
    rw[this]
   ·rw[if_neg hc] at h'
    simp only[List.lookup_cons,hx] at h'
    cases h'
    rcases hk with hk|hk
    ·exact absurd hk (hn _ List.mem_cons_self)
    ·rw[hk]
  |false=>
   have go:List.lookup x ((n,k0)::r)=List.lookup x r:=by simp[List.lookup_cons,hx]
   rw[go]
   refine ih ?_ hk (fun y hy=>hn y (List.mem_cons_of_mem _ hy))
   by_cases hc:(k0==NameKind.free&&env.scope.kind==.function&&env.kindOf n==some .cell)=true
   ·rw[if_pos hc] at h'
    simp only[List.lookup_cons,hx] at h'
    exact h'
   ·rw[if_neg hc] at h'
    simp only[List.lookup_cons,hx] at h'
    exact h'
theorem relabel_of_free {env:Env}:∀{names:List (Str×NameKind)} {x:Str},names.lookup x=some .free→
  (names.map fun(n,k)=>if (k==NameKind.free&&env.scope.kind==.function&&env.kindOf n==some .cell) then(n,NameKind.cell) else(n,k)).lookup x=some .cell∨
  (names.map fun(n,k)=>if (k==NameKind.free&&env.scope.kind==.function&&env.kindOf n==some .cell) then(n,NameKind.cell) else(n,k)).lookup x=some .free
 | [],_,h=>by simp at h
 | (n,k0)::r,x,h=>by
  have ih:=@relabel_of_free env r x
  show List.lookup x ((if (k0==NameKind.free&&env.scope.kind==.function&&env.kindOf n==some .cell)=true then(n,NameKind.cell) else(n,k0))::_)=_\/List.lookup x ((if (k0==NameKind.free&&env.scope.kind==.function&&env.kindOf n==some .cell)=true then(n,NameKind.cell) else(n,k0))::_)=_
  cases hx:x==n with
  |true=>
   simp only[List.lookup_cons,hx] at h
   by_cases hc:(k0==NameKind.free&&env.scope.kind==.function&&env.kindOf n==some .cell)=true
   ·rw[if_pos hc]
    left
    simp only[List.lookup_cons,hx]
   ·rw[if_neg hc]
    right
    simp only[List.lookup_cons,hx]
    exact h
  |false=>
   simp only[List.lookup_cons,hx] at h
   by_cases hc:(k0==NameKind.free&&env.scope.kind==.function&&env.kindOf n==some .cell)=true
   ·rw[if_pos hc]
    simp only[List.lookup_cons,hx]
    exact ih h
   ·rw[if_neg hc]
    simp only[List.lookup_cons,hx]
    exact ih h
def blk (X:Cx)(N:List Str)(scope:Scope)(C:Addr)(s:Shared)(H:Hp)(ex:List Addr):Cx where
 prog:=X.prog
 w:=X.w
 K:=X.K
 mg:=X.mg
 base:=X.base
 A:=X.A
 N:=N
 s₀:=s
 H₀:=H
 env:=compEnvC scope (clOf X.env scope.names []) C X.env
 outer:=X.stack
 stack:=X.stack
 ex:=ex
 fn:=fun _=>false
 calm:=X.calm
 pn:=[]
 xe:=fun _ _=>False
structure BlkScope (sc:Scope)(N own cn:List Str)(ci:List Nat)(scope:Scope):Prop where
 kind:scope.kind=.function
 nocell:∀y∈scope.names,y.2≠.cell
 names:∀y∈scope.names,y.2=.local->scope.names.lookup y.1=some .local
 free:∀y∈scope.names,y.2=.free->sc.names.lookup y.1=some .cell\/sc.names.lookup y.1=some .free
 cap:(cn.map fun x=>(some x:Option Str))=ci.map fun i=>N[i]?
 capk:∀x∈cn,scope.names.lookup x=some .free
 nd:(own++cn).Nodup
theorem BlkScope.of {sc:Scope}{N own cn:List Str}{ci:List Nat}{scope:Scope}(h:scope.kind=.function/\(∀y∈scope.names,y.2≠.cell)/\(∀y∈scope.names,y.2=.local->scope.names.lookup y.1=some .local)/\(∀y∈scope.names,y.2=.free->sc.names.lookup y.1=some .cell\/sc.names.lookup y.1=some .free)/\(cn.map fun x=>(some x:Option Str))=(ci.map fun i=>N[i]?)/\(∀x∈cn,scope.names.lookup x=some .free)/\(own++cn).Nodup):BlkScope sc N own cn ci scope:=⟨h.1,h.2.1,h.2.2.1,h.2.2.2.1,h.2.2.2.2.1,h.2.2.2.2.2.1,h.2.2.2.2.2.2⟩
def blkS (own:List Str)(ci:List Nat)(σ:St):St:=own.map (fun _=>none)++ci.map fun i=>(σ[i]?).join
section
variable {X:Cx} {pins:List (Addr×Obj)} {σ:St} {H H2:Hp} {s s2:Shared} {sc:Scope} {N own cn:List Str} {ci:List Nat} {scope:Scope} {fp:List Addr}
theorem blk_cells (S:BlkScope sc N own cn ci scope)(hsc:X.env.scope=sc)(I:Inv X pins σ H s):∀y∈scope.names,y.2=.free->∃c,X.env.cells.lookup y.1=some c:=fun y hy hf=>by
 refine I.ok.has y.1 ?_
 have:=S.free y hy hf
 rw[<- hsc] at this
 exact this
theorem blk_inv (S:BlkScope sc N own cn ci scope)(hsc:X.env.scope=sc)(hN:X.N=N)(I:Inv X pins σ H s)(hfp:∀b∈fp,FpOk X pins H b)(hlt:∀b∈fp,b<s.heap.objs.size){h1:Heap}{tk:Nat}{m:Str->Option Value}
  (hns:h1.Ns s.heap.objs.size m) (keep:∀b o,s.heap.get? b=some o->h1.get? b=some o):
  Inv (blk X (own++cn) scope s.heap.objs.size s H fp) [] (blkS own ci σ) H { s with heap:=h1,toks:=tk }:=by
 have ccl:∀x c,(clOf X.env scope.names []).lookup x=some c->X.env.cells.lookup x=some c:=fun x c e=>clOf_mem (fun z d h=>by simp at h) e
 have cnl:cn.length=ci.length:=by have:=congrArg List.length S.cap;simpa using this
 refine⟨⟨I.ok.mod,?_,I.ok.glob,I.ok.blt,Nat.le_refl _,fun x y c e1 e2=>I.ok.inj x y c (ccl x c e1) (ccl y c e2),fun x hx=>?_,fun x c hf _=>?_,I.ok.hd,I.ok.frames,.inl rfl,fun b hb=>⟨Nat.ne_of_lt (hlt b hb),fun x c e=>(hfp b hb).2.2.2.2.1 x c (ccl x c e)⟩,I.bs,Nat.le_trans I.ok.bsz I.sz,fun b o e hb=>?_,fun b hb hb2=>?_,I.stack,I.stkFree⟩,
  rfl,I.bare,Un.kept keep,⟨m,hns,fun i x v e1 e2 e3=>?_⟩,fun x c e=>?_,I.hok.fresh (Nat.le_refl _),fun x c e=>I.freeC x c (ccl x c e),fun p hp=>absurd (show p∈([]:List (Addr×Obj)) from hp) (by simp),I.hok.kept keep,?_⟩
 ·exact S.kind
 ·have hx':(relabel scope X.env).names.lookup x=some .cell\/(relabel scope X.env).names.lookup x=some .free:=hx
  have hfree:scope.names.lookup x=some .free:=by
   rcases hx' with q|q
   ·exact relabel_free q (.inl rfl) S.nocell
   ·exact relabel_free q (.inr rfl) S.nocell
  have hm:=PySem.mem_of_lookup hfree
  obtain⟨c,hc⟩:=blk_cells S hsc I _ hm rfl
  exact⟨c,clOf_get hc (fun z d h=>by simp at h) (.inl hm)⟩
 ·exact absurd hf (by show ¬(false=true);decide)
 ·rcases(hfp b hb).2.2.2.1 with z|z
  ·exact I.ok.noex b o e z
  ·exact absurd (Nat.lt_of_lt_of_le (Heap.lt_size (I.ok.bs b o e).1) z) (Nat.lt_irrefl _)
 ·rcases List.mem_cons.mp (I.stkSub b hb2) with z|z
  ·exact(hfp b hb).2.1 z
  ·exact(hfp b hb).2.2.1 z
 ·have e1':(own++cn)[i]?=some x:=e1
  unfold blkS at e2
  by_cases hi:i<own.length
  ·rw[List.getElem?_append_left (by simpa using hi),List.getElem?_map] at e2
   cases q:own[i]? with
   |none=>rw[q] at e2;cases e2
   |some z=>rw[q] at e2;cases e2
  ·rw[List.getElem?_append_right (by simpa using hi)] at e2
   rw[List.getElem?_append_right (by omega)] at e1'
   rw[List.length_map,List.getElem?_map] at e2
   cases q:ci[i-own.length]? with
   |none=>rw[q] at e2;cases e2
   |some j=>
    rw[q] at e2
    have e2':(σ[j]?).join=some v:=Option.some.inj e2
    have e3':σ[j]?=some (some v):=by
     cases z:σ[j]? with
     |none=>rw[z] at e2';cases e2'
     |some o=>rw[z] at e2';exact congrArg some e2'
    have hNj:X.N[j]?=some x:=by
     have c1:=congrArg (fun l=>l[i-own.length]?) S.cap
     simp only[List.getElem?_map,e1',q,Option.map_some] at c1
     rw[hN]
     exact(Option.some.inj c1).symm
    have hfree:=S.capk x (List.mem_of_getElem? e1')
    have hm:=PySem.mem_of_lookup hfree
    have hk:=S.free _ hm rfl
    rw[<- hsc] at hk
    have hvis:Vis X.env.scope x:=.inr hk
    obtain⟨m0,_,hl⟩:=I.loc
    obtain⟨u,r,l⟩:=hl j x v hNj e3' hvis
    refine⟨u,r,.inr ⟨relabel_of_free hfree,?_⟩⟩
    rcases l with⟨l,_⟩|⟨_,c,ec,z⟩
    ·have l':X.env.scope.names.lookup x=some .local:=l
     rcases hk with hk|hk<;>(rw[hk] at l';cases l')
    ·refine⟨c,clOf_get ec (fun z d h=>by simp at h) (.inl hm),?_⟩
     obtain⟨o,ho,hd⟩:=z
     exact⟨o,keep c o ho,hd⟩
 ·obtain⟨v,o,ho,hd⟩:=I.cell x c (ccl x c e)
  exact⟨v,o,keep c o ho,hd⟩
 ·show(blkS own ci σ).length=(own++cn).length
  unfold blkS
  rw[List.length_append,List.length_append,List.length_map,List.length_map,cnl]
end
def PTs (X:Cx)(ifs:List Expr)(t:TT):Prop:=
 ∀(pins:List (Addr×Obj)) (s:Shared) (σ:St) (H:Hp) (Q:Bool->Hp->Prop),Inv X pins σ H s->t σ H Q→
  wpAny (model X.prog X.w) X.A (forIn ifs true fun c r=>if r=true then do let ok ← isTrue c X.env (eval c X.env);pure (ForInStep.yield ok) else pure (ForInStep.yield r)) (TP X pins σ Q) X.xe s
def tTrue:TT:=fun _ H Q=>Q true H
theorem pts_nil {X:Cx}:PTs X [] tTrue:=fun _ _ _ H _ I h=>wpAny_tests_nil ⟨H,I,h⟩
theorem pts_one {X:Cx}{c:Expr}{t:TT}(h:PT X c t):PTs X [c] t:=fun pins s σ H Q I q=>wpAny_tests_one (h pins s σ H Q I q)
def LcW (J:It)(g:TG)(tt:TT)(te:TE)(D:Addr)(Q:Hp->Prop)(W:Nat->Nat->St->Hp->Prop):Prop:=∀i m σ H,W i m σ H→
 (J.stop i H/\Q H)\/(J.go i H/\∀x H1,J.yld i H x H1->g x σ H1 fun σ2 H2=>tt σ2 H2 fun ok H3=>if ok=true then te σ2 H3 fun y H4=>∃ys,H4 D=some (.lst ys)/\ys.length<sizeLine∧
  ∃m',m'<m/\W (i+1) m' σ2 (upd H4 D (.lst (ys++[y]))) else ∃m',m'<m/\W (i+1) m' σ2 H3)
def tLC (own:List Str)(ci:List Nat)(wi:TI)(g:TG)(tt:TT)(te:TE):TE:=fun σ H Q=>wi σ H fun J H1=>∀D,H1 D=none→
 ∃W:Nat->Nat->St->Hp->Prop,(∃m,W 0 m (blkS own ci σ) (upd H1 D (.lst [])))/\LcW J g tt te D (Q (.ref D)) W
section
variable {X:Cx} {pins:List (Addr×Obj)} {σ:St} {H H2:Hp} {s s2:Shared} {sc:Scope} {N own cn:List Str} {ci:List Nat} {scope:Scope} {fp:List Addr}
 {elt tg iter:Expr} {ifs:List Expr} {pos:Pos} {g:TG} {tt:TT} {te:TE} {wi:TI}
theorem lc_block {it:Addr}{tn:Nat->Heap->Prop}{J:It}{Q:VK}{E:Value->Shared->Prop}{RR:Value->Addr->Result->Shared->Prop}(S:BlkScope sc N own cn ci scope)(hsc:X.env.scope=sc)(hN:X.N=N)(hc:X.calm=true)
  (I2:Inv X pins σ H2 s2) (T:Turn X.prog X.w X.K tg J fp it tn) (st2:tn 0 s2.heap) (f2:∀b∈fp,FpOk X pins H2 b)
  (hg:∀C s H,PG (blk X (own++cn) scope C s H fp) tg g) (ht:∀C s H,PTs (blk X (own++cn) scope C s H fp) ifs tt) (he:∀C s H,PE (blk X (own++cn) scope C s H fp) elt te)
  (q:∀D,H2 D=none->∃W:Nat->Nat->St->Hp->Prop,(∃m,W 0 m (blkS own ci σ) (upd H2 D (.lst [])))/\LcW J g tt te D (Q (.ref D)) W)
  (hRR:∀D C H' s',Inv X pins σ H' s'->Q (.ref D) H'->(∃m,s'.heap.Ns C m)->FpOk X pins H' C->RR (.ref D) C (.ok .next) s'):
  wpAny (model X.prog X.w) X.A (newList []) (fun acc s3=>wpAny (model X.prog X.w) X.A (newFunctionEnv scope X.env.globals (clOf X.env scope.names []) [] X.env.qual none .none (some X.env)) (fun cenv s4=>
   codeAny (model X.prog X.w) X.A (.compStart (.ListComp elt [⟨tg,iter,ifs,0⟩] scope pos) 0 (.ref it) acc { cenv with scope:=relabel scope X.env }) (RR acc cenv.locals) s4) E s3) E s2:=by
 refine wpAny_newObj_type (wpAny_newFunctionEnv S.nocell (by intro y hy;simp at hy) (fun h1 hns1 hsb1=>?_) S.kind)
 dsimp only at hns1 hsb1 ⊢
 have I3:Inv X pins σ (upd H2 s2.heap.objs.size (.lst [])) { s2 with heap:=s2.heap.push { cls:=.type "list",data:=.seq ([]:List Value).toArray },toks:=s2.toks }:=I2.lnew (its:=[]) (t':=s2.toks) .nil (Nat.zero_le _)
 have hD:H2 s2.heap.objs.size=none:=I2.hok.fresh (Nat.le_refl _)
 have fpe:∀b∈fp,b<s2.heap.objs.size:=fun b hb=>by
  obtain⟨o,e,_⟩:=T.obj _ _ st2 b hb
  exact Heap.lt_size e
 have f3:∀b∈fp,FpOk X pins (upd H2 s2.heap.objs.size (.lst [])) b:=fun b hb=>⟨by rw[upd_ne (Nat.ne_of_lt (fpe b hb))];exact(f2 b hb).1,(f2 b hb).2⟩
 obtain⟨W,⟨m0,w0⟩,turn⟩:=q s2.heap.objs.size hD
 generalize hs3:({ s2 with heap:=s2.heap.push { cls:=.type "list",data:=.seq ([]:List Value).toArray },toks:=s2.toks }:Shared)=s3 at I3
 have e3:s3.heap=s2.heap.push { cls:=.type "list",data:=.seq ([]:List Value).toArray }:=by rw[<- hs3]
 have hsz3:s3.heap.objs.size=s2.heap.objs.size+1:=by rw[e3,Heap.size_push]
 have keep3:∀b o,s2.heap.get? b=some o->s3.heap.get? b=some o:=fun b o e=>by rw[e3];exact Heap.get?_push_of_some _ e
 have keep:∀b o,s3.heap.get? b=some o->h1.get? b=some o:=fun b o e=>by
  refine hsb1.extBut b o ?_ (Heap.get?_push_of_some _ (by rw[<- e3];exact e))
  have:=Heap.lt_size e
  rw[e3] at this
  exact Nat.ne_of_lt this
 have hns:h1.Ns s3.heap.objs.size (fun x=>([]:List (Str×Value)).reverse.lookup x):=by rw[e3];exact hns1
 have I4:=blk_inv (fp:=fp) (tk:=s2.toks+([]:List (Str×Value)).length) S hsc hN I3 f3 (fun b hb=>by rw[hsz3];exact Nat.lt_succ_of_lt (fpe b hb)) hns keep
 have st4:tn 0 h1:=T.keep _ _ _ st2 fun b hb o e=>keep b o (keep3 b o e)
 have hC:(s2.heap.push { cls:=.type "list",data:=.seq ([]:List Value).toArray }).objs.size=s3.heap.objs.size:=by rw[e3]
 have stat:∀{H':Hp},(∀b∈fp,H' b=none)->∀b∈fp,FpOk (blk X (own++cn) scope s3.heap.objs.size s3 (upd H2 s2.heap.objs.size (.lst [])) fp) [] H' b:=fun hn b hb=>
  ⟨hn b hb,Nat.ne_of_lt (by rw[hsz3];exact Nat.lt_succ_of_lt (fpe b hb)),fun z=>I4.ok.exfs b hb z,.inl hb,(I4.ok.exf b hb).2,fun p hp=>absurd (show p∈([]:List (Addr×Obj)) from hp) (by simp)⟩
 have loop:∀s4:Shared,s4={ s3 with heap:=h1,toks:=s2.toks+([]:List (Str×Value)).length }→
   codeAny (model X.prog X.w) X.A (.compLoop (.ListComp elt [⟨tg,iter,ifs,0⟩] scope pos) 0 (.ref it) (.ref s2.heap.objs.size) (compEnvC scope (clOf X.env scope.names []) s3.heap.objs.size X.env)) (RR (.ref s2.heap.objs.size) s3.heap.objs.size) s4:=by
  rintro s4 rfl
  refine comp_loop (fun n s'=>∃i σ' H',Inv (blk X (own++cn) scope s3.heap.objs.size s3 (upd H2 s2.heap.objs.size (.lst [])) fp) [] σ' H' s'/\tn i s'.heap/\(∀b∈fp,H' b=none)/\W i n σ' H') ?_ m0
   ⟨0,_,_,I4,st4,fun b hb=>(f3 b hb).1,w0⟩
  rintro n s5 ⟨i,σ5,H5,I5,st5,fr5,w5⟩
  rcases turn i n σ5 H5 w5 with⟨stop,qn⟩|⟨go,step⟩
  ·refine thn (T.done (blk X (own++cn) scope s3.heap.objs.size s3 (upd H2 s2.heap.objs.size (.lst [])) fp) rfl rfl rfl hc i [] s5 σ5 H5 (fun _ _=>False) I5 (stat fr5) st5 stop) fun r s6 hq9=>?_
   obtain⟨hr,I6⟩:=hq9
   subst hr
   refine hRR _ _ H5 s6 (I3.call' I6.os I6.base I6.hok I6.bare fun b hb=>⟨(f3 b hb).2.2.2.1,(f3 b hb).2.1,(f3 b hb).2.2.2.2.1,(f3 b hb).2.2.2.2.2⟩) qn (let ⟨m,hn,_⟩:=I6.loc;⟨m,hn⟩) (I3.fpOk (Nat.le_refl _) I6.free)
  ·refine thn (T.item (blk X (own++cn) scope s3.heap.objs.size s3 (upd H2 s2.heap.objs.size (.lst [])) fp) rfl rfl rfl hc i [] s5 σ5 H5 (fun _ _=>False) I5 (stat fr5) st5 go) fun r s6 hq9=>?_
   obtain⟨u,hr,h6⟩:=hq9
   subst hr
   refine thn h6 fun _ s7 hq9=>?_
   obtain⟨x,H7,I7,r7,y7,st7,fr7⟩:=hq9
   have I7':=I7.pinned (stat fr7) (T.obj _ _ st7)
   refine thn (hg _ _ _ _ s7 σ5 H7 x u _ I7' r7 (step x H7 y7)) fun _ s8 hq9=>?_
   obtain⟨σ8,H8,I8,q8⟩:=hq9
   refine thn (ht _ _ _ _ s8 σ8 H8 _ I8 q8) fun ok s9 hq9=>?_
   obtain⟨H9,I9,q9⟩:=hq9
   have again:∀{H':Hp} {s':Shared} {m':Nat},Inv (blk X (own++cn) scope s3.heap.objs.size s3 (upd H2 s2.heap.objs.size (.lst [])) fp) ([]++pinsAt fp s7.heap) σ8 H' s'->W (i+1) m' σ8 H'→
     ∃i σ' H',Inv (blk X (own++cn) scope s3.heap.objs.size s3 (upd H2 s2.heap.objs.size (.lst [])) fp) [] σ' H' s'/\tn i s'.heap/\(∀b∈fp,H' b=none)/\W i m' σ' H':=fun {H' s' m'} I' w'=>by
    refine⟨i+1,σ8,H',I'.unpinned,T.keep _ _ _ st7 fun b hb o e=>(I'.pin (b,o) (List.mem_append_right _ (List.mem_append_right _ (mem_pinsAt hb e)))).1,fun b hb=>?_,w'⟩
    obtain⟨o,e,_⟩:=T.obj _ _ st7 b hb
    exact(I'.pin (b,o) (List.mem_append_right _ (List.mem_append_right _ (mem_pinsAt hb e)))).2.1
   cases ok with
   |false=>
    obtain⟨m',hm,w'⟩:=q9
    exact⟨m',hm,again I9 w'⟩
   |true=>
    refine thn (he _ _ _ _ s9 σ8 H9 _ I9 q9) fun v s10 hq9=>?_
    obtain⟨y,H10,I10,r10,ys,hDl,hz,m',hm,w'⟩:=hq9
    refine thn (mt_append _ s10 σ8 H10 (.ref s2.heap.objs.size) [y] (.ref s2.heap.objs.size) [v] (fun _ H11=>H11=upd H10 s2.heap.objs.size (.lst (ys++[y]))) I10 rfl (.cons r10 .nil) ⟨_,ys,y,rfl,rfl,hDl,hz,rfl⟩) fun _ s11 hq9=>?_
    obtain⟨_,H11,I11,_,e11⟩:=hq9
    subst e11
    exact⟨m',hm,again I11 w'⟩
 have es:({ s2 with heap:=h1,toks:=s2.toks+([]:List (Str×Value)).length }:Shared)={ s3 with heap:=h1,toks:=s2.toks+([]:List (Str×Value)).length }:=by rw[<- hs3]
 rw[hC]
 exact codeAny_compStart_list (loop _ es) (T.self _ 0 _ _ _ st4 (loop _ es))
theorem pe_lc (S:BlkScope sc N own cn ci scope)(hsc:X.env.scope=sc)(hN:X.N=N)(hc:X.calm=true)(hi:PI X tg iter wi)
  (hg:∀fp C s H,PG (blk X (own++cn) scope C s H fp) tg g) (ht:∀fp C s H,PTs (blk X (own++cn) scope C s H fp) ifs tt) (he:∀fp C s H,PE (blk X (own++cn) scope C s H fp) elt te)
  (hs:∀x,foldedSetIterable iter X.env x=pure x:=by intro _;rfl):PE X (.ListComp elt [⟨tg,iter,ifs,0⟩] scope pos) (tLC own ci wi g tt te):=by
 intro pins s σ H Q I h
 rw[eval_ListComp]
 refine wpAny_comprehension_free (use:=none) rfl hs (closure_eq (blk_cells S hsc I)) S.kind S.names (thn (hi pins s σ H _ I h) fun xv s1 h1=>thn h1 fun itv s2 h2=>?_)
 obtain⟨it,fp,tn,J,H2,e,I2,T,st2,f2,q⟩:=h2
 subst e
 refine lc_block (RR:=fun acc C=>compPost (model X.prog X.w) X.A X.xe none (EP X pins σ Q) acc C) S hsc hN hc I2 T st2 f2 (hg fp) (ht fp) (he fp) q ?_
 intro D C H' s' I' q' ⟨m,hn⟩ fC
 exact⟨m,hn,fun h' hs'=>⟨.ref D,H',I'.turned (t':=s'.toks) (fun b o hb e=>(hs'.2 b hb).trans e) fC.1 (Ne.symm (Ne.symm fC.2.1)) fC.2.2.2.1 fC.2.2.2.2.1 fC.2.2.2.2.2,rfl,q'⟩⟩
def tSetLC (i:Nat)(t:TE):TS:=fun D σ H=>t σ H fun v H1=>D.nx (σ.set i (some v)) H1
theorem ps_setlc {i:Nat}{y:Str}{py spos:Pos}(S:BlkScope sc N own cn ci scope)(hsc:X.env.scope=sc)(hN:X.N=N)(hc:X.calm=true)(hi:PI X tg iter wi)
  (hg:∀fp C s H,PG (blk X (own++cn) scope C s H fp) tg g) (ht:∀fp C s H,PTs (blk X (own++cn) scope C s H fp) ifs tt) (he:∀fp C s H,PE (blk X (own++cn) scope C s H fp) elt te)
  (hnd:X.N.Nodup) (hiy:X.N[i]?=some y) (hy:X.env.scope.names.lookup y=some .local)
  (hsw:swapsWith (.ListComp elt [⟨tg,iter,ifs,0⟩] scope pos) (some (.Name y py)) spos.line X.env=pure true)
  (hs:∀x,foldedSetIterable iter X.env x=pure x:=by intro _;rfl):PS X (.Assign [.Name y py] (.ListComp elt [⟨tg,iter,ifs,0⟩] scope pos) spos) (tSetLC i (tLC own ci wi g tt te)):=by
 intro pins s σ H D I h
 rw[exec_Assign_Name_used _ _ _ _ hsw]
 refine wpAny_bind (wpAny_standAt (wpAny_bind ?_))
 show wpAny _ X.A (do let _ ← comprehension (.ListComp elt [⟨tg,iter,ifs,0⟩] scope pos) scope X.env _ (newList []) false (eval iter X.env) (some (assign (.Name y py) X.env))) _ _ s
 refine wpAny_bind (wpAny_mono (wpAny_comprehension_free (use:=some (assign (.Name y py) X.env)) (Q:=fun _ s'=>SP X pins D .next s') rfl hs (closure_eq (blk_cells S hsc I)) S.kind S.names
  (thn (hi pins s σ H _ I h) fun xv s1 h1=>thn h1 fun itv s2 h2=>?_)) (fun _ s' hq=>wpAny_pure (wpAny_pure hq)) fun _ _ e=>e)
 obtain⟨it,fp,tn,J,H2,e,I2,T,st2,f2,q⟩:=h2
 subst e
 refine lc_block (RR:=fun acc C=>compPost (model X.prog X.w) X.A X.xe (some (assign (.Name y py) X.env)) (fun _ s'=>SP X pins D .next s') acc C) (Q:=fun v H1=>D.nx (σ.set i (some v)) H1) S hsc hN hc I2 T st2 f2 (hg fp) (ht fp) (he fp) q ?_
 intro D' C H' s' I' q' ⟨m,hn⟩ fC
 refine wpAny_assign_Name (store_ok2 (v:=.ref D') I' hnd hiy (.inl hy) rfl (fun s'' I'' ⟨a,hsb,ha⟩=>?_) (.inr hy))
 have hCa:C≠a:=by
  rcases ha with ha|ha
  ·rw[ha];exact fC.2.1
  ·exact Ne.symm (fC.2.2.2.2.1 _ _ ha)
 exact⟨m,hn.sameBut hsb hCa,fun h' hs'=>⟨_,H',I''.turned (t':=s''.toks) (fun b o hb e=>(hs'.2 b hb).trans e) fC.1 fC.2.1 fC.2.2.2.1 fC.2.2.2.2.1 fC.2.2.2.2.2,q'⟩⟩
end
theorem lc_range {lo:Int}{n:Nat}{caps:St}{tt:TT}{te:TE}{D:Addr}{Q:Hp->Prop}{H1:Hp}(Pv:Nat->List V->Hp->Prop)(hz:n<=sizeLine)(h0:Pv 0 [] (upd H1 D (.lst [])))(hl:∀i ys H,Pv i ys H->ys.length<=i)
  (hs:∀i ys H (N:VK) (M:Hp->Prop),i<n->Pv i ys H->(∀y H4,H4 D=some (.lst ys)->Pv (i+1) (ys++[y]) (upd H4 D (.lst (ys++[y])))->N y H4)->(∀H3,Pv (i+1) ys H3->M H3)→
   tt (some (.int (lo+i))::caps) H fun ok H3=>if ok=true then te (some (.int (lo+i))::caps) H3 N else M H3)
  (hd:∀ys H,Pv n ys H->Q H):∃W:Nat->Nat->St->Hp->Prop,(∃m,W 0 m (none::caps) (upd H1 D (.lst [])))/\LcW (Itr lo n) (gName 0) tt te D Q W:=by
 refine⟨fun i m σ H=>m=n-i/\i<=n/\(∃v,σ=v::caps)/\∃ys,Pv i ys H,⟨n,by simp,Nat.zero_le _,⟨none,rfl⟩,[],h0⟩,?_⟩
 rintro i m σ H ⟨rfl,hi,⟨v,rfl⟩,ys,p⟩
 have hy:=hl i ys H p
 by_cases hlt:i<n
 ·refine .inr ⟨hlt,fun x H1 y=>?_⟩
  obtain⟨e,y⟩:=y
  subst e y
  refine hs i ys _ _ _ hlt p (fun y H4 a c=>⟨ys,a,by omega,n-(i+1),by omega,rfl,hlt,⟨_,rfl⟩,_,c⟩) (fun H3 c=>⟨n-(i+1),by omega,rfl,hlt,⟨_,rfl⟩,ys,c⟩)
 ·have e:i=n:=by omega
  subst e
  exact .inl ⟨Nat.le_refl _,hd ys H p⟩
theorem lc_list {K:W.Frag}{a:Addr}{xs:List V}{caps:St}{tt:TT}{te:TE}{D:Addr}{Q:Hp->Prop}{H1:Hp}(Pv:Nat->List V->Hp->Prop)(hz:xs.length<=sizeLine)(h0:Pv 0 [] (upd H1 D (.lst [])))(hl:∀i ys H,Pv i ys H->ys.length<=i)(hq:∀i ys H,Pv i ys H->SqL K H a xs)
  (hs:∀i ys H (x:V) (N:VK) (M:Hp->Prop),xs[i]?=some x->Pv i ys H->(∀y H4,H4 D=some (.lst ys)->Pv (i+1) (ys++[y]) (upd H4 D (.lst (ys++[y])))->N y H4)->(∀H3,Pv (i+1) ys H3->M H3)→
   tt (some x::caps) H fun ok H3=>if ok=true then te (some x::caps) H3 N else M H3)
  (hd:∀ys H,Pv xs.length ys H->Q H):∃W:Nat->Nat->St->Hp->Prop,(∃m,W 0 m (none::caps) (upd H1 D (.lst [])))/\LcW (Itl K a) (gName 0) tt te D Q W:=by
 refine⟨fun i m σ H=>m=xs.length-i/\i<=xs.length/\(∃v,σ=v::caps)/\∃ys,Pv i ys H,⟨xs.length,by simp,Nat.zero_le _,⟨none,rfl⟩,[],h0⟩,?_⟩
 rintro i m σ H ⟨rfl,hi,⟨v,rfl⟩,ys,p⟩
 have hy:=hl i ys H p
 by_cases hlt:i<xs.length
 ·refine .inr ⟨⟨xs,xs[i],hq i ys H p,by simp[hlt]⟩,fun x H1 y=>?_⟩
  obtain⟨e,y⟩:=y
  subst e
  have hx:=y xs (hq i ys _ p)
  refine hs i ys _ x _ _ hx p (fun y H4 a c=>⟨ys,a,by omega,xs.length-(i+1),by omega,rfl,hlt,⟨_,rfl⟩,_,c⟩) (fun H3 c=>⟨xs.length-(i+1),by omega,rfl,hlt,⟨_,rfl⟩,ys,c⟩)
 ·have e:i=xs.length:=by omega
  subst e
  exact .inl ⟨⟨xs,hq _ ys H p,Nat.le_refl _⟩,hd ys H p⟩
theorem lc_tup {K:W.Frag}{a:Addr}{xs:List V}{caps:St}{tt:TT}{te:TE}{D:Addr}{Q:Hp->Prop}{H1:Hp}(Pv:Nat->List V->Hp->Prop)(hz:xs.length<=sizeLine)(h0:Pv 0 [] (upd H1 D (.lst [])))(hl:∀i ys H,Pv i ys H->ys.length<=i)(hq:∀i ys H,Pv i ys H->SqT K H a xs)
  (hs:∀i ys H (x:V) (N:VK) (M:Hp->Prop),xs[i]?=some x->Pv i ys H->(∀y H4,H4 D=some (.lst ys)->Pv (i+1) (ys++[y]) (upd H4 D (.lst (ys++[y])))->N y H4)->(∀H3,Pv (i+1) ys H3->M H3)→
   tt (some x::caps) H fun ok H3=>if ok=true then te (some x::caps) H3 N else M H3)
  (hd:∀ys H,Pv xs.length ys H->Q H):∃W:Nat->Nat->St->Hp->Prop,(∃m,W 0 m (none::caps) (upd H1 D (.lst [])))/\LcW (Itt K a) (gName 0) tt te D Q W:=by
 refine⟨fun i m σ H=>m=xs.length-i/\i<=xs.length/\(∃v,σ=v::caps)/\∃ys,Pv i ys H,⟨xs.length,by simp,Nat.zero_le _,⟨none,rfl⟩,[],h0⟩,?_⟩
 rintro i m σ H ⟨rfl,hi,⟨v,rfl⟩,ys,p⟩
 have hy:=hl i ys H p
 by_cases hlt:i<xs.length
 ·refine .inr ⟨⟨xs,xs[i],hq i ys H p,by simp[hlt]⟩,fun x H1 y=>?_⟩
  obtain⟨e,y⟩:=y
  subst e
  have hx:=y xs (hq i ys _ p)
  refine hs i ys _ x _ _ hx p (fun y H4 a c=>⟨ys,a,by omega,xs.length-(i+1),by omega,rfl,hlt,⟨_,rfl⟩,_,c⟩) (fun H3 c=>⟨xs.length-(i+1),by omega,rfl,hlt,⟨_,rfl⟩,ys,c⟩)
 ·have e:i=xs.length:=by omega
  subst e
  exact .inl ⟨⟨xs,hq _ ys H p,Nat.le_refl _⟩,hd ys H p⟩
end L2
namespace L2
open PySem PySem.Spec PyProof.Rows
section
variable {M:Model} {A:Around} {E:Value->Shared->Prop} {s:Shared}
structure LeftBy (fs:List Addr)(e T:Addr)(h h':Heap):Prop where
 keep:∀b o,b≠e->b∉fs->h.get? b=some o->h'.get? b=some o
 slot:∀b o,b≠e->h.get? b=some o->∃sl,h'.get? b=some { o with slots:=sl }
 exc:∀oe vs,h.get? e=some oe->oe.data=.fields vs->∃oe',h'.get? e=some oe'/\oe'.cls=oe.cls/\oe'.dict=oe.dict/\oe'.data=.fields (vs.setIfInBounds 1 (.ref T))
 new:h.get? T=none
 tr:∃oT ts,h'.get? T=some oT/\oT.data=.fields ts/\ts[3]?=some .none
theorem note_new {base:Heap}{env:Env}{outer:List Env}{L e:Addr}{oe:Obj}{vs:Array Value}{hd:Value}{nx:Bool}{Q:Unit->Shared->Prop}(fr:A.frames=some (env::outer))(ff:s.heap.FunFrames base (env::outer))(ef:env.frame=some L)
  (ge:s.heap.get? e=some oe) (de:oe.data=.fields vs) (sz:1<vs.size) (q:∀h' T,LeftBy ((env::outer).filterMap (·.frame)) e T s.heap h'->Q () { s with heap:=h' }):
  wpAny M A (do let a ← frameOf env;let pl ← entryPlaceOf L nx;let b ← EntryCells.newEntry hd a .none (rawInt L) .none pl;setField (.ref e) 1 b) (fun _ s'=>wpAny M A (setFlight (.ref e) none) Q E s') E s:=by
 have nf:e∉(env::outer).filterMap (·.frame):=fun m=>by
  obtain⟨_,o,ho,hn⟩:=ff.mem m
  rw[ge] at ho
  cases ho
  exact hn vs de
 refine wpAny_bind (wpAny_frameOf_fun fr ff ef fun k1 ks=>?_)
 refine wpAny_bind (wpAny_entryPlaceOf fun pl hpl=>?_)
 unfold EntryCells.newEntry newFields
 refine wpAny_bind (wpAny_newObj_type ?_ (hpl.sizeOk5 _ _ _ _ _))
 have g1:k1.get? e=some oe:=(ks.2.1 e nf).trans ge
 generalize hob:({ cls:=.type "traceback",dict:=none,data:=.fields ([hd,.ref L,.none,rawInt L,.none]++(if pl.isEmpty then List.replicate 6 Value.none else pl)).toArray }:Obj)=ob
 have g2:=Heap.get?_push_of_some (h:=k1) ob g1
 refine wpAny_setField g2 de sz ?_
 have ne:k1.objs.size≠e:=Nat.ne_of_gt (Heap.lt_size g1)
 have d3:=Obj.data_mapFields de (·.setIfInBounds 1 (Value.ref k1.objs.size))
 have g3:=Heap.get?_update_self (Obj.mapFields (·.setIfInBounds 1 (Value.ref k1.objs.size))) g2 (Obj.isFreed_of_fields d3)
 have t3:=(Heap.get?_update_other (k1.push ob) (Obj.mapFields (·.setIfInBounds 1 (Value.ref k1.objs.size))) (Ne.symm ne)).trans (Heap.get?_push_size k1 (o:=ob) (by rw[<- hob];rfl))
 unfold setFlight
 refine wpAny_bind (wpAny_field g3 d3 (x:=.ref k1.objs.size) (by simp[sz]) ?_)
 rw[if_pos (show(Value.ref k1.objs.size !=Value.none)=true from by simp)]
 have dT:ob.data=.fields ([hd,.ref L,.none,rawInt L,.none]++(if pl.isEmpty then List.replicate 6 Value.none else pl)).toArray:=by rw[<- hob]
 refine wpAny_setField t3 dT (by simp only[List.size_toArray,List.length_append,List.length_cons,List.length_nil]<;>omega) (q _ k1.objs.size ?_)
 have up:∀b o,b≠e->k1.get? b=some o->(((k1.push ob).update e (Obj.mapFields (·.setIfInBounds 1 (Value.ref k1.objs.size)))).update k1.objs.size (Obj.mapFields (·.setIfInBounds 3 ((none:Option Addr).elim Value.none fun f=>rawInt f)))).get? b=some o:=fun b o be hb=>by
  rw[Heap.get?_update_other _ _ (show k1.objs.size≠b from Nat.ne_of_gt (Heap.lt_size hb)),Heap.get?_update_other _ _ (Ne.symm be)]
  exact Heap.get?_push_of_some _ hb
 refine⟨fun b o be bf hb=>up b o be ((ks.2.1 b bf).trans hb),fun b o be hb=>?_,fun oe2 vs2 h1 h2=>?_,?_,?_⟩
 ·obtain⟨sl,hs⟩:=ks.2.2 b o hb
  exact⟨sl,up b _ be hs⟩
 ·rw[ge] at h1
  cases h1
  rw[de] at h2
  cases h2
  refine⟨_,(Heap.get?_update_other _ _ ne).trans g3,Obj.cls_mapFields _ _,?_,d3⟩
  obtain⟨c,dd,dt,sl⟩:=oe
  cases de
  rfl
 ·have:s.heap.objs.size=k1.objs.size:=ks.1.symm
  rw[<- this]
  exact Heap.get?_none_of_le (Nat.le_refl _)
 ·refine⟨_,_,Heap.get?_update_self _ t3 (Obj.isFreed_of_fields (Obj.data_mapFields dT _)),Obj.data_mapFields dT _,?_⟩
  first|(simp;done)|(rcases hpl with rfl|⟨_,_,_,_,_,_,_,rfl⟩<;>simp)
end
end L2
namespace L2
open PySem PySem.Spec PyProof.Rows
section
variable {M:Model} {A:Around} {E:Value->Shared->Prop} {s:Shared}
theorem leave_first {base:Heap}{env:Env}{outer:List Env}{L e:Addr}{oe:Obj}{vs:Array Value}{Q:Unit->Shared->Prop}(fr:A.frames=some (env::outer))(ff:s.heap.FunFrames base (env::outer))(ef:env.frame=some L)
  (ge:s.heap.get? e=some oe) (de:oe.data=.fields vs) (v1:vs[1]?=some .none) (q:∀h' T,LeftBy ((env::outer).filterMap (·.frame)) e T s.heap h'->Q () { s with heap:=h' }):wpAny M A (leaving env (.ref e)) Q E s:=by
 unfold leaving noteFrame
 simp only[ef]
 refine wpAny_bind (wpAny_bind (wpAny_field ge de v1 ?_))
 rw[if_neg (by decide)]
 exact note_new fr ff ef ge de (Array.getElem?_eq_some_iff.mp v1).1 q
end
theorem ObjOk.there {P:Program}{w:World}{H:Hp}{h:Heap}{a:Addr}{o:HO}(x:ObjOk P w H h a o):∃ob,h.get? a=some ob:=by
 cases o with
 |lst xs=>obtain⟨_,_,_,_,e⟩:=x;exact⟨_,e⟩
 |tup xs=>obtain⟨_,_,_,ob,e,_⟩:=x;exact⟨ob,e⟩
 |dK kvs=>obtain⟨_,_,_,_,o,_,_,e,_⟩:=x;exact⟨_,e⟩
 |dT kvs=>obtain⟨_,_,_,_,o,_,_,e,_⟩:=x;exact⟨_,e⟩
 |set S n=>obtain⟨o,_,_,_,e,_⟩:=x;exact⟨_,e⟩
 |ins C dx fs=>obtain⟨_,_,_,e,_⟩:=x;exact⟨_,e⟩
 |own y=>obtain⟨_,e⟩:=x;exact⟨_,e⟩
 |xd fs=>obtain⟨_,⟨_,_,_,e,_⟩,_⟩:=x;exact⟨_,e⟩
 |rng lo hi=>obtain⟨_,_,_,e⟩:=x;exact⟨_,e⟩
 |frz ob u=>exact⟨ob,x.1⟩
 |tbl ps=>exact⟨_,x⟩
 |met f y=>exact⟨_,x⟩
 |ext φ=>obtain⟨_,⟨ob,e⟩,_⟩:=x;exact⟨ob,e⟩
def Fly (h h':Heap)(H':Hp)(a C:Addr)(dd:Option Addr):Prop:=h.get? a=none/\H' a=none/\∃oe vs T oT ts,h'.get? a=some oe/\oe.cls=.ref C/\oe.dict=dd/\oe.data=.fields vs/\vs[1]?=some (.ref T)/\T≠a/\h.get? T=none/\H' T=none/\h'.get? T=some oT/\oT.data=.fields ts/\ts[3]?=some .none
def CX1 (P:Program)(w:World):CXT:=fun outer H s E e s'=>∃(a C:Addr) (dd:Option Addr) (H':Hp),e=.ref a/\s'.os=s.os/\AllBare s'.gens/\Un (frs outer) [] H H' s.heap s'.heap/\HOk P w H' s'.heap/\Fly s.heap s'.heap H' a C dd/\E (.ref C) dd H'
end L2
namespace L2
open PySem PySem.Spec PyProof.Rows
section
variable {M:Model} {A:Around} {E:Value->Shared->Prop} {s:Shared}
theorem leave_next {base:Heap}{env:Env}{outer:List Env}{L e T0:Addr}{oe oT:Obj}{vs ts:Array Value}{Q:Unit->Shared->Prop}(fr:A.frames=some (env::outer))(ff:s.heap.FunFrames base (env::outer))(ef:env.frame=some L)
  (ge:s.heap.get? e=some oe) (de:oe.data=.fields vs) (v1:vs[1]?=some (.ref T0)) (gT:s.heap.get? T0=some oT) (dT:oT.data=.fields ts) (t3:ts[3]?=some .none) (ne:T0≠e)
  (q:∀h1 h' T,(∀b,b≠T0->h1.get? b=s.heap.get? b)->(∃o,h1.get? T0=some o)->LeftBy ((env::outer).filterMap (·.frame)) e T h1 h'->Q () { s with heap:=h' }):wpAny M A (leaving env (.ref e)) Q E s:=by
 unfold leaving noteFrame
 simp only[ef]
 refine wpAny_bind (wpAny_bind (wpAny_field ge de v1 ?_))
 rw[if_pos (show(Value.ref T0 !=Value.none)=true from by simp)]
 refine wpAny_bind (wpAny_field gT dT t3 ?_)
 rw[if_neg (show ¬((Value.none==rawInt L)=true) from by simp[rawInt])]
 refine wpAny_bind (wpAny_setField gT dT (Array.getElem?_eq_some_iff.mp t3).1 ?_)
 have oth:∀b,b≠T0->(s.heap.update T0 (Obj.mapFields (·.setIfInBounds 3 Value.none))).get? b=s.heap.get? b:=fun b hb=>Heap.get?_update_other _ _ (Ne.symm hb)
 have there:=Heap.get?_update_self (Obj.mapFields (·.setIfInBounds 3 Value.none)) gT (Obj.isFreed_of_fields (Obj.data_mapFields dT _))
 have nr:∀b o,s.heap.get? b=some o->(∀us,o.data≠.fields us)->b≠T0:=fun b o hb hn z=>by
  rw[z,gT] at hb
  cases hb
  exact hn ts dT
 exact note_new (s:={ s with heap:=s.heap.update T0 (Obj.mapFields (·.setIfInBounds 3 Value.none)) }) fr (ff.of_keeps fun b o hb hn=>⟨o,(oth b (nr b o hb hn)).trans hb,rfl⟩) ef ((oth e (Ne.symm ne)).trans ge) de (Array.getElem?_eq_some_iff.mp v1).1 fun h' T lb=>q _ h' T oth ⟨_,there⟩ lb
end
theorem Fun.okX {P:Program}{w:World}{K:W.Frag}{mg:Str->Option Value}{base:Heap}{x qual:Str}{st:Stmt}{f:Addr}{fd:FuncData}{N ps:List Str}{k:Nat}{sp:Sp}(F:Fun K x qual st f fd)(S:FnScope N ps (defScope st))(len:∀vs H Q E,sp vs H Q E->vs.length=ps.length)
  (hbody:∀(cdv:Value) (A:Around) (outer:List Env) (s:Shared) (H:Hp) (vs:List V) (Q:VK) (E:XK),Room k (A.deeper (envOfC qual (defScope st) s.heap.objs.size f cdv))->sp vs H Q E→
   ∃t,PSs (cxOf (CX1 P w) P w K mg base N qual (defScope st) f cdv A outer s H E) (defBody st) t/\t { nx:=fun _ H'=>Q .non H',rt:=Q } (start N vs) H):FnOk P w K mg base (CX1 P w) (k+1) f fd ps sp:=by
 obtain⟨oc,od,kV,doc,pm,an,cdv,ct,osl,rfl,lk,hcd⟩:=F.ex
 exact fn_of lk hcd S len fun A outer s H vs Q E hr hsp=>hbody cdv A outer s H vs Q E hr hsp
theorem pass1 {P:Program}{w:World}{K:W.Frag}{mg:Str->Option Value}{base:Heap}{N:List Str}{qual:Str}{scope:Scope}{f:Addr}{cd:Value}{A:Around}{outer:List Env}{s:Shared}{H:Hp}{E:XK}:
  Passes (CX1 P w) (cxOf (CX1 P w) P w K mg base N qual scope f cd A outer s H E) E:=by
 intro pins σ H1 s1 e s' I hx
 obtain⟨a,C,dd,H2,rfl,hos,hgen,un,hok,⟨n1,n2,oe,vs,T0,oT,ts,g1,g2,gd,g3,g4,g5,g6,g7,g8,g9,g10⟩,hE⟩:=hx
 obtain⟨hh,g,d,t,os'⟩:=s'
 obtain rfl:os'=s1.os:=hos
 have I2:Inv (cxOf (CX1 P w) P w K mg base N qual scope f cd A outer s H E) pins σ H2 ⟨hh,g,d,t,s1.os⟩:=I.call (h':=hh) (g':=g) (d':=d) (t':=t) (ch:=[]) un hok hgen (fun b z=>absurd z (by simp))
 have fr:(A.deeper (envOfC qual scope s.heap.objs.size f cd)).frames=some (envOfC qual scope s.heap.objs.size f cd::outer):=I.ok.frames
 have fE:∀b∈(envOfC qual scope s.heap.objs.size f cd::outer).filterMap (·.frame),H2 b=none:=I2.stkFree
 have old1:∀b,s1.heap.get? b=none->s.heap.get? b=none:=fun b hb=>by
  cases q:s.heap.get? b with
  |none=>rfl
  |some o=>
   obtain⟨o',z⟩:=I.base.there b o q (by show b∉([]:List Addr);simp)
   rw[hb] at z
   cases z
 have old2:∀b,hh.get? b=none->s.heap.get? b=none:=fun b hb=>by
  cases q:s.heap.get? b with
  |none=>rfl
  |some o=>
   obtain⟨o',z⟩:=I2.base.there b o q (by show b∉([]:List Addr);simp)
   have z':hh.get? b=some o':=z
   rw[hb] at z'
   cases z'
 have unt:∀b,hh.get? b=none->H2 b=none:=fun b hb=>by
  cases q:H2 b with
  |none=>rfl
  |some o=>
   obtain⟨ob,z⟩:=(I2.hok b o q).there
   have z':hh.get? b=some ob:=z
   rw[hb] at z'
   cases z'
 refine leave_next (s:=⟨hh,g,d,t,s1.os⟩) fr I2.stack rfl g1 g3 g4 g8 g9 g10 g5 fun h1 h' T o1 o2 lb=>?_
 have na:∀b o,s.heap.get? b=some o->b≠a/\b≠T0:=fun b o hb=>by
  refine⟨fun z=>?_,fun z=>?_⟩
  ·rw[z,old1 a n1] at hb
   cases hb
  ·rw[z,old1 T0 g6] at hb
   cases hb
 have nL:∀b o,s.heap.get? b=some o->b∉frs outer->b∉(envOfC qual scope s.heap.objs.size f cd::outer).filterMap (·.frame):=fun b o hb hf hm=>by
  rcases List.mem_cons.mp (show b∈s.heap.objs.size::frs outer from hm) with z|z
  ·exact absurd (Heap.lt_size hb) (by rw[z];exact Nat.lt_irrefl _)
  ·exact hf z
 have hTT:T≠T0:=fun z=>by
  obtain⟨o,q⟩:=o2
  rw[<- z,lb.new] at q
  cases q
 have hT:hh.get? T=none:=(o1 T hTT).symm.trans lb.new
 refine⟨a,C,dd,H2,rfl,I2.os,I2.bare,⟨fun b o hb hn hf hx=>?_,fun b o hb hn hf hx=>?_,fun b o hb hn hx=>I2.base.free b o hb hn hx,fun b o hb hx=>?_,I2.base.tups,I2.base.frzs,I2.base.tbls⟩,fun b o hb=>?_,⟨old1 a n1,n2,?_⟩,hE⟩
 ·have q:hh.get? b=some o:=I2.base.keep b o hb hn hf hx
  exact lb.keep b o (na b o hb).1 (nL b o hb hf) ((o1 b (na b o hb).2).trans q)
 ·obtain⟨sl,q⟩:=I2.base.slot b o hb hn hf hx
  have q':hh.get? b=some { o with slots:=sl }:=q
  obtain⟨sl2,q2⟩:=lb.slot b _ (na b o hb).1 ((o1 b (na b o hb).2).trans q')
  exact⟨sl2,q2⟩
 ·obtain⟨o',q⟩:=I2.base.there b o hb hx
  have q':hh.get? b=some o':=q
  obtain⟨sl,q2⟩:=lb.slot b o' (na b o hb).1 ((o1 b (na b o hb).2).trans q')
  exact⟨_,q2⟩
 ·refine(I2.hok b o hb).stay (fun c u z hc=>?_) (fun c z=>z) fun c xs z=>z
  have hc2:H2 c≠none:=fun q=>by
   rcases z with z|z
   ·rw[z,hb] at q
    cases q
   ·rw[z] at q
    cases q
  exact lb.keep c u (fun z=>hc2 (by rw[z];exact n2)) (fun hm=>hc2 (fE c hm)) ((o1 c (fun z=>hc2 (by rw[z];exact g7))).trans hc)
 ·obtain⟨oe',q1,q2,q3,q4⟩:=lb.exc oe vs ((o1 a (Ne.symm g5)).trans g1) g3
  obtain⟨oT',ts',t1,t2,t3⟩:=lb.tr
  refine⟨oe',_,T,oT',ts',q1,q2.trans g2,q3.trans gd,q4,?_,fun z=>?_,old2 T hT,unt T hT,t1,t2,t3⟩
  ·have:=(Array.getElem?_eq_some_iff.mp g4).1
   simp[this]
  ·have g1':hh.get? a=some oe:=g1
   rw[<- z,hT] at g1'
   cases g1'
end L2
namespace L2
open PySem PySem.Spec PyProof.Rows
abbrev ExK:=St->Addr->Option Addr->Hp->Prop
def Fr0 (X:Cx)(pins:List (Addr×Obj))(h0:Heap):Prop:=(∀b,h0.get? b=none->X.s₀.heap.get? b=none\/b∈X.ex)/\∀p∈X.pn++pins,h0.get? p.1=some p.2
theorem Inv.fr0 {X:Cx}{pins:List (Addr×Obj)}{σ:St}{H:Hp}{s:Shared}(I:Inv X pins σ H s):Fr0 X pins s.heap:=by
 refine⟨fun b hb=>?_,fun p hp=>(I.pin p hp).1⟩
 by_cases hx:b∈X.ex
 ·exact .inr hx
 ·refine .inl ?_
  cases q:X.s₀.heap.get? b with
  |none=>rfl
  |some o=>
   obtain⟨o',z⟩:=I.base.there b o q hx
   rw[hb] at z
   cases z
def XF (X:Cx)(pins:List (Addr×Obj))(Ex:ExK)(e:Value)(s':Shared):Prop:=∃(h0:Heap) (a C:Addr) (dd:Option Addr) (σ':St) (H':Hp),e=.ref a/\Inv X pins σ' H' s'/\Fly h0 s'.heap H' a C dd/\Fr0 X pins h0/\Ex σ' C dd H'
abbrev TX:=St->Hp->VK->ExK->Prop
def PEX (X:Cx)(e:Expr)(t:TX):Prop:=∀(pins:List (Addr×Obj)) (s:Shared) (σ:St) (H:Hp) (Q:VK) (Ex:ExK),Inv X pins σ H s->t σ H Q Ex->wpAny (model X.prog X.w) X.A (eval e X.env) (EP X pins σ Q) (XF X pins Ex) s
end L2
namespace L2
open PySem PySem.Spec PyProof.Rows
section
variable {X:Cx} {pins:List (Addr×Obj)} {σ:St} {H H':Hp} {s:Shared} {h0 h':Heap} {ch:List Addr}
theorem Inv.flown {t':Nat}(I:Inv X pins σ H s)(f:Fr0 X pins h0)(hc:∀b∈ch,h0.get? b=none/\∃o vs,s.heap.get? b=some o/\o.data=.fields vs)
  (keep:∀b o,b∉ch->b∉frs X.stack->s.heap.get? b=some o->h'.get? b=some o) (slot:∀b o,b∉ch->s.heap.get? b=some o->∃sl,h'.get? b=some { o with slots:=sl })
  (free:∀b o,b∉ch->s.heap.get? b=some o->H b=none->H' b=none) (tups:∀b xs,H b=some (.tup xs)->H' b=some (.tup xs)) (frzs:∀b o u,H b=some (.frz o u)->H' b=some (.frz o u))
  (tbls:∀b ps,H b=some (.tbl ps)->∃more,H' b=some (.tbl (ps++more))) (hok:HOk X.prog X.w H' h'):Inv X pins σ H' { s with heap:=h',toks:=t' }:=by
 have nL:∀b∈ch,b≠X.env.locals:=fun b hb z=>by
  obtain⟨_,o,vs,ho,hd⟩:=hc b hb
  obtain⟨m,⟨o',es,ep,ho',hd',_⟩,_⟩:=I.loc
  rw[z,ho'] at ho
  cases ho
  rw[hd'] at hd
  cases hd
 have nC:∀b∈ch,∀x c,X.env.cells.lookup x=some c->c≠b:=fun b hb x c e z=>by
  obtain⟨_,o,vs,ho,hd⟩:=hc b hb
  obtain⟨v,o',ho',hd'⟩:=I.cell x c e
  rw[z,ho] at ho'
  cases ho'
  rw[hd] at hd'
  cases hd'
 have nF:∀b∈ch,b∉X.fs:=fun b hb z=>by
  obtain⟨_,o,vs,ho,hd⟩:=hc b hb
  obtain⟨_,o',ho',hn⟩:=I.funs.mem z
  rw[ho] at ho'
  cases ho'
  exact hn vs hd
 have n0:∀b∈ch,X.s₀.heap.get? b=none\/b∈X.ex:=fun b hb=>f.1 b (hc b hb).1
 have nP:∀b∈ch,∀p∈X.pn++pins,p.1≠b:=fun b hb p hp z=>by
  have e:=f.2 p hp
  rw[z,(hc b hb).1] at e
  cases e
 have old:∀b o,X.s₀.heap.get? b=some o->b∉X.ex->b∉ch++X.ex:=fun b o e hx hm=>by
  rcases List.mem_append.mp hm with z|z
  ·rcases n0 b z with q|q
   ·rw[e] at q
    cases q
   ·exact hx q
  ·exact hx z
 have ok':Cx.Ok { X with ex:=ch++X.ex }:=⟨I.ok.mod,I.ok.kind,I.ok.glob,I.ok.blt,I.ok.above,I.ok.inj,I.ok.has,I.ok.cab,I.ok.hd,I.ok.frames,I.ok.stk,
  fun b hb=>(List.mem_append.mp hb).elim (fun z=>⟨nL b z,nC b z⟩) (I.ok.exf b),I.ok.bs,I.ok.bsz,fun b o e=>old b o (I.ok.bs b o e).1 (I.ok.noex b o e),fun b hb=>(List.mem_append.mp hb).elim (nF b) (I.ok.exfs b),I.ok.funs,I.ok.frf⟩
 have I':Inv { X with ex:=ch++X.ex } pins σ H s:=⟨ok',I.os,I.bare,⟨fun b o e n hb hx=>I.base.keep b o e n hb fun z=>hx (List.mem_append_right _ z),fun b o e n hb hx=>I.base.slot b o e n hb fun z=>hx (List.mem_append_right _ z),
  fun b o e n hx=>I.base.free b o e n fun z=>hx (List.mem_append_right _ z),fun b o e hx=>I.base.there b o e fun z=>hx (List.mem_append_right _ z),I.base.tups,I.base.frzs,I.base.tbls⟩,I.loc,I.cell,I.free,I.freeC,I.pin,I.hok,I.len⟩
 obtain⟨m,⟨o,es,ep,ho,r⟩,_⟩:=id I.loc
 obtain⟨sl,hL⟩:=slot X.env.locals o (fun z=>nL _ z rfl) ho
 have J:=I'.step (g':=s.gens) (d':=s.drawn) (t':=t') (h':=h') (H':=H') (ch:=ch) (fun b hb=>⟨.inl (List.mem_append_left _ hb),nL b hb,nC b hb,nP b hb⟩)
  (fun b o hL hb hc e n=>keep b o hc (fun z=>(List.mem_cons.mp (I.stkSub b z)).elim hL hb) e) (fun b o _ _ hc e n=>slot b o hc e) free (fun b o hc e=>(slot b o hc e).elim fun sl z=>⟨_,z⟩) tups frzs tbls (fun m' hm=>by
   obtain⟨o',es',ep',ho',r'⟩:=hm
   rw[ho] at ho'
   cases ho'
   exact⟨_,es',ep',hL,r'⟩) hok I.bare
 exact⟨I.ok,J.os,J.bare,⟨fun b o e n hb hx=>J.base.keep b o e n hb (old b o e hx),fun b o e n hb hx=>J.base.slot b o e n hb (old b o e hx),fun b o e n hx=>J.base.free b o e n (old b o e hx),fun b o e hx=>J.base.there b o e (old b o e hx),
  J.base.tups,J.base.frzs,J.base.tbls⟩,J.loc,J.cell,J.free,J.freeC,J.pin,J.hok,J.len⟩
end
end L2
namespace L2
open PySem PySem.Spec PyProof.Rows
def ExcNew (a C:Addr)(dd:Option Addr)(h:Heap):Prop:=∃oe vs,h.get? a=some oe/\oe.cls=.ref C/\oe.dict=dd/\oe.data=.fields vs/\vs[1]?=some .none
abbrev bmV0:List Value:=[.type "ValueError",.type "Exception",.type "BaseException",.type "object"]
def onlyV:List Value->Bool
 |.ref _::r=>onlyV r
 |l=>l==bmV0
theorem refuse_onlyV (self:Value):∀{l:List Value},onlyV l=true->PySem.refuseLoop self "__setattr__" l=pure ()
 |.ref c::r,e=>by
  rw[PySem.refuseLoop_ref]
  exact refuse_onlyV self (l:=r) e
 | [],e=>by cases e
 |.type n::r,e=>by
  have h:(Value.type n::r)=bmV0:=beq_iff_eq.mp e
  rw[h]
  exact PySem.F.store_ValueError.passes self
 |.none::r,e=>by cases beq_iff_eq.mp (show((Value.none::r)==bmV0)=true from e)
 |.bool _::r,e=>by cases beq_iff_eq.mp (show((Value.bool _::r)==bmV0)=true from e)
 |.int _ _::r,e=>by cases beq_iff_eq.mp (show((Value.int _ _::r)==bmV0)=true from e)
 |.float _ _::r,e=>by cases beq_iff_eq.mp (show((Value.float _ _::r)==bmV0)=true from e)
 |.str _ _::r,e=>by cases beq_iff_eq.mp (show((Value.str _ _::r)==bmV0)=true from e)
 |.bytes _ _::r,e=>by cases beq_iff_eq.mp (show((Value.bytes _ _::r)==bmV0)=true from e)
 |.builtin _::r,e=>by cases beq_iff_eq.mp (show((Value.builtin _::r)==bmV0)=true from e)
def excSet (K:W.Frag)(C:Addr)(f:Str):Bool:=W.findIn K (.ref C) "__setattr__"==some (some (.builtin "object.__setattr__"))&&(W.clsIn K C).any (fun cd=>onlyV cd.mro&&cd.hasDict)
 &&W.findIn K (.ref C) f==some none&&W.mroIn K C (.type "object")==some true
section
variable {prog:Program} {w:World} {A:Around} {E:Value->Shared->Prop} {s:Shared} {K:W.Frag} {a C:Addr} {f:Str} {v:Value}
theorem exc_store {Q:Unit->Shared->Prop}(hq:excSet K C f=true)(X:K.In s.heap)(x:ExcNew a C none s.heap)
  (h:∀h' tk,ExcNew a C (some s.heap.objs.size) h'->h'.Ns1 s.heap.objs.size (fun y=>if y=f then some v else none)->(∀b o,b≠a->s.heap.get? b=some o->h'.get? b=some o)->Q () { s with heap:=h',toks:=tk }):
  wpAny (model prog w) A (setAttr (.ref a) f v) Q E s:=by
 obtain⟨oe,vs,ge,ce,de,da,v1⟩:=x
 have I:W.InstAt s.heap a oe C none:=⟨ge,ce,by unfold W.notCls;rw[da],by rw[de];trivial⟩
 unfold excSet at hq
 simp only[Bool.and_eq_true,beq_iff_eq] at hq
 obtain⟨⟨⟨h1,h2⟩,h3⟩,h4⟩:=hq
 obtain⟨cd,hc,hm⟩:=W.any_some h2
 rw[Bool.and_eq_true] at hm
 obtain⟨hm,hd⟩:=hm
 have SF:=PySem.F.store_object
 refine W.set_plain X I h1 ?_
 obtain⟨hh,g,d,t,os⟩:=s
 have sub:W.Looks (model prog w) hh (isInstance (.ref a) (.type "object")) true:=I.type.andThen (W.looks_mroIn X h4)
 refine codeAny_call_builtin SF.slot.plain SF.entry (@W.check_slot (model prog w) _ _ ⟨hh,g,d,t+1,os⟩ "object.__setattr__" "object" "__setattr__" (.ref a) [.str f t,v] [] _ SF.kind SF.split sub (SF.args (.ref a) (.str f t) v) ?_)
 have hmr:W.Looks (model prog w) hh (mroOf (.ref C)) cd.mro:=(W.looks_clsIn X hc).andThen .now
 rw[W.osa_eq,PySem.refuse_eq]
 refine wpAny_bind (wpAny_bind (I.type.at (wpAny_bind (hmr.at ?_))))
 rw[refuse_onlyV _ hm]
 refine wpAny_pure (wpAny_bind (I.type.at (wpAny_bind ((W.looks_findIn X h3).at (wpAny_bind (wpAny_pure (a:=none) ?_))))))
 show wpAny _ _ (Builtin.ObjectAttr.storeInOwnDict (.ref a) (.ref C) (.str f t) f v false) _ _ _
 obtain⟨oc,odi,oda,osl⟩:=oe
 dsimp only at ce de da
 subst ce de da
 refine wpAny_bind (wpAny_pure (wpAny_bind (wpAny_bind (wpAny_loadPart ge (wpAny_bind ((W.looks_clsIn X hc).at ?_))))))
 rw[hd]
 have hx1:(hh.push { cls:=.type "dict",data:=.dict #[] }).get? a=some ⟨.ref C,none,.fields vs,osl⟩:=Heap.get?_push_of_some _ ge
 have hxs:a≠hh.objs.size:=Nat.ne_of_lt (Heap.lt_size ge)
 refine wpAny_bind (wpAny_alloc' ?_)
 refine wpAny_bind (wpAny_update' hx1 ?_)
 refine wpAny_pure (a:=some hh.objs.size) ?_
 have hgd:((hh.push { cls:=.type "dict",data:=.dict #[] }).update a fun o=>{ cls:=o.cls,dict:=some hh.objs.size,data:=o.data,slots:=o.slots }).get? hh.objs.size=some { cls:=.type "dict",data:=.dict #[] }:=
  (Heap.get?_update_ne _ _ _ _ hxs.symm).trans (Heap.get?_push_at rfl rfl)
 have hnd:((hh.push { cls:=.type "dict",data:=.dict #[] }).update a fun o=>{ cls:=o.cls,dict:=some hh.objs.size,data:=o.data,slots:=o.slots }).Ns hh.objs.size (fun _=>none):=
  ⟨_,#[],_,hgd,rfl,fun e he=>absurd he (by simp),fun _=>rfl⟩
 show wpAny _ _ (Builtin.ObjectAttr.storeInDict hh.objs.size (.str f t) f v) _ _ _
 unfold Builtin.ObjectAttr.storeInDict Builtin.ObjectAttr.newKeyGuard
 refine wpAny_bind (wpAny_pure (wpAny_bind (wpAny_nsSet1 (Heap.Ns1.of_empty hnd) fun h' hn' hs=>?_)))
 obtain⟨oD,esD,epD,hoD,hdD,hcD⟩:=hn'.count (PySem.Within.cons f v PySem.Within.nil)
 refine wpAny_bind (wpAny_lookBehind hoD (by rw[hdD];exact pastItsLine_dict (Nat.le_trans hcD (by rw[List.length_cons,List.length_nil,sizeLine_eq];omega))) ?_)
 refine wpAny_pure (h h' _ ⟨⟨.ref C,some hh.objs.size,.fields vs,osl⟩,vs,?_,rfl,rfl,rfl,v1⟩ hn' fun b o hb e=>?_)
 ·exact(hs.2 a hxs).trans (Heap.get?_update_self _ hx1 rfl)
 ·exact(hs.2 b (Nat.ne_of_lt (Heap.lt_size e))).trans ((Heap.get?_update_ne _ _ _ _ hb).trans (Heap.get?_push_of_some _ e))
end
theorem setattr_x {X:Cx}{pins:List (Addr×Obj)}{σ:St}{H:Hp}{s:Shared}{A:Around}{E:Value->Shared->Prop}{a C:Addr}{f:Str}{y:V}{u:Value}{Q:Unit->Shared->Prop}(I:Inv X pins σ H s)(ha:H a=some (.ext (ExcNew a C none)))(hq:excSet X.K C f=true)(ry:RelV y u)
  (h:∀d s',H d=none->d≠a->Inv X pins σ (upd (upd H a (.ext (ExcNew a C (some d)))) d (.xd [(f,y)])) s'->Q () s'):wpAny (model X.prog X.w) A (setAttr (.ref a) f u) Q E s:=by
 have x:ExcNew a C none s.heap:=(show ObjOk X.prog X.w H s.heap a (.ext (ExcNew a C none)) from I.hok a _ ha).1
 have fresh:H s.heap.objs.size=none:=I.hok.fresh (Nat.le_refl _)
 have nda:s.heap.objs.size≠a:=fun z=>by rw[z,ha] at fresh;cases fresh
 refine exc_store hq I.kIn x fun h' tk x' n' kp=>h s.heap.objs.size _ fresh nda ?_
 have there':∀b o,s.heap.get? b=some o->∃o',h'.get? b=some o':=fun b o e=>by
  by_cases hb:b=a
  ·obtain⟨oe,_,ge,_⟩:=x'
   exact⟨oe,by rw[hb];exact ge⟩
  ·exact⟨o,kp b o hb e⟩
 have nb:∀b o,s.heap.get? b=some o->b≠s.heap.objs.size:=fun b o e=>Nat.ne_of_lt (Heap.lt_size e)
 have upK:∀b o,H b=some o->b≠a->upd (upd H a (.ext (ExcNew a C (some s.heap.objs.size)))) s.heap.objs.size (.xd [(f,y)]) b=some o:=fun b o e hb=>by
  rw[upd_ne (ne_of_none e fresh),upd_ne hb]
  exact e
 have nx:∀{b:Addr} {o:HO},H b=some o->(∀φ,o≠.ext φ)->b≠a:=fun {b o} e n z=>by
  rw[z,ha] at e
  cases e
  exact n _ rfl
 have nfree:∀{b:Addr},H b=none->b≠a:=fun {b} e z=>by
  rw[z,ha] at e
  cases e
 refine I.step (g':=s.gens) (d':=s.drawn) (ch:=[]) (fun _ z=>nomatch z) (fun b o _ _ _ e n=>kp b o (nfree n) e) (fun b o _ _ _ e n=>⟨o.slots,kp b o (nfree n) e⟩) (fun b o _ e n=>?_) (fun b o _ e=>there' b o e)
  (fun b xs e=>upK b _ e (nx e fun _ z=>by cases z)) (fun b o u e=>upK b _ e (nx e fun _ z=>by cases z)) (fun b ps e=>⟨#[],by rw[upK b _ e (nx e fun _ z=>by cases z)];simp⟩) (fun m hm=>?_) (fun b o e=>?_) I.bare
 ·rw[upd_ne (nb b o e),upd_ne (nfree n)]
  exact n
 ·obtain⟨o,es,ep,ho,r⟩:=hm
  exact⟨o,es,ep,kp _ o (nfree I.free) ho,r⟩
 ·by_cases hd:b=s.heap.objs.size
  ·subst hd
   rw[upd_same] at e
   cases e
   refine⟨_,n',fun g=>?_⟩
   by_cases hg:g=f
   ·subst hg
    simp only[List.lookup,beq_self_eq_true,if_true]
    exact ry
   ·have hb:(g==f)=false:=beq_eq_false_iff_ne.mpr hg
    simp only[List.lookup,hb,if_neg hg]
    trivial
  ·rw[upd_ne hd] at e
   by_cases hb:b=a
   ·subst hb
    rw[upd_same] at e
    cases e
    obtain⟨oe,vs,ge,r⟩:=id x'
    exact⟨x',⟨_,ge⟩,fun k1 k2 ⟨o,v,e1,r⟩ k=>⟨o,v,k _ e1,r⟩⟩
   ·rw[upd_ne hb] at e
    refine(I.hok b o e).stay (fun c w' hc q=>kp c w' (fun z=>?_) q) (fun c z=>upK c _ z (nx z fun _ z=>by cases z)) fun c xs z=>upK c _ z (nx z fun _ z=>by cases z)
    subst z
    rcases hc with z|z
    ·exact hb z.symm
    ·rw[ha] at z
     cases z
def sXfld (K:W.Frag)(ta tv:TE)(f:Str):TS:=fun D σ H=>tv σ H fun y H1=>ta σ H1 fun x H2=>∃a C,x=.ref a/\H2 a=some (.ext (ExcNew a C none))/\excSet K C f=true/\∀d,H2 d=none->d≠a->D.nx σ (upd (upd H2 a (.ext (ExcNew a C (some d)))) d (.xd [(f,y)]))
theorem ps_xfld {X:Cx}{o value:Expr}{f:Str}{ta tv:TE}{pos pos':Pos}(ha:PE X o ta)(hv:PE X value tv)(hs:swapsWith value (some (.Attribute o f pos')) pos.line X.env=pure false):PS X (.Assign [.Attribute o f pos'] value pos) (sXfld X.K ta tv f):=by
 intro pins s σ H D I h
 refine plainObj_wpAny_Assign_Attribute (thn (hv pins s σ H _ I h) fun u s1 ⟨y,H1,I1,ry,q⟩=>thn (ha pins s1 σ H1 _ I1 q) fun ov s2 ⟨x,H2,I2,rx,a,C,ex,ea,c,q2⟩=>?_) hs
 subst ex
 obtain rfl:ov=Value.ref a:=rx
 exact setattr_x I2 ea c ry fun d s3 hd hn I3=>⟨σ,_,I3,q2 d hd hn⟩
end L2
namespace L2
open PySem PySem.Spec PyProof.Rows
section
variable {prog:Program} {w:World} {A:Around} {E:Value->Shared->Prop} {h:Heap} {g:Array GenState} {d:Drawn} {t:Nat} {os:OsState}
variable {nm q:Str} {C N:Addr} {bs bm bmB:List Value} {hdct:Bool} {sn:List Str} {sub:List Value} {ab:Bool} {col:Option Bool} {dd:Option Addr} {k0 k1 k2 k3 k5:Option Value} {B newId initId:String}
theorem type_call_initT (F:ExcBaseFacts B newId initId bmB)(T:OwnTail h bmB bm){mN:Str->Option Value}{rest:List Value}{fI:Addr}{oI:Obj}{Q:Fin->Shared->Prop}
  (hC:h.get? C=some (excClassObj nm q C N bs bm hdct sn sub ab col dd k0 k1 k2 k3 k5 newId)) (hn:h.Ns N mN) (hi:mN "__init__"=some (.ref fI)) (hfI:h.get? fI=some oI) (hfc:oI.cls=.type "function")
  (hq:∀h' e,Heap.MadeExcOf h h' e (.ref C) rest->wpAny (model prog w) A (call (.ref fI) (.ref e::rest)) (fun r s'=>r=.none/\Q (.done (.ret (.ref e))) s') E ⟨h',g,d,t,os⟩) (hrest:rest.length<=sizeLine):
  wpAny (model prog w) A (Builtin.«type.__call__» ⟨.ref C::rest,[]⟩) Q E ⟨h,g,d,t,os⟩:=by
 repeat (first|with_reducible refine wpAny_loadPart_at hC ?_|with_reducible refine wpAny_madeBy_exc hC ?_|wp_step)
 refine codeAny_call_builtin_code (Code.quiet_builtin _ F.quiet) (wpAny_check_new_subT F T hC ?_)
 refine codeAny_exc_new_subT F T hC ?_ hrest
 show wpAny _ _ _ _ _ _
 have up:∀b o,h.get? b=some o->((h.push { cls:=.type "tuple",data:=.seq rest.toArray }).push { cls:=.ref C,data:=.fields #[.ref h.objs.size,.none,.none,.none,.bool false,.none] }).get? b=some o:=fun b o e=>Heap.get?_push_of_some _ (Heap.get?_push_of_some _ e)
 have hC1:=up _ _ hC
 have hfI1:=up _ _ hfI
 have hn1:((h.push { cls:=.type "tuple",data:=.seq rest.toArray }).push { cls:=.ref C,data:=.fields #[.ref h.objs.size,.none,.none,.none,.bool false,.none] }).Ns N mN:=
  let ⟨o,es,ep,e,r⟩:=hn;⟨o,es,ep,up _ _ e,r⟩
 have hget:((h.push { cls:=.type "tuple",data:=.seq rest.toArray }).push { cls:=.ref C,data:=.fields #[.ref h.objs.size,.none,.none,.none,.bool false,.none] }).get? (h.objs.size+1)=some
   { cls:=.ref C,data:=.fields #[.ref h.objs.size,.none,.none,.none,.bool false,.none] }:=by heap_get
 have hcC:(Value.ref C::bm).contains (.ref C)=true:=by simp
 have T1:=T.keeps up
 unfold isInstance
 repeat (first|with_reducible refine wpAny_loadPart_at hget ?_|(with_reducible refine wpAny_isSubtype_exc hC1 ?_;rw[hcC])|wp_step)
 show wpAny _ _ (typeLookup (.ref C) _) _ _ _
 refine wpAny_typeLookup_tail hC1 hn1 T1 F.mroIs F.init.lookup ?_
 rw[hi]
 refine wpAny_holding (wpAny_bind ?_)
 unfold bindSpecial
 refine wpAny_bind (wpAny_typeOf (T:="function") ⟨_,hfI1,hfc⟩ ?_)
 rw[if_pos (by decide)]
 refine wpAny_pure (wpAny_bind (wpAny_mono (hq _ (h.objs.size+1) ⟨up,Heap.get?_none_of_le (Nat.le_succ _),h.objs.size,hget,Heap.get?_none_of_le (Nat.le_refl _),?_⟩) (fun r s' hr=>?_) fun _ _ x=>x))
 ·exact Heap.get?_push_of_some _ (Heap.get?_push_at rfl rfl)
 ·obtain⟨rfl,hQ⟩:=hr
  wp_walk
  exact hQ
theorem call_initT (F:ExcBaseFacts B newId initId bmB)(T:OwnTail h bmB bm){mN:Str->Option Value}{rest:List Value}{fI:Addr}{oI:Obj}{Q:Value->Shared->Prop}
  (hC:h.get? C=some (excClassObj nm q C N bs bm hdct sn sub ab col dd k0 k1 k2 k3 k5 newId)) (hn:h.Ns N mN) (hi:mN "__init__"=some (.ref fI)) (hfI:h.get? fI=some oI) (hfc:oI.cls=.type "function")
  (hq:∀h' e,Heap.MadeExcOf h h' e (.ref C) rest→
   wpAny (model prog w) (A.under (.builtin "type.__call__" ⟨.ref C::rest,[]⟩)) (call (.ref fI) (.ref e::rest)) (fun r s'=>r=.none/\Q (.ref e) s') E ⟨h',g,d,t,os⟩) (hrest:rest.length<=sizeLine):
  wpAny (model prog w) A (call (.ref C) rest) Q E ⟨h,g,d,t,os⟩:=by
 have f1:=tc_lookup
 have f2:=tc_bind (.ref C)
 have hT:(⟨h,g,d,t,os⟩:Shared).TypeIs (.ref C) "type":=⟨_,hC,rfl⟩
 refine wpAny_call (codeAny_of_tree ?_)
 show wpAny _ _ (callAny (.ref C) _) _ _ _
 repeat (any_goals (first|assumption|with_reducible refine wpAny_loadPart_at hC ?_|wp_step))
 refine⟨rfl,?_⟩
 refine codeAny_call_builtin_at (Code.quiet_builtin _ (by decide +kernel)) entry_typeCall (wpAny_check_type_call_sub hC (type_call_initT F T hC hn hi hfI hfc (fun h' e hm=>?_) hrest))
 exact hq h' e hm
end
def excInI (K:W.Frag)(C fI:Addr):Bool:=match K.lookup C with
 |some ⟨.type "type",_,.cls cd,sl⟩=>(match cd.mro,sl.toList with
  |.ref C'::bm,[_,_,_,_,some (.builtin n),_]=>C'==C&&n=="ValueError.__new__"&&!cd.hasDel&&W.tailIn K bmV0 bm&&W.nsOkIn K cd.ns&&W.nsIn K cd.ns "__init__"==some (some (.ref fI))
  |_,_=>false)
 |_=>false
end L2
namespace L2
open PySem PySem.Spec PyProof.Rows
theorem ns_of_in {K:W.Frag}{h:Heap}{N:Addr}{m:Str->Option Value}{n:Str}{v:Value}(X:K.In h)(G:h.Ns N m)(e:W.nsIn K N n=some (some v)):m n=some v:=by
 obtain⟨o,es,ep,ho,hd,_,hf⟩:=G
 unfold W.nsIn at e
 split at e
 ·rename_i c d es' n' sl q
  have:=X _ _ q
  rw[ho] at this
  cases this
  cases hd
  split at e
  ·rename_i en he
   cases e
   rw[<- hf]
   unfold nsFind findBy
   rw[<- Array.find?_toList,he]
   rfl
  ·split at e<;>cases e
 ·cases e
theorem own_KI {K:W.Frag}{h:Heap}{C fI:Addr}(X:K.In h)(hq:excInI K C fI=true):
  ∃bm N nm q bs hdct sn sub ab col dd k0 k1 k2 k3 k5 mN,h.get? C=some (excClassObj nm q C N bs bm hdct sn sub ab col dd k0 k1 k2 k3 k5 "ValueError.__new__")/\h.Ns N mN/\mN "__init__"=some (.ref fI)/\OwnTail h bmV0 bm:=by
 unfold excInI at hq
 split at hq
 ·rename_i dd cd sl ho
  split at hq
  ·rename_i C' bm k0 k1 k2 k3 n k5 hm hs
   simp only[Bool.and_eq_true,beq_iff_eq,Bool.not_eq_true'] at hq
   obtain⟨⟨⟨⟨⟨e1,e2⟩,hdel⟩,ht⟩,hok⟩,hni⟩:=hq
   subst e1 e2
   obtain⟨nm,bs,mro,ns,qn,hd,sn,sub,ab,col,del⟩:=cd
   dsimp only at hm hdel hok hni
   subst hm hdel
   have hsl:sl=#[k0,k1,k2,k3,some (.builtin "ValueError.__new__"),k5]:=Array.toList_inj.mp hs
   subst hsl
   exact⟨bm,ns,nm,qn,bs,hd,sn,sub,ab,col,dd,k0,k1,k2,k3,k5,_,X _ _ ho,.of_isNs (W.isNs_of_in X hok),ns_of_in X (.of_isNs (W.isNs_of_in X hok)) hni,W.tail_of_in X ht⟩
  ·cases hq
 ·cases hq
structure MkX (K:W.Frag)(C fI:Addr):Prop where
 ex:excInI K C fI=true
 fn:W.typeIn K (.ref fI)=some (.type "function")
 kp:W.keepIn K (.ref C)=true
section
variable {X:Cx} {CX:CXT} {k:Nat} {f C:Addr} {fd:FuncData} {ps:List Str} {sp:Sp} {dvs:List V} {ds:List Value} {E:XK} {x:Str} {p pos:Pos} {e:Expr} {es:List Expr} {t:TA}
theorem run_makeX {pins:List (Addr×Obj)}{σ:St}{H:Hp}{s:Shared}{Q:VK}{us:List Value}{vs:List V}(M:MkX X.K C f)(F:FnOk X.prog X.w X.K X.mg X.base CX k f fd ps sp)(hr:Room (k+1) X.A)(hb:Binds X.K fd ps ds)(hd:Vals dvs ds)
  (hx:Passes CX X E) (I:Inv X pins σ H s) (r:Vals vs us) (hz:vs.length<=sizeLine)
  (h:∀a,H a=none->sp (.ref a::(vs++dvs)) (upd H a (.ext (ExcNew a C none))) (fun v H2=>v=.non/\Q (.ref a) H2) E):
  wpAny (model X.prog X.w) X.A (call (.ref C) us) (EP X pins σ Q) X.xe s:=by
 obtain⟨bm,N,nm,q,bs,hdct,sn,sub,ab,col,dd,k0,k1,k2,k3,k5,mN,hC,hN,hi,T⟩:=own_KI I.kIn M.ex
 obtain⟨oI,hl,hfc⟩:=Option.map_eq_some_iff.mp (show(X.K.lookup f).map (·.cls)=some (.type "function") from M.fn)
 have hfI:=I.kIn _ _ hl
 obtain⟨hh,g,d,tk,os⟩:=s
 refine call_initT PySem.F.excBase_ValueError T hC hN hi hfI hfc (fun h' a mk=>?_) (by rw[<- r.length];exact hz)
 obtain⟨tt,g1,g2,g3⟩:=mk.there
 have fresh:H a=none:=by
  cases q:H a with
  |none=>rfl
  |some o=>
   obtain⟨ob,z⟩:=(I.hok a o q).there
   have z':hh.get? a=some ob:=z
   rw[mk.new] at z'
   cases z'
 have upK:∀b o,H b=some o->upd H a (.ext (ExcNew a C none)) b=some o:=fun b o e=>(upd_ne (ne_of_none e fresh)).trans e
 have I2:Inv X pins σ (upd H a (.ext (ExcNew a C none))) ⟨h',g,d,tk,os⟩:=I.flown (t':=tk) (ch:=[]) I.fr0 (fun b z=>absurd z (by simp)) (fun b o _ _ z=>mk.keeps b o z) (fun b o _ z=>⟨o.slots,mk.keeps b o z⟩)
  (fun b o _ z n=>(upd_ne fun z'=>by rw[z',mk.new] at z;cases z).trans n) (fun b xs z=>upK b _ z) (fun b o u z=>upK b _ z) (fun b ps z=>⟨#[],by rw[upK b _ z];simp⟩)
  (fun b o z=>by
   by_cases hb:b=a
   ·subst hb
    rw[upd_same] at z
    cases z
    exact⟨⟨_,_,g1,rfl,rfl,rfl,rfl⟩,⟨_,g1⟩,fun k1 k2 ⟨o,v,e1,r⟩ k=>⟨o,v,k _ e1,r⟩⟩
   ·rw[upd_ne hb] at z
    exact(I.hok b o z).stay (fun c u _ hc=>mk.keeps c u hc) (fun c z=>upK c _ z) fun c xs z=>upK c _ z)
 have hq:=h a fresh
 have r2:Vals (V.ref a::(vs++dvs)) (Value.ref a::(us++ds)):=.cons rfl (r.append hd)
 have hl2:(Value.ref a::us++ds).length=ps.length:=by
  have e:=r2.length
  rw[F.len _ _ _ _ hq] at e
  exact e.symm
 refine wpAny_call (codeAny_mono (F.run _ X.stack _ _ ⟨Value.ref a::us,[]⟩ (Value.ref a::(us++ds)) _ _ E (hr.make C us []) (I2.env0.make C us []) (hb _ (Value.ref a::us) I2.kIn hl2) r2 hq) fun r s' hq'=>?_)
 cases r with
 |error e=>exact hx pins σ _ _ e s' I2 hq'
 |ok fl=>
  cases fl with
  |ret u=>
   obtain⟨v,H',I3,rv,ev,q3⟩:=I2.after hq'
   subst ev
   exact⟨rv,⟨V.ref a,H',I3,rfl,q3⟩⟩
  |next=>exact False.elim hq'
  |brk=>exact False.elim hq'
  |cont=>exact False.elim hq'
def tMakeX (C:Addr)(sp:Sp)(dvs:List V)(E:XK)(t:TA):TE:=fun σ H Q=>t σ H fun vs H1=>vs.length<=sizeLine/\∀a,H1 a=none->sp (.ref a::(vs++dvs)) (upd H1 a (.ext (ExcNew a C none))) (fun v H2=>v=.non/\Q (.ref a) H2) E
theorem pe_makeX (M:MkX X.K C f)(F:FnOk X.prog X.w X.K X.mg X.base CX k f fd ps sp)(hr:Room (k+1) X.A)(hg:Gl X x)(hm:X.mg x=some (.ref C))(hb:Binds X.K fd ps ds)(hd:Vals dvs ds)(hx:Passes CX X E)
  (ha:PA X (e::es) t) (hdb:(x==("__debug__":Str))=false:=by decide) (he:starEach (e::es) X.env=(false,eval e X.env)::starEach es X.env:=by rfl) (hpl:(backTo pos (starEach es X.env)).any (·.1)=false:=by rfl):
  PE X (.Call (.Name x p) (e::es) [] pos) (tMakeX C sp dvs E t):=by
 intro pins s σ H Q I h
 refine wpAny_Call_Name_kw (ld_glob I hg hm ?_ hdb)
 refine W.callWith_K (h₀:=X.base) I.ok.mod.kin M.kp (thn (ha pos pins s σ H _ I h) fun us s1 ⟨vs,H1,I1,r,z,q⟩=>⟨I1.kIn,?_⟩) he hpl
 exact run_makeX M F hr hb hd hx I1 r z q
end
end L2
namespace L2
open PySem PySem.Spec PyProof.Rows
def untr (H:Hp)(a:Addr):Hp:=fun b=>if b=a then none else H b
theorem untr_self {H:Hp}{a:Addr}:untr H a a=none:=if_pos rfl
theorem untr_ne {H:Hp}{a b:Addr}(h:b≠a):untr H a b=H b:=if_neg h
def excRz (K:W.Frag)(C:Addr):Bool:=W.mroIn K C (.type "BaseException")==some true&&W.typeIn K (.ref C)==some (.type "type")
def ThrowsV (X:Cx)(EX:Addr->Option Addr->Hp->Prop):Prop:=∀(pins:List (Addr×Obj)) (σ:St) (H:Hp) (s:Shared) (a C:Addr) (dd:Option Addr),Inv X pins σ H s->H a=some (.ext (ExcNew a C dd))->X.H₀ a=none->EX C dd (untr H a)->X.xe (.ref a) s
def tRaise (K:W.Frag)(H0:Hp)(te:TE)(EX:Addr->Option Addr->Hp->Prop):TS:=fun _ σ H=>te σ H fun v H'=>∃a C dd,v=.ref a/\H' a=some (.ext (ExcNew a C dd))/\H0 a=none/\excRz K C=true/\EX C dd (untr H' a)
theorem ps_raiseV {X:Cx}{ex:Expr}{te:TE}{pos:Pos}{EX:Addr->Option Addr->Hp->Prop}(hc:X.calm=true)(ht:ThrowsV X EX)(he:PE X ex te):PS X (.Raise (some ex) none pos) (tRaise X.K X.H₀ te EX):=by
 intro pins s σ H D I h
 rw[arm_exec_Raise]
 refine wpAny_bind (wpAny_standAt ?_)
 unfold raiseStmt
 show wpAny _ _ ((do let v ← eval ex X.env;standAt pos;pure v) >>= _) _ _ _
 refine wpAny_bind (wpAny_bind (thn (he pins s σ H _ I h) fun u s1 ⟨v,H1,I1,rv,a,C,dd,ev,ha,h0,hz,hE⟩=>?_))
 subst ev
 obtain rfl:u=Value.ref a:=rv
 refine wpAny_bind (wpAny_standAt (wpAny_pure ?_))
 obtain⟨oe,vs,ge,ce,de,da,v1⟩:=(show ObjOk X.prog X.w H1 s1.heap a (.ext (ExcNew a C dd)) from I1.hok a _ ha).1
 unfold excRz at hz
 rw[Bool.and_eq_true] at hz
 have hd:=I.ok.hd hc
 have KX:=I1.kIn
 have hT:=ht pins σ H1 s1 a C dd I1 ha h0 hE
 obtain⟨hh,g,d,t,os⟩:=s1
 have L0:W.Looks (model X.prog X.w) hh (typeOf (.ref a)) (.ref C):=ce▸(W.Looks.ld ge).andThen .now
 have L1:=W.looks_mroIn (M:=model X.prog X.w) KX (beq_iff_eq.mp hz.1)
 have L2':=W.looks_typeIn (M:=model X.prog X.w) KX (beq_iff_eq.mp hz.2)
 have LI:W.Looks (model X.prog X.w) hh (isInstance (.ref a) (.type "BaseException")) true:=L0.andThen L1
 have LT:W.Looks (model X.prog X.w) hh (isType (.ref a)) false:=by
  intro A' Q' E' s' k q
  unfold isType loadHead
  refine wpAny_bind (wpAny_loadPart (k _ _ ge) (wpAny_pure ?_))
  rw[da]
  exact q
 have LX:W.Looks (model X.prog X.w) hh (isExcClass (.ref a)) false:=LT.andThen (by simp only[Bool.false_eq_true,if_false];exact .now)
 have LF:∀c,W.Looks (model X.prog X.w) hh (excFromValue (.ref a) c) (.ref a):=fun c=>LX.andThen (by simp only[Bool.false_eq_true,if_false];exact LI.andThen (by simp only[if_true];exact .now))
 have LR:W.Looks (model X.prog X.w) hh (raisedInstance (.ref a)) (.ref a):=L0.andThen (L2'.andThen (by rw[if_pos (by decide)];exact .now))
 refine wpAny_bind (wpAny_pure ?_)
 refine wpAny_bind (wpAny_holding ((LF _).at ?_))
 refine wpAny_bind (LT.at ?_)
 simp only[Bool.false_eq_true,if_false]
 refine wpAny_bind (LR.at ?_)
 refine wpAny_bind ?_
 unfold setFlight
 refine wpAny_bind (wpAny_field ge da v1 ?_)
 rw[if_neg (by decide)]
 exact wpAny_pure (wpAny_raiseNew_none hd hT)
theorem throwsV_cx {P:Program}{w:World}{K:W.Frag}{mg:Str->Option Value}{base:Heap}{N:List Str}{qual:Str}{scope:Scope}{f:Addr}{cd:Value}{A:Around}{outer:List Env}{s:Shared}{H:Hp}{E:XK}:
  ThrowsV (cxOf (CX1 P w) P w K mg base N qual scope f cd A outer s H E) (fun C dd H'=>E (.ref C) dd H'):=by
 intro pins σ H1 s1 a C dd I ha h0 hE
 obtain⟨oe,vs,ge,ce,de,da,v1⟩:=(show ObjOk P w H1 s1.heap a (.ext (ExcNew a C dd)) from I.hok a _ ha).1
 have fr:(A.deeper (envOfC qual scope s.heap.objs.size f cd)).frames=some (envOfC qual scope s.heap.objs.size f cd::outer):=I.ok.frames
 have fE:∀b∈(envOfC qual scope s.heap.objs.size f cd::outer).filterMap (·.frame),H1 b=none:=I.stkFree
 have newA:s.heap.get? a=none:=by
  cases q:s.heap.get? a with
  |none=>rfl
  |some o=>
   have z:=I.base.free a o q h0 (by show a∉([]:List Addr);simp)
   rw[ha] at z
   cases z
 have old1:∀b,s1.heap.get? b=none->s.heap.get? b=none:=fun b hb=>by
  cases q:s.heap.get? b with
  |none=>rfl
  |some o=>
   obtain⟨o',z⟩:=I.base.there b o q (by show b∉([]:List Addr);simp)
   rw[hb] at z
   cases z
 have unt:∀b,s1.heap.get? b=none->H1 b=none:=fun b hb=>by
  cases q:H1 b with
  |none=>rfl
  |some o=>
   obtain⟨ob,z⟩:=(I.hok b o q).there
   rw[hb] at z
   cases z
 refine leave_first (s:=s1) fr I.stack rfl ge da v1 fun h'' T lb=>?_
 have na:∀b o,s.heap.get? b=some o->b≠a:=fun b o hb z=>by
  rw[z,newA] at hb
  cases hb
 have nL:∀b o,s.heap.get? b=some o->b∉frs outer->b∉(envOfC qual scope s.heap.objs.size f cd::outer).filterMap (·.frame):=fun b o hb hf hm=>by
  rcases List.mem_cons.mp (show b∈s.heap.objs.size::frs outer from hm) with z|z
  ·exact absurd (Heap.lt_size hb) (by rw[z];exact Nat.lt_irrefl _)
  ·exact hf z
 have nx:∀{b:Addr} {o:HO},H1 b=some o->(∀φ,o≠.ext φ)->untr H1 a b=some o:=fun {b o} e n=>(untr_ne fun z=>by
  rw[z,ha] at e
  cases e
  exact n _ rfl).trans e
 refine⟨a,C,dd,untr H1 a,rfl,I.os,I.bare,⟨fun b o hb hn hf hx=>?_,fun b o hb hn hf hx=>?_,fun b o hb hn hx=>?_,fun b o hb hx=>?_,fun b xs e=>nx (I.base.tups b xs e) fun _ z=>(by cases z),fun b o u e=>nx (I.base.frzs b o u e) fun _ z=>(by cases z),fun b ps e=>?_⟩,fun b o hb=>?_,⟨newA,untr_self,?_⟩,hE⟩
 ·have q:=I.base.keep b o hb hn hf hx
  exact lb.keep b o (na b o hb) (nL b o hb hf) q
 ·obtain⟨sl,q⟩:=I.base.slot b o hb hn hf hx
  obtain⟨sl2,q2⟩:=lb.slot b _ (na b o hb) q
  exact⟨sl2,q2⟩
 ·rw[untr_ne (na b o hb)]
  exact I.base.free b o hb hn hx
 ·obtain⟨o',q⟩:=I.base.there b o hb hx
  obtain⟨sl,q2⟩:=lb.slot b o' (na b o hb) q
  exact⟨_,q2⟩
 ·obtain⟨more,q⟩:=I.base.tbls b ps e
  exact⟨more,nx q fun _ z=>by cases z⟩
 ·by_cases hba:b=a
  ·rw[hba,untr_self] at hb
   cases hb
  ·rw[untr_ne hba] at hb
   refine(I.hok b o hb).stay (fun c u z hc=>?_) (fun c z=>nx z fun _ z=>by cases z) fun c xs z=>nx z fun _ z=>by cases z
   have hca:c≠a:=fun q=>by
    rcases z with z|z
    ·exact hba (z.symm.trans q)
    ·rw[q,ha] at z
     cases z
   refine lb.keep c u hca (fun hm=>?_) hc
   have:=fE c hm
   rcases z with z|z
   ·rw[z,hb] at this
    cases this
   ·rw[z] at this
    cases this
 ·obtain⟨oe',q1,q2,q3,q4⟩:=lb.exc _ _ ge da
  obtain⟨oT,ts,t1,t2,t3⟩:=lb.tr
  have hTa:T≠a:=fun z=>by
   have:=lb.new
   rw[z,ge] at this
   cases this
  refine⟨oe',_,T,oT,ts,q1,q2.trans ce,q3.trans de,q4,?_,hTa,old1 T lb.new,(untr_ne hTa).trans (unt T lb.new),t1,t2,t3⟩
  have:=(Array.getElem?_eq_some_iff.mp v1).1
  simp[this]
end L2
namespace L2
open PySem PySem.Spec PyProof.Rows
open PySem.W (CodeHd tabObj fnMade fnX envX)
def IsCo (co:Obj)(qual:Str):Prop:=∃vs t,co.data=.fields vs/\vs[1]?=some (.str qual t)
def CoO (c:Addr)(co:Obj):HO:=.frz co (.ext fun h=>h.get? c=some co)
theorem CoO.ok {P:Program}{w:World}{H:Hp}{h:Heap}{c:Addr}{co:Obj}(e:h.get? c=some co):ObjOk P w H h c (CoO c co):=⟨e,e,⟨_,e⟩,fun _ _ z k=>k _ z⟩
def BltAt (mg:Str->Option Value)(base:Heap):Prop:=∃bm ob,mg "__builtins__"=some (.ref bm)/\bm≠builtinsNs/\base.get? bm=some ob/\ob.cls=.type "module"/\ob.dict=some builtinsNs/\ob.data=.plain
abbrev Cx.pinned (X:Cx)(p:Addr×Obj):Cx:={ X with pn:=p::X.pn }
section
variable {X:Cx} {pins:List (Addr×Obj)} {σ:St} {H:Hp} {s:Shared} {p:Addr×Obj}
theorem Cx.Ok.pinned (o:X.Ok):(X.pinned p).Ok:=⟨o.mod,o.kind,o.glob,o.blt,o.above,o.inj,o.has,o.cab,o.hd,o.frames,o.stk,o.exf,o.bs,o.bsz,o.noex,o.exfs,o.funs,o.frf⟩
theorem Cx.Ok.unpin (o:(X.pinned p).Ok):X.Ok:=⟨o.mod,o.kind,o.glob,o.blt,o.above,o.inj,o.has,o.cab,o.hd,o.frames,o.stk,o.exf,o.bs,o.bsz,o.noex,o.exfs,o.funs,o.frf⟩
theorem Inv.addpin (I:Inv X pins σ H s)(h:s.heap.get? p.1=some p.2/\H p.1=none/\p.1≠X.env.locals/\p.1∉X.fs/\∀v,p.2.data≠.cell v):Inv (X.pinned p) pins σ H s:=
 ⟨I.ok.pinned,I.os,I.bare,I.base,I.loc,I.cell,I.free,I.freeC,fun q hq=>by
  rcases List.mem_append.mp hq with hq|hq
  ·rcases List.mem_cons.mp hq with rfl|hq
   ·exact h
   ·exact I.pin q (List.mem_append_left _ hq)
  ·exact I.pin q (List.mem_append_right _ hq),I.hok,I.len⟩
theorem Inv.unpin (I:Inv (X.pinned p) pins σ H s):Inv X pins σ H s:=
 ⟨I.ok.unpin,I.os,I.bare,I.base,I.loc,I.cell,I.free,I.freeC,fun q hq=>by
  rcases List.mem_append.mp hq with hq|hq
  ·exact I.pin q (List.mem_append_left _ (List.mem_cons_of_mem _ hq))
  ·exact I.pin q (List.mem_append_right _ hq),I.hok,I.len⟩
theorem SP.unpin {D:Ends}{f:Flow}{s':Shared}(h:SP (X.pinned p) pins D f s'):SP X pins D f s':=by
 cases f with
 |next=>obtain⟨a,b,I,q⟩:=h;exact⟨a,b,I.unpin,q⟩
 |brk=>obtain⟨a,b,I,q⟩:=h;exact⟨a,b,I.unpin,q⟩
 |cont=>obtain⟨a,b,I,q⟩:=h;exact⟨a,b,I.unpin,q⟩
 |ret u=>obtain⟨v,a,b,I,r,q⟩:=h;exact⟨v,a,b,I.unpin,r,q⟩
theorem PSs.unpin {st:List Stmt}{t:TS}{pins:List (Addr×Obj)}{s:Shared}{σ:St}{H:Hp}{D:Ends}(h:PSs (X.pinned p) st t)(I:Inv (X.pinned p) pins σ H s)(q:t D σ H):wpAny (model X.prog X.w) X.A (execs st X.env) (SP X pins D) X.xe s:=
 wpAny_mono (h pins s σ H D I q) (fun _ _ z=>z.unpin) fun _ _ z=>z
end
def tDef (P:Addr)(qual:Str)(pos:Pos)(i:Nat)(t:Addr->Addr->Value->Value->TS):TS:=fun D σ H=>∃ps,H P=some (.tbl ps)/\TriplesOk ps.toList∧
 ((codeAmong pos ps.toList=none/\∀f c' co doc ctv,IsCo co qual->H c'=none->H f=none->f≠c'→
   t f c' doc ctv D (σ.set i (some (.ref f))) (upd (upd H P (.tbl (ps++#[rawInt pos.line,rawInt pos.col,.ref c']))) c' (CoO c' co)))∨
  ∃c' co,codeAmong pos ps.toList=some (.ref c')/\H c'=some (CoO c' co)/\IsCo co qual/\∀f doc ctv,H f=none->t f c' doc ctv D (σ.set i (some (.ref f))) H)
section
variable {X:Cx} {c P:Addr} {name qual:Str} {params:Arguments} {body rest:List Stmt} {scope:Scope} {pos:Pos} {i:Nat} {clos:List (Str×Addr)} {t:Addr->Addr->Value->Value->TS}
theorem pss_def (hN:X.N.Nodup)(hi:X.N[i]?=some name)(hx:Loc X.env.scope name)(hcode:X.env.code=.ref c)(C:CodeHd X.base c P)(B:BltAt X.mg X.base)
  (hfr:∀y∈scope.names,y.2=.free->∃c,X.env.cells.lookup y.1=some c) (hq:qualnameIn X.env name name=qual) (hd0:params.defaults=[]) (hk0:params.kw_defaults=[]) (han:annTrees params none X.env=[])
  (hr:∀f c' doc ctv,PSs (X.pinned (f,fnMade name qual params body scope (clOf X.env scope.names []) doc ((X.mg "__name__").getD .none) c' ctv)) rest (t f c' doc ctv))
  (hf:X.fn name=true\/X.env.scope.names.lookup name=some .local:=by first|exact .inl rfl|exact .inr rfl):
  PSs X (.FunctionDef name params body [] none [] scope none name pos::rest) (tDef P qual pos i t):=by
 intro pins s σ H D I h
 obtain⟨ps,hP,ht,h⟩:=h
 have hcl:=closure_eq hfr
 have tabP:s.heap.get? P=some (tabObj ps):=I.hok P _ hP
 have hgs:s.heap.Ns mainGlobals X.mg:=I.mod.glob.keeps I.bk
 have Cs:CodeHd s.heap c P:=C.keeps I.bk
 obtain⟨bm,ob,b1,b2,b3,b4,b5,b6⟩:=B
 have b3':=I.bk _ _ b3
 have hgP:mainGlobals≠P:=fun q=>by
  obtain⟨o,es,ep,e,hd,_⟩:=hgs
  rw[q,tabP] at e;cases e;cases hd
 have hbP:bm≠P:=fun q=>by rw[q,tabP] at b3';cases b3';cases b4
 have hbG:bm≠mainGlobals:=fun q=>by
  obtain⟨o,es,ep,e,hd,_⟩:=hgs
  rw[q,e] at b3';cases b3';rw[hd] at b6;cases b6
 have hBA:s.heap.BuiltinsAt X.mg P:=⟨bm,ob,b1,b2,hbG,hbP,b3',b4,b5,b6⟩
 refine wpAny_execs_cons (thn (Q:=fun fl s'=>fl=.next/\wpAny (model X.prog X.w) X.A (execs rest X.env) (SP X pins D) X.xe s') (W.nestDef_K hd0 hk0 han ?_) fun fl s' hfl=>by obtain⟨rfl,z⟩:=hfl;exact z)
 rw[hq]
 have ntb:∀b u,H b=some u->(∀qs,u≠.tbl qs)->b≠P:=fun b u e n z=>by subst z;rw[hP] at e;exact n _ (Option.some.inj e).symm
 rcases h with⟨hnf,h⟩|⟨c',co,hf',hc',hco,h⟩
 ·refine W.makeFunction_K (mg:=X.mg) hcl I.ok.glob hgs hcode Cs tabP ht hnf hgP hBA fun c' ctv doc h' tk hx' hge hlt hrec htb=>?_
  obtain⟨c₂,oc,vs,tq,e2,hoc,hdc,hv⟩:=hrec
  cases e2
  have hc'n:H c'=none:=I.hok.fresh hge
  have hfn:H h'.objs.size=none:=I.hok.fresh (Nat.le_trans hge (Nat.le_of_lt hlt))
  have cP:c'≠P:=fun z=>by rw[z,hP] at hc'n;cases hc'n
  have fP:h'.objs.size≠P:=fun z=>by rw[z,hP] at hfn;cases hfn
  have fc:h'.objs.size≠c':=Nat.ne_of_gt hlt
  let o:=fnMade name qual params body scope (clOf X.env scope.names []) doc ((X.mg "__name__").getD .none) c' ctv
  have kp:∀b u,b≠P->s.heap.get? b=some u->(h'.push o).get? b=some u:=fun b u n e=>Heap.get?_push_of_some _ (hx' b u n e)
  have nP:∀b,H b=none->b≠P:=fun b n z=>by rw[z,hP] at n;cases n
  have ltc:∀b u,s.heap.get? b=some u->b≠c':=fun b u e=>Nat.ne_of_lt (Nat.lt_of_lt_of_le (Heap.lt_size e) hge)
  have hH':∀b,b≠P->b≠c'->upd (upd H P (.tbl (ps++#[rawInt pos.line,rawInt pos.col,.ref c']))) c' (CoO c' oc) b=H b:=fun b n1 n2=>by rw[upd_ne n2,upd_ne n1]
  have u:Un X.fs [] H (upd (upd H P (.tbl (ps++#[rawInt pos.line,rawInt pos.col,.ref c']))) c' (CoO c' oc)) s.heap (h'.push o):=by
   refine⟨fun b u q n _ _=>kp b u (nP b n) q,fun b u q n _ _=>⟨u.slots,kp b u (nP b n) q⟩,fun b u q n _=>by rw[hH' b (nP b n) (ltc b u q)];exact n,fun b u q _=>?_,fun b xs q=>?_,fun b ob u q=>?_,fun b qs q=>?_⟩
   ·by_cases hb:b=P
    ·subst hb;exact⟨_,Heap.get?_push_of_some _ htb⟩
    ·exact⟨u,kp b u hb q⟩
   ·rw[hH' b (ntb b _ q nofun) (ne_of_none q hc'n)];exact q
   ·rw[hH' b (ntb b _ q nofun) (ne_of_none q hc'n)];exact q
   ·by_cases hb:b=P
    ·subst hb
     rw[hP] at q;cases q
     exact⟨_,by rw[upd_ne (Ne.symm cP),upd_same]⟩
    ·exact⟨#[],by rw[hH' b hb (ne_of_none q hc'n),q];simp⟩
  have hok:HOk X.prog X.w (upd (upd H P (.tbl (ps++#[rawInt pos.line,rawInt pos.col,.ref c']))) c' (CoO c' oc)) (h'.push o):=fun b u e=>by
   by_cases hb:b=c'
   ·subst hb
    rw[upd_same] at e;cases e
    exact CoO.ok (Heap.get?_push_of_some _ hoc)
   ·rw[upd_ne hb] at e
    by_cases hbP:b=P
    ·subst hbP
     rw[upd_same] at e;cases e
     exact Heap.get?_push_of_some _ htb
    ·rw[upd_ne hbP] at e
     refine(I.hok b u e).stay (fun d v hd q=>kp d v ?_ q) (fun d q=>?_) fun d xs q=>?_
     ·rcases hd with rfl|hd
      ·exact hbP
      ·exact ntb d _ hd nofun
     ·rw[hH' d (ntb d _ q nofun) (ne_of_none q hc'n)];exact q
     ·rw[hH' d (ntb d _ q nofun) (ne_of_none q hc'n)];exact q
  have I2:=I.un (t':=tk) u hok
  have I3:Inv (X.pinned (h'.objs.size,o)) pins σ _ { s with heap:=h'.push o,toks:=tk }:=I2.addpin ⟨Heap.get?_push_size _ rfl,by rw[hH' _ fP fc];exact hfn,Nat.ne_of_gt (Nat.lt_trans (Nat.lt_of_lt_of_le I.lt hge) hlt),I.nofs (Nat.le_trans hge (Nat.le_of_lt hlt)),nofun⟩
  refine store_ok (X:=X.pinned (h'.objs.size,o)) (v:=.ref h'.objs.size) I3 hN hi hx rfl (fun s' I'=>⟨rfl,?_⟩) hf
  exact PSs.unpin (hr _ c' doc ctv) I' (h _ c' oc doc ctv ⟨vs,tq,hdc,hv⟩ hc'n hfn fc)
 ·refine W.makeFunction_hit (mg:=X.mg) hcl I.ok.glob hgs hcode Cs tabP ht hf' hBA fun ctv doc h' tk hk hsz=>?_
  let o:=fnMade name qual params body scope (clOf X.env scope.names []) doc ((X.mg "__name__").getD .none) c' ctv
  have hfn:H h'.objs.size=none:=I.hok.fresh hsz
  have I2:Inv X pins σ H { s with heap:=h'.push o,toks:=tk }:=I.kept fun b u e=>Heap.get?_push_of_some _ (hk b u e)
  have I3:Inv (X.pinned (h'.objs.size,o)) pins σ _ { s with heap:=h'.push o,toks:=tk }:=I2.addpin ⟨Heap.get?_push_size _ rfl,hfn,Nat.ne_of_gt (Nat.lt_of_lt_of_le I.lt hsz),I.nofs hsz,nofun⟩
  refine store_ok (X:=X.pinned (h'.objs.size,o)) (v:=.ref h'.objs.size) I3 hN hi hx rfl (fun s' I'=>⟨rfl,?_⟩) hf
  exact PSs.unpin (hr _ c' doc ctv) I' (h _ doc ctv hfn)
end
def baseN (h:Heap)(H:Hp)(st:List Env):Heap:=W.hideAll h (trk h H++frs st)
theorem baseN_get {h:Heap}{H:Hp}{st:List Env}{b:Addr}{o:Obj}(e:h.get? b=some o)(n:H b=none)(hf:b∉frs st):(baseN h H st).get? b=some o:=
 W.hideAll_get _ e fun hm=>by
  rcases List.mem_append.mp hm with hm|hm
  ·have q:(H b).isSome=true:=(List.mem_filter.mp hm).2
   rw[n] at q;simp at q
  ·exact hf hm
theorem of_baseN {h:Heap}{H:Hp}{st:List Env}{b:Addr}{o:Obj}(e:(baseN h H st).get? b=some o):h.get? b=some o/\H b=none/\b∉frs st:=by
 have e':h.get? b=some o:=W.of_hideAll _ e
 refine⟨e',?_,fun hf=>?_⟩
 ·cases q:H b with
  |none=>rfl
  |some x=>
   have hm:b∈trk h H++frs st:=List.mem_append_left _ (List.mem_filter.mpr ⟨List.mem_range.mpr (Heap.lt_size e'),by simp[q]⟩)
   have z:=W.hideAll_none (h:=h) _ hm
   unfold baseN at e
   rw[z] at e;cases e
 ·have hm:b∈trk h H++frs st:=List.mem_append_right _ hf
  have z:=W.hideAll_none (h:=h) _ hm
  unfold baseN at e
  rw[z] at e;cases e
structure NB (X:Cx)(σ:St)(base:Heap):Prop where
 old:∀b o,X.base.get? b=some o->base.get? b=some o
 pin:∀p∈X.pn,base.get? p.1=some p.2
 inj:∀x y c,X.env.cells.lookup x=some c->X.env.cells.lookup y=some c->x=y
 cell:∀(i:Nat) (x:Str) (v:V),X.N[i]?=some x->σ[i]?=some (some v)->X.env.kindOf x=some .cell->∃c u,X.env.cells.lookup x=some c/\RelV v u/\base.IsCell c (some u)
section
variable {X:Cx} {pins:List (Addr×Obj)} {σ:St} {H:Hp} {s:Shared}
theorem Inv.nfs (I:Inv X pins σ H s){b:Addr}(h1:b≠X.env.locals)(h2:b∉X.fs):b∉frs X.stack:=fun z=>by
 rcases List.mem_cons.mp (I.stkSub b z) with e|e
 ·exact h1 e
 ·exact h2 e
theorem Inv.neL {b:Addr}{o:Obj}(I:Inv X pins σ H s)(e:X.base.get? b=some o):b≠X.env.locals:=Nat.ne_of_lt (Nat.lt_of_lt_of_le (Heap.lt_size e) (Nat.le_trans I.ok.bsz I.ok.above))
theorem Inv.baseOld (I:Inv X pins σ H s){b:Addr}{o:Obj}(e:X.base.get? b=some o):(baseN s.heap H X.stack).get? b=some o:=
 baseN_get (I.bs b o e).1 (I.bs b o e).2 (I.nfs (I.neL e) (I.ok.nofr e))
theorem Inv.envB (I:Inv X pins σ H s):Env0 X.prog X.w X.K X.mg (baseN s.heap H X.stack) X.A X.stack s H:=by
 have hM:Mod X.K X.mg (baseN s.heap H X.stack):=by
  refine⟨fun a o e=>I.baseOld (I.mod.kin a o e),I.mod.glob.keeps fun b o e=>I.baseOld e,?_,I.mod.nolimit.keeps fun b o e=>I.baseOld e⟩
  obtain⟨mb,h1,h2⟩:=I.mod.blt
  exact⟨mb,h1.keeps fun b o e=>I.baseOld e,h2⟩
 refine⟨I.ok.frames,hM,fun b o e=>⟨(of_baseN e).1,(of_baseN e).2.1⟩,Nat.le_of_eq (W.hideAll_size _ _),?_,I.stkFree,I.hok,I.bare⟩
 have all:∀l:List Env,(∀b∈frs l,b∈frs X.stack)->s.heap.FunFrames X.base l->s.heap.FunFrames (baseN s.heap H X.stack) l:=by
  intro l
  induction l with
  |nil=>intro _ _;trivial
  |cons env r ih=>
   intro hs hl
   obtain⟨hk,⟨L,o,hf,hn,ho,hd⟩,hr⟩:=hl
   refine⟨hk,⟨L,o,hf,?_,ho,hd⟩,ih (fun b hb=>hs b (by unfold frs;rw[List.filterMap_cons,hf];exact List.mem_cons_of_mem _ hb)) hr⟩
   cases q:(baseN s.heap H X.stack).get? L with
   |none=>rfl
   |some u=>exact absurd (hs L (by unfold frs;rw[List.filterMap_cons,hf];exact List.mem_cons_self)) (of_baseN q).2.2
 exact all X.stack (fun _ h=>h) I.stack
theorem Inv.nb (I:Inv X pins σ H s)(hfn:∀x,X.fn x=true):NB X σ (baseN s.heap H X.stack):=by
 refine⟨fun b o e=>I.baseOld e,fun p hp=>?_,I.ok.inj,fun i x v h1 h2 h3=>?_⟩
 ·obtain⟨e,n,n1,n2,_⟩:=I.pin p (List.mem_append_left _ hp)
  exact baseN_get e n (I.nfs n1 n2)
 ·obtain⟨m,hn,hl⟩:=I.loc
  obtain⟨u,r,l⟩:=hl i x v h1 h2 (.inr (.inl h3))
  rcases l with⟨k,_⟩|⟨_,c,hc,z⟩
  ·rw[h3] at k;cases k
  ·refine⟨c,u,hc,r,?_⟩
   obtain⟨o,ho,hd⟩:=z
   refine⟨o,baseN_get ho (I.freeC x c hc) (I.nfs (I.cne x c hc) fun z=>?_),hd⟩
   obtain⟨_,of,hof,_⟩:=I.ok.funs.mem z
   exact absurd (Nat.lt_of_lt_of_le (Heap.lt_size hof) (I.ok.cab x c (hfn x) hc)) (Nat.lt_irrefl _)
end
section
variable {X:Cx} {k:Nat} {f:Addr} {fd:FuncData} {ps:List Str} {sp:Heap->Sp} {dvs:List V} {ds:List Value} {x:Str} {p pos:Pos} {e:Expr} {es:List Expr} {t:TA}
theorem pex_callB (hfn:∀x,X.fn x=true)(F:∀base,FnOk X.prog X.w X.K X.mg base (CX1 X.prog X.w) k f fd ps (sp base))(hr:Room k X.A)(hg:Gl X x)(hm:X.mg x=some (.ref f))(hk:W.keepIn X.K (.ref f)=true)(hb:Binds X.K fd ps ds)(hd:Vals dvs ds)
  (ha:PA X.nox (e::es) t) (hdb:(x==("__debug__":Str))=false:=by decide) (he:starEach (e::es) X.env=(false,eval e X.env)::starEach es X.env:=by rfl) (hpl:(backTo pos (starEach es X.env)).any (·.1)=false:=by rfl):
  PEX X (.Call (.Name x p) (e::es) [] pos) (fun σ H Q Ex=>t σ H fun vs H1=>∀base,NB X σ base->sp base (vs++dvs) H1 Q fun cls dd H'=>∃C,cls=.ref C/\Ex σ C dd H'):=by
 intro pins s σ H Q Ex I h
 refine wpAny_Call_Name_kw (ld_glob I hg hm ?_ hdb)
 refine W.callWith_K (h₀:=X.base) I.ok.mod.kin hk (wpAny_mono (ha pos pins s σ H _ (I.wish _) h) (fun us s1 ⟨vs,H1,I1,r,q⟩=>⟨I1.kIn,?_⟩) fun _ _ z=>z.elim) he hpl
 have J:=I1.unwish
 have q':=q _ (J.nb hfn)
 have r2:Vals (vs++dvs) (us++ds):=r.append hd
 have hl:(us++ds).length=ps.length:=by rw[<- r2.length];exact(F _).len _ _ _ _ q'
 refine wpAny_call (codeAny_mono ((F _).run X.A X.stack s1 H1 ⟨us,[]⟩ (us++ds) (vs++dvs) Q _ hr J.envB (hb s1 us J.kIn hl) r2 q') fun r s' hq=>?_)
 cases r with
 |error e=>
  obtain⟨a,C,dd,H2,rfl,hos,hgen,un,hok,fl,C',hC,hE⟩:=hq
  cases hC
  obtain⟨hh,g,d,t,os'⟩:=s'
  obtain rfl:os'=s1.os:=hos
  exact⟨s1.heap,a,C,dd,σ,H2,rfl,J.call (h':=hh) (g':=g) (d':=d) (t':=t) (ch:=[]) un hok hgen (fun b z=>absurd z (by simp)),fl,J.fr0,hE⟩
 |ok fl=>
  cases fl with
  |ret u=>exact J.after hq
  |next=>exact False.elim hq
  |brk=>exact False.elim hq
  |cont=>exact False.elim hq
end
section
variable {X:Cx} {CX:CXT} {E:XK} {k:Nat} {x:Str} {p pos:Pos} {e:Expr} {es:List Expr} {t:TA} {te:TE}
def tCallV (P:Program)(w:World)(K:W.Frag)(mg:Str->Option Value)(base:Heap)(CX:CXT)(k:Nat)(E:XK)(te:TE)(t:TA):TE:=fun σ H Q=>te σ H fun v H1=>∃f fd ps sp o,v=.ref f/\base.get? f=some o/\o.data=.func fd/\FnOk P w K mg base CX k f fd ps sp/\Binds K fd ps []∧
 t σ H1 fun vs H2=>sp vs H2 Q E
theorem pe_callV (hv:PE X (.Name x p) te)(hr:Room k X.A)(hx:Passes CX X E)(ha:PA X (e::es) t)(he:starEach (e::es) X.env=(false,eval e X.env)::starEach es X.env:=by rfl)(hpl:(backTo pos (starEach es X.env)).any (·.1)=false:=by rfl):
  PE X (.Call (.Name x p) (e::es) [] pos) (tCallV X.prog X.w X.K X.mg X.base CX k E te t):=by
 intro pins s σ H Q I h
 refine wpAny_Call_Name_kw (thn (hv pins s σ H _ I h) fun u s1 ⟨v,H1,I1,rv,f,fd,ps,sp,o,ev,hb,ho,F,bd,q⟩=>?_)
 subst ev
 obtain rfl:u=Value.ref f:=rv
 have fa:∀{σ' H' s'},Inv X pins σ' H' s'->W.FnAt f s'.heap:=fun {σ' H' s'} I'=>by
  obtain⟨oc,od,dt,sl⟩:=o
  have ho':dt=.func fd:=ho
  subst ho'
  exact⟨oc,od,fd,sl,I'.bk _ _ hb⟩
 refine W.callWith_F (fa I1) (thn (ha pos pins s1 σ H1 _ I1 q) fun us s2 ⟨vs,H2,I2,r,q2⟩=>⟨fa I2,?_⟩) he hpl
 refine run_fn (dvs:=[]) (ds:=[]) F hr bd .nil hx I2 r ?_
 rw[List.append_nil]
 exact q2
end
structure NScope (ps locs fre:List Str)(sc:Scope):Prop where
 kind:sc.kind=.function
 co:sc.isCoroutine=false
 gen:sc.isGenerator=false
 nd:(ps++locs++fre).Nodup
 par:∀x∈ps,sc.names.lookup x=some .local
 nocell:∀y∈sc.names,y.2≠.cell
 free:∀y∈sc.names,y.2=.free->y.1∈fre
 isf:∀x∈fre,sc.names.lookup x=some .free
def startN (vs:List V)(n:Nat)(fv:List V):St:=vs.map some++(List.replicate n none++fv.map some)
def cxN (CX:CXT)(P:Program)(w:World)(K:W.Frag)(mg:Str->Option Value)(base:Heap)(N:List Str)(qual:Str)(scope:Scope)(f:Addr)(cd:Value)(cl:List (Str×Addr))(A:Around)(outer:List Env)(s:Shared)(H:Hp)(E:XK):Cx where
 prog:=P
 w:=w
 K:=K
 mg:=mg
 base:=base
 A:=A.deeper (envX qual scope s.heap.objs.size f cd cl)
 N:=N
 s₀:=s
 H₀:=H
 env:=envX qual scope s.heap.objs.size f cd cl
 outer:=outer
 stack:=envX qual scope s.heap.objs.size f cd cl::outer
 ex:=[]
 calm:=true
 fn:=fun _=>false
 pn:=[]
 xe:=fun e s'=>wpAny (model P w) (A.deeper (envX qual scope s.heap.objs.size f cd cl)) (leaving (envX qual scope s.heap.objs.size f cd cl) e) (fun _ s''=>CX outer H s E e s'') (fun e' s''=>CX outer H s E e' s'') s'
theorem lookup_mem1 {x:Str}{u:Value}:∀{l:List (Str×Value)},(∀v,(x,v)∈l->v=u)->(x,u)∈l->l.lookup x=some u
 | [],_,h=>by cases h
 | (y,v)::r,h1,h2=>by
  rw[List.lookup_cons]
  by_cases e:x=y
  ·subst e
   rw[beq_self_eq_true]
   exact congrArg some (h1 v List.mem_cons_self)
  ·rw[beq_eq_false_iff_ne.mpr e]
   refine lookup_mem1 (fun v hv=>h1 v (List.mem_cons_of_mem _ hv)) ?_
   rcases List.mem_cons.mp h2 with z|z
   ·exact absurd (Prod.mk.inj z).1 e
   ·exact z
theorem zip_one {ps:List Str}{us:List Value}{i:Nat}{x:Str}{u:Value}(nd:ps.Nodup)(h1:ps[i]?=some x)(h2:us[i]?=some u):(ps.zip us).reverse.lookup x=some u:=by
 refine lookup_mem1 (fun v hv=>?_) (List.mem_reverse.mpr (List.mem_of_getElem? (i:=i) (by rw[List.getElem?_zip_eq_some];exact⟨h1,h2⟩)))
 obtain⟨j,hj⟩:=List.mem_iff_getElem?.mp (List.mem_reverse.mp hv)
 rw[List.getElem?_zip_eq_some] at hj
 have:=nodup_ix nd h1 hj.1
 subst this
 have:=hj.2
 rw[h2] at this
 exact(Option.some.inj this).symm
section
variable {CX:CXT} {P:Program} {w:World} {K:W.Frag} {mg:Str->Option Value} {base:Heap} {k:Nat} {f c':Addr} {name qual:Str} {params:Arguments} {body:List Stmt} {scope:Scope} {doc pm ctv:Value} {cl:List (Str×Addr)}
 {ps locs fre:List Str} {fv:List V} {sp:Sp}
theorem fn_nest (lk:base.get? f=some (fnMade name qual params body scope cl doc pm c' ctv))(S:NScope ps locs fre scope)(hfv:fv.length=fre.length)
  (inj:∀x y c,cl.lookup x=some c->cl.lookup y=some c->x=y) (isin:∀x c,cl.lookup x=some c->x∈fre)
  (hcell:∀(j:Nat) (x:Str) (v:V),fre[j]?=some x->fv[j]?=some v->∃c u,cl.lookup x=some c/\RelV v u/\base.IsCell c (some u))
  (len:∀vs H Q E,sp vs H Q E->vs.length=ps.length) (hco:∀vs H Q E,sp vs H Q E->∃co,H c'=some (CoO c' co)/\IsCo co qual)
  (hbody:∀(A:Around) (outer:List Env) (s:Shared) (H:Hp) (vs:List V) (Q:VK) (E:XK),Room k (A.deeper (envX qual scope s.heap.objs.size f (.ref c') cl))->sp vs H Q E→
   ∃t,PSs (cxN CX P w K mg base (ps++locs++fre) qual scope f (.ref c') cl A outer s H E) body t/\t { nx:=fun _ H'=>Q .non H',rt:=Q } (startN vs locs.length fv) H):
  FnOk P w K mg base CX (k+1) f (fnX name qual params body scope cl .none .none doc pm none (.ref c') ctv) ps sp:=by
 refine⟨len,fun A outer s H args us vs Q E hr e0 hb r hsp=>?_⟩
 have hl:=len _ _ _ _ hsp
 obtain⟨co,hc1,vs1,t1,hc2,hc3⟩:=hco _ _ _ _ hsp
 have lim:s.heap.NoLimit:=e0.mod.nolimit.keeps fun b o e=>(e0.bs b o e).1
 have ndP:ps.Nodup:=(List.nodup_append.mp (List.nodup_append.mp S.nd).1).1
 have hrec:s.heap.CodeRec (.ref c') qual:=⟨c',co,vs1,t1,rfl,(e0.hok c' _ hc1).1,hc2,hc3⟩
 refine codeAny_call_def (fd:=fnX name qual params body scope cl .none .none doc pm none (.ref c') ctv) (body:=body) (binds:=ps.zip us) hr.depth (e0.bs _ _ lk).1 rfl lim hrec rfl hb S.nocell (fun y hy=>S.par _ (List.of_mem_zip hy).1) (fun h1 hns hk=>?_) S.co S.gen S.kind
 obtain⟨t,ht,hq⟩:=hbody A outer s H vs Q E (hr.deeper _) hsp
 have cellB:∀x c,cl.lookup x=some c->∃v u,RelV v u/\base.IsCell c (some u):=fun x c e=>by
  obtain⟨j,hj⟩:=List.mem_iff_getElem?.mp (isin x c e)
  have hjl:j<fv.length:=by rw[hfv];exact(List.getElem?_eq_some_iff.mp hj).1
  obtain⟨c2,u,e2,r2,z2⟩:=hcell j x fv[j] hj (by simp[hjl])
  rw[e] at e2;cases e2
  exact⟨_,u,r2,z2⟩
 have cellK:∀{c u},base.IsCell c (some u)->h1.IsCell c (some u)/\H c=none:=fun {c u} ⟨o,ho,hd⟩=>⟨⟨o,hk _ _ (e0.bs _ _ ho).1,hd⟩,(e0.bs _ _ ho).2⟩
 have noA:∀b:Addr,b∉(cxN CX P w K mg base (ps++locs++fre) qual scope f (.ref c') cl A outer s H E).ex:=fun b z=>absurd (show b∈([]:List Addr) from z) (by simp)
 have I:Inv (cxN CX P w K mg base (ps++locs++fre) qual scope f (.ref c') cl A outer s H E) [] (startN vs locs.length fv) H { s with heap:=h1,toks:=s.toks+(ps.zip us).length }:=by
  refine⟨⟨e0.mod,S.kind,rfl,rfl,Nat.le_refl _,inj,fun y hy=>?_,fun y c z _=>(Bool.false_ne_true z).elim,fun _=>hr.hd,Around.frames_deeper e0.frames,.inr ⟨rfl,rfl⟩,fun b z=>absurd z (noA b),e0.bs,e0.bsz,fun b _ _=>noA b,fun b z=>absurd z (noA b),e0.funs,e0.frf⟩,
   rfl,e0.bare,Un.kept hk,⟨_,hns,fun i y v h2 h3 h4=>?_⟩,fun y c h=>?_,e0.hok.fresh (Nat.le_refl _),fun y c h=>?_,fun p hp=>absurd (show p∈([]:List (Addr×Obj)) from hp) (by simp),e0.hok.kept hk,?_⟩
  ·have hy:scope.names.lookup y=some .cell\/scope.names.lookup y=some .free:=hy
   rcases hy with hy|hy
   ·exact absurd rfl (S.nocell _ (PySem.mem_of_lookup hy))
   ·obtain⟨j,hj⟩:=List.mem_iff_getElem?.mp (S.free _ (PySem.mem_of_lookup hy) rfl)
    have hjl:j<fv.length:=by rw[hfv];exact(List.getElem?_eq_some_iff.mp hj).1
    obtain⟨c2,u,e2,_⟩:=hcell j _ fv[j] hj (by simp[hjl])
    exact⟨c2,e2⟩
  ·have h2:(ps++locs++fre)[i]?=some y:=h2
   unfold startN at h3
   by_cases hi:i<vs.length
   ·rw[List.getElem?_append_left (by simpa using hi),List.getElem?_map] at h3
    have ha:vs[i]?=some v:=by
     cases e:vs[i]? with
     |none=>rw[e] at h3;cases h3
     |some a=>rw[e] at h3;cases h3;rfl
    rw[List.append_assoc,List.getElem?_append_left (by omega)] at h2
    obtain⟨u,hu,rv⟩:=r.get ha
    exact⟨u,rv,.inl ⟨S.par y (List.mem_of_getElem? h2),zip_one ndP h2 hu⟩⟩
   ·rw[List.getElem?_append_right (by simpa using hi),List.length_map] at h3
    by_cases hi2:i-vs.length<locs.length
    ·rw[List.getElem?_append_left (by simpa using hi2),List.getElem?_replicate] at h3
     split at h3<;>cases h3
    ·rw[List.getElem?_append_right (by simpa using hi2),List.length_replicate,List.getElem?_map] at h3
     have hb:fv[i-vs.length-locs.length]?=some v:=by
      cases e:fv[i-vs.length-locs.length]? with
      |none=>rw[e] at h3;cases h3
      |some a=>rw[e] at h3;cases h3;rfl
     rw[List.getElem?_append_right (by rw[List.length_append];omega),List.length_append] at h2
     obtain⟨c,u,e1,e2,e3⟩:=hcell (i-vs.length-locs.length) y v (by rw[<- h2];congr 1;omega) hb
     exact⟨u,e2,.inr ⟨.inr (S.isf y (List.mem_of_getElem? h2)),c,e1,(cellK e3).1⟩⟩
  ·obtain⟨_,u,_,z⟩:=cellB y c h
   exact⟨_,(cellK z).1⟩
  ·obtain⟨_,u,_,z⟩:=cellB y c h
   exact(cellK z).2
  ·show(startN vs locs.length fv).length=(ps++locs++fre).length
   unfold startN
   simp[hl,hfv]
   try omega
 refine wpAny_mono (ht [] _ (startN vs locs.length fv) H _ I hq) (fun fl s' hs=>?_) fun e s' hs=>hs
 have fin:∀{σ':St} {H':Hp} {v:V} {u:Value},Inv (cxN CX P w K mg base (ps++locs++fre) qual scope f (.ref c') cl A outer s H E) [] σ' H' s'->RelV v u->Q v H'->CE outer P w H s Q u s':=
  fun {σ' H' v u} J rv q=>⟨v,H',J.os,J.bare,J.base,J.hok,rv,q⟩
 cases fl with
 |ret u=>
  obtain⟨v,σ',H',J,rv,q⟩:=hs
  exact fin J rv q
 |next=>
  obtain⟨σ',H',J,q⟩:=hs
  exact fin (v:=V.non) (u:=Value.none) J rfl q
 |brk=>
  obtain⟨_,_,_,q⟩:=hs
  exact False.elim q
 |cont=>
  obtain⟨_,_,_,q⟩:=hs
  exact False.elim q
end
theorem clOf_key {env:Env}{x:Str}{c:Addr}:∀{l:List (Str×NameKind)} {cs:List (Str×Addr)},(clOf env l cs).lookup x=some c->(∃d,cs.lookup x=some d)\/(x,NameKind.free)∈l
 | [],_,h=>.inl ⟨_,h⟩
 | (n,k)::r,cs,h=>by
  unfold clOf at h
  rcases clOf_key (l:=r) h with⟨d,hd⟩|hm
  ·split at hd
   ·rename_i hk
    split at hd
    ·rw[List.lookup_cons] at hd
     split at hd
     ·rename_i e
      have e':x=n:=by simpa using e
      have hk':k=NameKind.free:=by simpa using hk
      subst e' hk'
      exact .inr List.mem_cons_self
     ·exact .inl ⟨d,hd⟩
    ·exact .inl ⟨d,hd⟩
   ·exact .inl ⟨d,hd⟩
  ·exact .inr (List.mem_cons_of_mem _ hm)
theorem fn_nestB {X:Cx}{σ:St}{base:Heap}{CX:CXT}{k:Nat}{f c':Addr}{name qual:Str}{params:Arguments}{body:List Stmt}{scope:Scope}{doc pm ctv:Value}{ps locs fre:List Str}{fv:List V}{sp:Sp}
  (B:NB X σ base) (hp:(f,fnMade name qual params body scope (clOf X.env scope.names []) doc pm c' ctv)∈X.pn) (S:NScope ps locs fre scope) (hfv:fv.length=fre.length)
  (hc:∀(j:Nat) (x:Str) (v:V),fre[j]?=some x->fv[j]?=some v->∃i:Nat,X.N[i]?=some x/\σ[i]?=some (some v)/\X.env.kindOf x=some .cell)
  (len:∀vs H Q E,sp vs H Q E->vs.length=ps.length) (hco:∀vs H Q E,sp vs H Q E->∃co,H c'=some (CoO c' co)/\IsCo co qual)
  (hbody:∀(cl:List (Str×Addr)) (A:Around) (outer:List Env) (s:Shared) (H:Hp) (vs:List V) (Q:VK) (E:XK),Room k (A.deeper (envX qual scope s.heap.objs.size f (.ref c') cl))->sp vs H Q E→
   ∃t,PSs (cxN CX X.prog X.w X.K X.mg base (ps++locs++fre) qual scope f (.ref c') cl A outer s H E) body t/\t { nx:=fun _ H'=>Q .non H',rt:=Q } (startN vs locs.length fv) H):
  FnOk X.prog X.w X.K X.mg base CX (k+1) f (fnX name qual params body scope (clOf X.env scope.names []) .none .none doc pm none (.ref c') ctv) ps sp:=by
 have no:∀(z:Str) (d:Addr),([]:List (Str×Addr)).lookup z=some d->X.env.cells.lookup z=some d:=fun z d h=>by cases h
 refine fn_nest (B.pin _ hp) S hfv (fun x y c h1 h2=>B.inj x y c (clOf_mem no h1) (clOf_mem no h2)) (fun x c h=>?_) (fun j x v h1 h2=>?_) len hco (hbody _)
 ·rcases clOf_key h with⟨d,hd⟩|hm
  ·cases hd
  ·exact S.free _ hm rfl
 ·obtain⟨i,e1,e2,e3⟩:=hc j x v h1 h2
  obtain⟨c,u,g1,g2,g3⟩:=B.cell i x v e1 e2 e3
  exact⟨c,u,clOf_get g1 no (.inl (PySem.mem_of_lookup (S.isf x (List.mem_of_getElem? h1)))),g2,g3⟩
theorem law_callT {P:Program}{w:World}{K:W.Frag}{mg mb:Str->Option Value}{CX:CXT}{k:Nat}{fa a:Addr}{fd:FuncData}{x:Str}{sp:Sp}{s₁:Shared}{vs:List Value}{ns:List Int}{tabs:List (Addr×Addr)}
  (hT:W.TabsAt tabs s₁.heap) (hKt:W.noTabs K=true) (hB:BltAt mg s₁.heap)
  (KX:K.In s₁.heap) (hns:s₁.heap.Ns mainGlobals mg) (hb:s₁.heap.Ns builtinsNs mb) (hbb:∀x:Str,x≠"__name__"->mb x=bootBuiltins x) (hlim:s₁.heap.NoLimit) (hg:s₁.gens=#[])
  (ha:s₁.heap.get? a=some { cls:=.type "list",data:=.seq vs.toArray }) (hi:IntsAre vs ns) (hl:ns.length<=sizeLine) (hr:Room k callerA)
  (F:∀base:Heap,K.In base->base.Ns mainGlobals mg->(∀q∈tabs,CodeHd base q.1 q.2)->BltAt mg base->FnOk P w K mg base CX k fa fd [x] sp) (hbind:∀(s:Shared) (u:Value),BindsTo s fd ⟨[u],[]⟩ [(x,u)])
  (hsp:∀H:Hp,(∀q∈tabs,H q.2=some (.tbl #[]))->SqL K H a (ns.map V.int)->sp [.ref a] H (fun v _=>v=.bl true) fun _ _ _=>False)
  (hCX:∀H e s',CX [] H s₁ (fun _ _ _=>False) e s'->False):
  codeAny (model P w) callerA (.call (.ref fa) ⟨[.ref a],[]⟩) (fun r s'=>r=.ok (.ret (.bool true))/\OldK s₁.heap s'.heap/\s'.os=s₁.os/\AllBare s'.gens) s₁:=by
 have rv:=vals_ints hi
 have lenV:=hi.length
 have tabAt:∀b,b∈tabs.map (·.2)->s₁.heap.get? b=some (tabObj #[]):=fun b hb=>by
  obtain⟨q,hq,rfl⟩:=List.mem_map.mp hb
  exact(hT q hq).2
 have aNt:a∉tabs.map (·.2):=fun z=>by
  have:=tabAt a z
  rw[ha] at this;cases this
 have core:∀H:Hp,(∀b,b∈tabs.map (·.2)->H b=some (.tbl #[]))->(∀b,b∉tabs.map (·.2)->b≠a->H b=none)->(H a=none\/(K.lookup a=none/\∃o xs,H a=some (.frz o (.lst xs))))->SqL K H a (ns.map V.int)->HOk P w H s₁.heap→
   codeAny (model P w) callerA (.call (.ref fa) ⟨[.ref a],[]⟩) (fun r s'=>r=.ok (.ret (.bool true))/\OldK s₁.heap s'.heap/\s'.os=s₁.os/\AllBare s'.gens) s₁:=by
  intro H h1 h2 h3 hS hok
  have base_of:∀{b:Addr} {o:Obj},s₁.heap.get? b=some o->H b=none->(hidT s₁.heap H).get? b=some o:=fun e n=>hidT_get e n
  have free:∀{b:Addr} {o:Obj},s₁.heap.get? b=some o->o≠tabObj #[]->(b=a->K.lookup a=none->False)->H b=none:=fun {b o} e n m=>by
   by_cases hb:b∈tabs.map (·.2)
   ·have:=tabAt b hb
    rw[e] at this
    exact absurd (Option.some.inj this) n
   ·by_cases hba:b=a
    ·subst hba
     rcases h3 with z|⟨z,_⟩
     ·exact z
     ·exact(m rfl z).elim
    ·exact h2 b hb hba
  have nA:∀{b:Addr} {o:Obj},s₁.heap.get? b=some o->o.cls≠.type "list"\/(∀v n,o.data≠.seq v n)->b=a->K.lookup a=none->False:=fun {b o} e m z _=>by
   subst z
   rw[ha] at e;cases e
   rcases m with m|m
   ·exact m rfl
   ·exact m _ _ rfl
  have nsK:∀{b:Addr} {m:Str->Option Value},s₁.heap.Ns b m->(hidT s₁.heap H).Ns b m:=fun {b m} ⟨o,es,ep,e,d,r⟩=>⟨o,es,ep,base_of e (free e (fun z=>by rw[z] at d;cases d) (nA e (.inr fun v n z=>by rw[d] at z;cases z))),d,r⟩
  have hKb:K.In (hidT s₁.heap H):=fun b o e=>base_of (KX b o e) (free (KX b o e) (fun z=>by
   have h2:=List.all_eq_true.mp hKt (b,o) (W.mem_of_lookupK e)
   subst z
   exact absurd (show false=true from h2) Bool.false_ne_true) fun z n=>by subst z;rw[e] at n;cases n)
  have hM:Mod K mg (hidT s₁.heap H):=⟨hKb,nsK hns,⟨mb,nsK hb,hbb⟩,let ⟨mc,h1,h2⟩:=hlim;⟨mc,nsK h1,h2⟩⟩
  have hC:∀q∈tabs,CodeHd (hidT s₁.heap H) q.1 q.2:=fun q hq=>by
   obtain⟨o,vs,file,tf,flags,tg,inF,text,tt,e,r1,r⟩:=(hT q hq).1
   exact⟨o,vs,file,tf,flags,tg,inF,text,tt,base_of e (free e (fun z=>by rw[z] at r1;cases r1) (nA e (.inl fun z=>by rw[r1] at z;revert z;decide))),r1,r⟩
  have hB':BltAt mg (hidT s₁.heap H):=by
   obtain⟨bm,ob,b1,b2,b3,b4,r⟩:=hB
   exact⟨bm,ob,b1,b2,base_of b3 (free b3 (fun z=>by rw[z] at b4;cases b4) (nA b3 (.inl fun z=>by rw[b4] at z;revert z;decide))),b4,r⟩
  have e0:Env0 P w K mg (hidT s₁.heap H) callerA [] s₁ H:=⟨rfl,hM,fun b o e=>of_hidT e,Nat.le_of_eq (hidT_size _ _),trivial,fun b hb=>absurd (show b∈([]:List Addr) from hb) (by simp),hok,.of_eq hg⟩
  refine codeAny_mono ((F _ hKb (nsK hns) hC hB').run callerA [] s₁ H ⟨[.ref a],[]⟩ [.ref a] [.ref a] _ _ hr e0 (hbind s₁ (.ref a)) (.cons rfl .nil) (hsp H (fun q hq=>h1 _ (List.mem_map_of_mem hq)) hS)) fun r s' h=>?_
  cases r with
  |error e=>exact(hCX H e s' h).elim
  |ok fl=>
   cases fl with
   |next=>exact False.elim h
   |brk=>exact False.elim h
   |cont=>exact False.elim h
   |ret u=>
    obtain⟨v,H',os,bare,un,hok',r',q⟩:=h
    have q':v=.bl true:=q
    subst q'
    obtain rfl:u=Value.bool true:=r'
    refine⟨rfl,⟨fun b o e=>?_,fun b o e=>un.there b o e (by simp)⟩,os,bare⟩
    by_cases hbt:b∈tabs.map (·.2)
    ·have e2:=tabAt b hbt
     rw[e] at e2;cases e2
     obtain⟨more,z⟩:=un.tbls b _ (h1 b hbt)
     obtain⟨q,hq,rfl⟩:=List.mem_map.mp hbt
     exact .inr (.inl ⟨((hT q hq).1.tab (hT q hq).2).isCodeTable,rfl,#[],more,rfl,hok' _ _ z⟩)
    ·refine .inl ?_
     cases q:H b with
     |none=>exact un.keep b o e q (by intro z;exact absurd (show b∈([]:List Addr) from z) (by simp)) (by simp)
     |some u=>
      by_cases hba:b=a
      ·subst hba
       rcases h3 with z|⟨_,ob,xs,z⟩
       ·rw[q] at z;cases z
       ·have z2:=un.frzs b ob _ z
        obtain⟨e1,_⟩:=hok b _ z
        obtain⟨e2,_⟩:=hok' b _ z2
        rw[e] at e1;cases e1
        exact e2
      ·rw[h2 b hbt hba] at q;cases q
 have okT:∀{H:Hp} {b:Addr},b∈tabs.map (·.2)->ObjOk P w H s₁.heap b (.tbl #[]):=fun {H b} hb=>tabAt b hb
 cases hk:K.lookup a with
 |some o=>
  have e:=KX a o hk
  rw[ha] at e
  cases e
  refine core (fun b=>if b∈tabs.map (·.2) then some (.tbl #[]) else none) (fun b hb=>if_pos hb) (fun b hb _=>if_neg hb) (.inl (if_neg aNt)) (.inr ⟨_,vs.toArray,_,hk,rfl,rfl,rfl,by rw[List.size_toArray,lenV];exact hl,by simpa using rv⟩) fun b u z=>?_
  by_cases hb:b∈tabs.map (·.2)
  ·have z':=(if_pos hb).symm.trans z
   cases z'
   exact okT hb
  ·have z':=(if_neg hb).symm.trans z
   cases z'
 |none=>
  refine core (fun b=>if b∈tabs.map (·.2) then some (.tbl #[]) else if b=a then some (.frz { cls:=.type "list",data:=.seq vs.toArray } (.lst (ns.map V.int))) else none) (fun b hb=>if_pos hb) (fun b hb hba=>(if_neg hb).trans (if_neg hba)) (.inr ⟨hk,_,_,(if_neg aNt).trans (if_pos rfl)⟩)
   (.inl (.inr ⟨{ cls:=.type "list",data:=.seq vs.toArray },(if_neg aNt).trans (if_pos rfl)⟩)) fun b u z=>?_
  by_cases hb:b∈tabs.map (·.2)
  ·have z':=(if_pos hb).symm.trans z
   cases z'
   exact okT hb
  ·have z':=(if_neg hb).symm.trans z
   by_cases hba:b=a
   ·have z2:=(if_pos hba).symm.trans z'
    cases z2
    subst hba
    exact⟨ha,by rw[List.length_map];exact hl,vs,_,rv,ha⟩
   ·have z2:=(if_neg hba).symm.trans z'
    cases z2
theorem walk_ofT {l:W.OpenLaw}{n k:Nat}{q:Program}{loose:List Str}{XP:(Str->Option Value)->Heap->Prop}{YP:World->Heap->Prop}{d:DefRec}{K:Params->W.Frag}{CX:World->CXT}{sp:World->Sp}{x:Str}{tabs:List (Addr×Addr)}
  (hn:l.most=some n) (hn2:n<=sizeLine) (hdf:d.params.defaults=[]) (hr:Room k callerA)
  (hY:∀(w:World) (h:Heap),YP w h->(K w.params).In h)
  (hT:∀(w:World) (h:Heap) (mg mb:Str->Option Value) (mean:ExcName->Option Value),(K w.params).In h->Top q (W.looseW q loose) mean mg mb h->W.TabsAt tabs h) (hKt:∀p,W.noTabs (K p)=true)
  (F:∀(w:World) (mg:Str->Option Value) (fa:Addr) (h:Heap),(K w.params).In h->h.Ns mainGlobals mg->mg d.name=some (.ref fa)→
   ∃fd:FuncData,(∀(s:Shared) (u:Value),BindsTo s fd ⟨[u],[]⟩ [(x,u)])∧
    ∀base:Heap,(K w.params).In base->base.Ns mainGlobals mg->(∀q∈tabs,CodeHd base q.1 q.2)->BltAt mg base->FnOk l.prog w (K w.params) mg base (CX w) k fa fd [x] (sp w))
  (hsp:∀(w:World) (H:Hp) (a:Addr) (ns:List Int),ns.length<=n->(∀q∈tabs,H q.2=some (.tbl #[]))->SqL (K w.params) H a (ns.map V.int)->sp w [.ref a] H (fun v _=>v=.bl true) fun _ _ _=>False)
  (hCX:∀(w:World) (H:Hp) (s:Shared) (e:Value) (s':Shared),CX w [] H s (fun _ _ _=>False) e s'->False):
  W.WalkO q loose XP YP l.row.toRowW d [] (fun f vs=>PySem.call f vs):=by
 refine Att.attach_call hn hdf fun w s₀ s₁ mg mb fa o pm cd doc a vs ns G Y ho hd hcd hmg hobj hints hlen hg=>?_
 have KX:=hY w _ Y
 obtain⟨fd,hb,hF⟩:=F w mg fa _ KX G.T.g hmg
 exact law_callT (hT w _ _ _ _ KX G.T) (hKt _) G.T.bmain KX G.T.g G.T.b G.T.builtins G.T.nolimit hg hobj hints (Nat.le_trans hlen hn2) hr hF hb (fun H hO hS=>hsp w H a ns hlen hO hS) fun H e s'=>hCX w H s₁ e s'
end L2
namespace SO
open PySem PyProof PyProof.Rows
section
variable {M:Model} {A:Around} {E:Value->Shared->Prop} {s:Shared} {O:KeyOrd} {ky:Keyed->O.α} {κ:SortKind} {a₀:Array Keyed}
def dK:Keyed:=(Value.none,Value.none)
end
end SO
namespace SO
open PySem PyProof PyProof.Rows
section
variable {M:Model} {A:Around} {E:Value->Shared->Prop} {s:Shared} {O:KeyOrd} {ky:Keyed->O.α} {κ:SortKind} {a₀ a b:Array Keyed} {st₀:SortSt}
abbrev H0:Type:=Option (Array Keyed)×Nat×Nat×Array Keyed×Nat
end
end SO
namespace L2
open PySem PySem.Spec PyProof.Rows
section
variable {X:Cx}
theorem call_isinst:CallR X (.builtin "isinstance") (fun xs H Q=>∃x n t b,xs=[x,.ty n]/\TyOf X.K H x t/\W.kitOne X.K t (.type n)=some b/\Q (.bl b) H):=by
 intro pins s σ H xs us Q I r h
 obtain⟨x,n,t,b,rfl,ty,e,q⟩:=h
 obtain⟨u,v,rfl,rx,ry⟩:=r.two
 cases(show v=Value.type n from ry)
 exact isinst_ok I rx ty e fun tk=>⟨.bl b,H,I.tok tk,rfl,q⟩
def eqsV:List V->List V->Bool
 | [],[]=>true
 |x::xs,y::ys=>eqV x y&&eqsV xs ys
 |_,_=>false
theorem eqsV_range:∀(xs ys:List V),xs.length=ys.length->((List.range xs.length).all fun i=>eqV (xs.getD i .non) (ys.getD i .non))=eqsV xs ys
 | [],[],_=>rfl
 |x::xs,y::ys,h=>by
  have h':xs.length=ys.length:=by simpa using h
  rw[List.length_cons,List.range_succ_eq_map,List.all_cons,List.all_map]
  have e:=eqsV_range xs ys h'
  show(eqV x y&&(List.range xs.length).all fun i=>eqV (xs.getD i .non) (ys.getD i .non))=(eqV x y&&eqsV xs ys)
  rw[e]
theorem eqsV_len:∀(xs ys:List V),xs.length≠ys.length->eqsV xs ys=false
 | [],[],h=>absurd rfl h
 | [],_::_,_=>rfl
 |_::_,[],_=>rfl
 |x::xs,y::ys,h=>by
  have e:=eqsV_len xs ys (by simpa using h)
  show(eqV x y&&eqsV xs ys)=false
  rw[e,Bool.and_false]
theorem items_eqAt {A:Around}{s:Shared}{xs ys:List V}{us ws:List Value}(rx:Vals xs us)(ry:Vals ys ws)(fx:xs.all flatV=true)(fy:ys.all flatV=true):
  ∀j (h1:j<us.toArray.size) (h2:j<ws.toArray.size),SeqAt.EqAt A.in1 s us.toArray[j] ws.toArray[j] (eqV (xs.getD j .non) (ys.getD j .non)):=by
 intro j h1 h2
 have l1:=rx.length
 have l2:=ry.length
 have h1':j<xs.length:=by rw[l1];simpa using h1
 have h2':j<ys.length:=by rw[l2];simpa using h2
 obtain⟨u,eu,ru⟩:=rx.get (i:=j) (x:=xs[j]) (by simp[h1'])
 obtain⟨v,ev,rv⟩:=ry.get (i:=j) (x:=ys[j]) (by simp[h2'])
 have e1:us.toArray[j]=u:=by
  have:=List.getElem?_eq_some_iff.mp eu
  obtain⟨_,q⟩:=this
  simpa using q
 have e2:ws.toArray[j]=v:=by
  have:=List.getElem?_eq_some_iff.mp ev
  obtain⟨_,q⟩:=this
  simpa using q
 have d1:xs.getD j .non=xs[j]:=by simp[List.getD,h1']
 have d2:ys.getD j .non=ys[j]:=by simp[List.getD,h2']
 rw[e1,e2,d1,d2]
 exact eqAt_V ru rv (List.all_eq_true.mp fx _ (List.getElem_mem h1')) (List.all_eq_true.mp fy _ (List.getElem_mem h2'))
def rEqL (K:W.Frag):R2:=fun x y H Q=>∃a b xs ys,x=.ref a/\y=.ref b/\SqL K H a xs/\SqL K H b ys/\xs.all flatV=true/\ys.all flatV=true/\Q (.bl (eqsV xs ys)) H
theorem op_eqL (hu:X.A.units<cLine):OpR X (compareOp .Eq) (rEqL X.K):=by
 intro pins s σ H x y v u Q I rx ry h
 obtain⟨a,b,xs,ys,rfl,rfl,ha,hb,fx,fy,q⟩:=h
 cases rx
 cases ry
 obtain⟨us,ru,pu,_⟩:=I.list ha
 obtain⟨ws,rw',pw,_⟩:=I.list hb
 have l1:=ru.length
 have l2:=rw'.length
 by_cases hl:xs.length=ys.length
 ·refine SeqAt.eq_listAt pu.isList pw.isList (by simp;omega) hu (items_eqAt ru rw' fx fy) ?_
  refine fin_bl I q ?_
  rw[List.size_toArray,<- l1]
  exact(eqsV_range xs ys hl).symm
 ·refine SeqAt.eq_list_lengthsAt pu.isList pw.isList (by simp;omega) hu ?_
  exact fin_bl I q (eqsV_len xs ys hl)
theorem atI_int {xs:List V}{i:Int}{v:V}(h0:0<=i)(h:xs[i.toNat]?=some v):atI xs i=some v:=by
 have e:i=((i.toNat:Nat):Int):=by omega
 rw[e]
 exact atI_nat h
theorem Same.upd_free {H H':Hp}{a:Addr}{o:HO}(s:Same H H')(n:H a=none):Same H (upd H' a o):=fun b u e=>by
 rw[upd_ne (ne_of_none e n)]
 exact s b u e
def tCut (t:TS):TS:=fun D σ H=>∃M:St->Hp->Prop,t { D with nx:=M } σ H/\∀σ' H',M σ' H'->D.nx σ' H'
theorem ps_cut {st:Stmt}{t:TS}(h:PS X st t):PS X st (tCut t):=by
 intro pins s σ H D I ⟨M,h1,h2⟩
 refine thn (h pins s σ H _ I h1) fun f s' q=>?_
 cases f with
 |next=>
  obtain⟨σ',H',I',m⟩:=q
  exact⟨σ',H',I',h2 _ _ m⟩
 |brk=>exact q
 |cont=>exact q
 |ret u=>exact q
end
end L2
namespace L2
open PySem PySem.Spec PyProof.Rows
section
variable {κ:Type} [DecidableEq κ]
def valV (kvs:List (κ×V))(k:κ):Option V:=(kvs.find? fun kv=>decide (kv.1=k)).map (·.2)
def putK (kvs:List (κ×V))(k:κ)(v:V):List (κ×V):=
 if (kvs.any fun kv=>decide (kv.1=k))=true then kvs.map (fun kv=>if kv.1=k then(kv.1,v) else kv) else kvs++[(k,v)]
theorem valV_pos {p:κ×V}{r:List (κ×V)}{k:κ}(e:p.1=k):valV (p::r) k=some p.2:=by simp[valV,List.find?_cons,e]
theorem valV_neg {p:κ×V}{r:List (κ×V)}{k:κ}(e:¬p.1=k):valV (p::r) k=valV r k:=by simp[valV,List.find?_cons,e]
theorem valV_any (k:κ):∀kvs:List (κ×V),(kvs.any fun kv=>decide (kv.1=k))=(valV kvs k).isSome
 | []=>rfl
 |p::r=>by
  rw[List.any_cons]
  by_cases e:p.1=k
  ·simp only[valV_pos e,decide_eq_true e,Bool.true_or,Option.isSome_some]
  ·rw[valV_neg e,decide_eq_false e,Bool.false_or];exact valV_any k r
theorem length_putK (kvs:List (κ×V))(k:κ)(v:V):(putK kvs k v).length<=kvs.length+1:=by
 unfold putK
 split
 ·rw[List.length_map];omega
 ·rw[List.length_append,List.length_cons,List.length_nil];omega
theorem putK_new {kvs:List (κ×V)}{k:κ}(v:V)(h:valV kvs k=none):putK kvs k v=kvs++[(k,v)]:=by
 unfold putK
 rw[valV_any,h]
 exact if_neg (by decide)
theorem RelO.isSome_eq {o:Option V}{u:Option Value}(r:RelO o u):o.isSome=u.isSome:=by
 cases o with
 |none=>cases u with
  |none=>rfl
  |some _=>exact(show False from r).elim
 |some _=>cases u with
  |none=>exact(show False from r).elim
  |some _=>rfl
theorem KV.val {kvs:List (κ×V)}{vs:List (κ×Value)}(r:KV kvs vs)(k:κ):RelO (valV kvs k) (valueAt vs k):=by
 unfold KV at r
 induction r with
 |nil=>exact True.intro
 |@cons p q ps qs h t ih=>
  obtain⟨h1,h2⟩:=h
  by_cases e:p.1=k
  ·have e':q.1=k:=h1.symm.trans e
   have b:valueAt (q::qs) k=some q.2:=by simp[valueAt,List.find?_cons,e']
   rw[valV_pos e,b];exact h2
  ·have e':¬q.1=k:=fun z=>e (h1.trans z)
   have b:valueAt (q::qs) k=valueAt qs k:=by simp[valueAt,List.find?_cons,e']
   rw[valV_neg e,b];exact ih
theorem KV.any {kvs:List (κ×V)}{vs:List (κ×Value)}(r:KV kvs vs)(k:κ):(kvs.any fun kv=>decide (kv.1=k))=vs.any fun kv=>decide (kv.1=k):=by
 unfold KV at r
 induction r with
 |nil=>rfl
 |cons h t ih=>rw[List.any_cons,List.any_cons,ih,h.1]
theorem KV.repl {kvs:List (κ×V)}{vs:List (κ×Value)}(r:KV kvs vs)(k:κ){y:V}{u:Value}(ry:RelV y u):
  KV (kvs.map fun kv=>if kv.1=k then(kv.1,y) else kv) (vs.map fun kv=>if kv.1=k then(kv.1,u) else kv):=by
 unfold KV at r ⊢
 induction r with
 |nil=>exact .nil
 |@cons p q ps qs h t ih=>
  rw[List.map_cons,List.map_cons]
  refine .cons ?_ ih
  obtain⟨h1,h2⟩:=h
  by_cases e:p.1=k
  ·rw[if_pos e,if_pos (h1.symm.trans e)];exact⟨h1,ry⟩
  ·rw[if_neg e,if_neg (fun z=>e (h1.trans z))];exact⟨h1,h2⟩
theorem KV.put {kvs:List (κ×V)}{vs:List (κ×Value)}(r:KV kvs vs)(k:κ){y:V}{u:Value}(ry:RelV y u):KV (putK kvs k y) (stored vs k u):=by
 unfold putK stored
 rw[r.any k]
 by_cases e:(vs.any fun kv=>decide (kv.1=k))=true
 ·rw[if_pos e,if_pos e];exact r.repl k ry
 ·rw[if_neg e,if_neg e];exact Paired.snoc r ⟨rfl,ry⟩
theorem KV.length {kvs:List (κ×V)}{vs:List (κ×Value)}(r:KV kvs vs):kvs.length=vs.length:=Paired.length r
end
theorem kV_is {P:Program}{w:World}{k:Key}{u:Value}(r:RelV (kV k) u):(mixKind P w).is k u=true:=by
 cases k with
 |inl i=>obtain⟨t,e⟩:=(show ∃t,u=Value.int i t from r);subst e;exact mixKind_int P w i t
 |inr x=>obtain⟨t,e⟩:=(show ∃t,u=Value.str x t from r);subst e;exact mixKind_str P w x t
theorem items_are {P:Program}{w:World}:∀{ks:List Key} {us:List Value},Vals (ks.map kV) us->ItemsAre (mixKind P w) ks us
 | [],_,r=>by rw[List.map_nil] at r;cases r;exact .nil
 |k::ks,_,r=>by
  rw[List.map_cons] at r
  cases r with
  |cons h t=>exact .cons (kV_is h) (items_are t)
abbrev KT (H:Hp):List (List Key×V)->List (List Key×Addr×Value)->Prop:=Paired fun p q=>p.1=q.1/\H q.2.1=some (.tup (p.1.map kV))/\RelV p.2 q.2.2
theorem KT.val {H:Hp}{kvs:List (List Key×V)}{xs:List (List Key×Addr×Value)}(r:KT H kvs xs)(k:List Key):RelO (valV kvs k) ((atKey xs k).map (·.2)):=by
 induction r with
 |nil=>exact True.intro
 |@cons p q ps qs h t ih=>
  obtain⟨h1,_,h2⟩:=h
  by_cases e:p.1=k
  ·have e':q.1=k:=h1.symm.trans e
   have b:atKey (q::qs) k=some q.2:=by simp[atKey,List.find?_cons,e']
   rw[valV_pos e,b];exact h2
  ·have e':¬q.1=k:=fun z=>e (h1.trans z)
   have b:atKey (q::qs) k=atKey qs k:=by simp[atKey,List.find?_cons,e']
   rw[valV_neg e,b];exact ih
theorem KT.repl {H:Hp}{kvs:List (List Key×V)}{xs:List (List Key×Addr×Value)}(r:KT H kvs xs)(k:List Key){y:V}{u:Value}(ry:RelV y u):
  KT H (kvs.map fun kv=>if kv.1=k then(kv.1,y) else kv) (xs.map (putAt k u)):=by
 induction r with
 |nil=>exact .nil
 |@cons p q ps qs h t ih=>
  rw[List.map_cons,List.map_cons]
  refine .cons ?_ ih
  obtain⟨h1,h2,h3⟩:=h
  unfold putAt
  by_cases e:p.1=k
  ·rw[if_pos e,if_pos (h1.symm.trans e)];exact⟨h1,h2,ry⟩
  ·rw[if_neg e,if_neg (fun z=>e (h1.trans z))];exact⟨h1,h2,h3⟩
theorem KT.put {H:Hp}{kvs:List (List Key×V)}{xs:List (List Key×Addr×Value)}(r:KT H kvs xs)(k:List Key){b:Addr}{y:V}{u:Value}(hb:H b=some (.tup (k.map kV)))(ry:RelV y u):
  KT H (putK kvs k y) (storedH xs k b u):=by
 have e:(kvs.any fun kv=>decide (kv.1=k))=(atKey xs k).isSome:=by
  rw[valV_any,(r.val k).isSome_eq,Option.isSome_map]
 unfold putK storedH
 rw[e]
 by_cases q:(atKey xs k).isSome=true
 ·rw[if_pos q,if_pos q];exact r.repl k ry
 ·rw[if_neg q,if_neg q];exact Paired.snoc r ⟨rfl,hb,ry⟩
theorem KT.keeps {H H':Hp}{kvs:List (List Key×V)}{xs:List (List Key×Addr×Value)}(r:KT H kvs xs)(ht:∀b ys,H b=some (.tup ys)->H' b=some (.tup ys)):KT H' kvs xs:=
 Paired.mapP r fun _ _ z=>⟨z.1,ht _ _ z.2.1,z.2.2⟩
section
variable {P:Program} {w:World} {H:Hp} {h:Heap} {a:Addr}
theorem rd_of {u:HO}(ok:HOk P w H h)(e:Rd H a u):ObjOk P w H h a u:=e.ok ok
theorem dk_rd {kvs:List (Key×V)}(ok:HOk P w H h)(e:Rd H a (.dK kvs)):kvs.length<=sizeLine/\(a==sysModules)=false/\∃vs,KV kvs vs/\h.DictOf (mixKind P w) a vs:=
 show ObjOk P w H h a (.dK kvs) from rd_of ok e
theorem dk_of {kvs:List (Key×V)}(ok:HOk P w H h)(e:H a=some (.dK kvs)):kvs.length<=sizeLine/\(a==sysModules)=false/\∃vs,KV kvs vs/\h.DictOf (mixKind P w) a vs:=dk_rd ok (.inl e)
theorem key_of {ks:List Key}(ok:HOk P w H h)(e:H a=some (.tup (ks.map kV))):(tupleKind (mixKind P w)).is h ks a:=by
 obtain⟨_,its,r,o,h1,h2,n,h3⟩:=(show ObjOk P w H h a (.tup (ks.map kV)) from ok a _ e)
 exact⟨o,its.toArray,n,h1,h2,h3,by simpa using items_are r⟩
theorem dt_rd {kvs:List (List Key×V)}(ok:HOk P w H h)(e:Rd H a (.dT kvs)):kvs.length<=sizeLine/\(a==sysModules)=false∧
  ∃xs,KT H kvs xs/\h.DictOfH (tupleKind (mixKind P w)) a xs:=by
 obtain⟨z,y,xs,r,o,es,ep,h1,h2,h3,h4,h5⟩:=(show ObjOk P w H h a (.dT kvs) from rd_of ok e)
 refine⟨z,y,xs,r,o,es,ep,h1,h2,h3,h4,fun x hx=>?_,h5⟩
 have all:∀{l:List (List Key×V)} {m:List (List Key×Addr×Value)},KT H l m->∀x∈m,(tupleKind (mixKind P w)).is h x.1 x.2.1:=by
  intro l m q
  induction q with
  |nil=>intro x hx;exact nomatch hx
  |@cons p q ps qs hq t ih=>
   intro x hx
   rcases List.mem_cons.mp hx with e|hx
   ·subst e
    exact key_of ok (by rw[<- hq.1];exact hq.2.1)
   ·exact ih x hx
 exact all r x hx
theorem dt_of {kvs:List (List Key×V)}(ok:HOk P w H h)(e:H a=some (.dT kvs)):kvs.length<=sizeLine/\(a==sysModules)=false∧
  ∃xs,KT H kvs xs/\h.DictOfH (tupleKind (mixKind P w)) a xs:=dt_rd ok (.inl e)
end
def DGet (H:Hp)(a:Addr)(y:V)(r:Option V):Prop:=
 (∃kvs k,Rd H a (.dK kvs)/\y=kV k/\r=valV kvs k)\/∃kvs k b,Rd H a (.dT kvs)/\y=.ref b/\H b=some (.tup (k.map kV))/\r=valV kvs k
def DPut (H:Hp)(a:Addr)(y v:V)(H':Hp):Prop:=
 (∃kvs k,H a=some (.dK kvs)/\y=kV k/\kvs.length<sizeLine/\H'=upd H a (.dK (putK kvs k v)))∨
 ∃kvs k b,H a=some (.dT kvs)/\y=.ref b/\H b=some (.tup (k.map kV))/\kvs.length<sizeLine/\H'=upd H a (.dT (putK kvs k v))
theorem DGet.t {H:Hp}{a b:Addr}{kvs:List (List Key×V)}{k:List Key}(e:H a=some (.dT kvs))(eb:H b=some (.tup (k.map kV))):DGet H a (.ref b) (valV kvs k):=.inr ⟨kvs,k,b,.inl e,rfl,eb,rfl⟩
theorem DPut.t {H:Hp}{a b:Addr}{kvs:List (List Key×V)}{k:List Key}{v:V}(e:H a=some (.dT kvs))(eb:H b=some (.tup (k.map kV)))(hl:kvs.length<sizeLine):
  DPut H a (.ref b) v (upd H a (.dT (putK kvs k v))):=.inr ⟨kvs,k,b,e,rfl,eb,hl,rfl⟩
section
variable {X:Cx} {pins:List (Addr×Obj)} {σ:St} {H:Hp} {s:Shared} {a:Addr} {y v:V} {u r:Value} {o:Option V} {A:Around} {E:Value->Shared->Prop}
theorem Inv.big (I:Inv X pins σ H s):sysModules<s.heap.objs.size:=by
 have h:mainGlobals<s.heap.objs.size:=(I.mod.glob.keeps I.bk).lt
 exact Nat.lt_trans (by decide) h
theorem d_notIn {Q:Value->Shared->Prop}(hu:A.units+1<cLine)(I:Inv X pins σ H s)(g:DGet H a y o)(ry:RelV y u)(h:∀s',Inv X pins σ H s'->Q (.bool (!o.isSome)) s'):
  wpAny (model X.prog X.w) A (compareOp .NotIn u (.ref a)) Q E s:=by
 rcases g with⟨kvs,k,e,ey,l⟩|⟨kvs,k,b,e,ey,eb,l⟩
 ·subst ey
  obtain⟨z,hd,vs,rel,dd⟩:=dk_rd I.hok e
  refine wpAny_notIn_of (kV_is ry) hd dd.mapOf ?_
  rw[<- (rel.val k).isSome_eq,<- l]
  exact h _ (I.tok _)
 ·subst ey
  cases(show u=Value.ref b from ry)
  obtain⟨z,hd,xs,rel,dd⟩:=dt_rd I.hok e
  refine wpAny_notIn_heap (tupleKind_room_in1 hu) (key_of I.hok eb) hd dd ?_
  have q:=(rel.val k).isSome_eq
  rw[Option.isSome_map] at q
  rw[<- q,<- l]
  exact h _ (I.tok _)
theorem d_write {h':Heap}{t':Nat}{ob:HO}(I:Inv X pins σ H s)(mu:Mut (H a))(hs:Heap.SameBut a s.heap h')(he:∃q,h'.get? a=some q)(new:ObjOk X.prog X.w (upd H a ob) h' a ob):
  Inv X pins σ (upd H a ob) { s with heap:=h',toks:=t' }:=
 I.write (x:=a) (e:=a) mu (.inl rfl) (fun b q hb z=>(hs.2 b hb).trans z) he new
theorem dk_new {P:Program}{w:World}{H':Hp}{h':Heap}{kvs:List (Key×V)}{vs:List (Key×Value)}(z:kvs.length<=sizeLine)(hd:(a==sysModules)=false)(rel:KV kvs vs)(dd:h'.DictOf (mixKind P w) a vs):
  ObjOk P w H' h' a (.dK kvs):=⟨z,hd,vs,rel,dd⟩
theorem d_setItem {H':Hp}{Q:Unit->Shared->Prop}(hu:A.units+1<cLine)(I:Inv X pins σ H s)(g:DPut H a y v H')(ry:RelV y u)(rv:RelV v r)(h:∀s',Inv X pins σ H' s'->Q () s'):
  wpAny (model X.prog X.w) A (setItem (.ref a) u r) Q E s:=by
 rcases g with⟨kvs,k,e,ey,l,eH⟩|⟨kvs,k,b,e,ey,eb,l,eH⟩
 ·subst ey eH
  obtain⟨z,hd,vs,rel,dd⟩:=dk_of I.hok e
  have hz:vs.length<=sizeLine:=by rw[<- rel.length];exact z
  have hl:(putK kvs k v).length<=sizeLine:=by have:=length_putK kvs k v;omega
  refine wpAny_setItem_pairs (hsz:=hz) (kV_is ry) dd fun h' dd' hs=>h _ ?_
  have he:∃q,h'.get? a=some q:=let ⟨q,_,_,hq,_⟩:=dd';⟨q,hq⟩
  exact d_write I (by rw[e];exact True.intro) hs he (dk_new hl hd (rel.put k rv) dd')
 ·subst ey eH
  cases(show u=Value.ref b from ry)
  obtain⟨z,hd,xs,rel,dd⟩:=dt_of I.hok e
  have hz:xs.length<=sizeLine:=by rw[<- Paired.length rel];exact z
  have hl:(putK kvs k v).length<=sizeLine:=by have:=length_putK kvs k v;omega
  refine wpAny_setItem_heap (hsz:=hz) (tupleKind_room_in1 hu) (key_of I.hok eb) dd fun h' dd' hs=>h _ ?_
  obtain⟨q,es,ep,hq,h2,h3,h4,_,h5⟩:=dd'
  refine d_write I (by rw[e];exact True.intro) hs ⟨q,hq⟩ ⟨hl,hd,_,(rel.put k eb rv).keeps fun c ys ec=>?_,q,es,ep,hq,h2,h3,h4,h5⟩
  rw[upd_ne (ne_of ec e (fun z=>nomatch z))]
  exact ec
end
def NoSl (i:Expr):Prop:=∀ov iv,subscripted i false ov iv=operate [ov,iv] (getItem ov iv)
theorem subD_of {prog:Program}{w:World}{A:Around}{E:Value->Shared->Prop}{s:Shared}{env:Env}{value slice:Expr}{pos:Pos}{T id:String}{Q:Value->Shared->Prop}
  (hl:typeLookup (.type T) "__getitem__"=pure (some (.builtin id))) (hs:NoSl slice)
  (h:wpAny (model prog w) A (eval value env) (fun o s₁=>wpAny (model prog w) A (eval slice env) (fun i s₂=>s₂.TypeIs o T/\wpAny (model prog w) A (getItem o i) Q E s₂) E s₁) E s):
  wpAny (model prog w) A (eval (.Subscript value slice pos) env) Q E s:=by
 refine Subscript_ (wpAny_mono h (fun o s₁ h₁=>wpAny_mono h₁ (fun i s₂ h₂=>?_) fun _ _ x=>x) fun _ _ x=>x)
 obtain⟨hT,h₂⟩:=h₂
 unfold subscriptTail
 refine wpAny_bind ?_
 rw[getitemInPython_of_ne hT.not_modules]
 refine wpAny_bind (wpAny_specialOf hT hl ?_)
 have fin:wpAny (model prog w) A (subscripted slice false o i) (fun r s₃=>wpAny (model prog w) A (letTemporaryGo value o r >>= fun _=>pure r) Q E s₃) E s₂:=by
  rw[hs o i]
  exact wpAny_operating (wpAny_mono h₂ (fun r s₃ h₃=>wpAny_bind (wpAny_letTemporaryGo (wpAny_pure h₃))) fun _ _ x=>x)
 first
  |exact wpAny_pure (wpAny_bind fin)
  |exact wpAny_bind (wpAny_pure (wpAny_bind fin))
  |exact wpAny_bind fin
def tDNotIn (ty td:TE):TE:=fun σ H Q=>ty σ H fun y H1=>td σ H1 fun x H2=>∃a o,x=.ref a/\DGet H2 a y o/\Q (.bl (!o.isSome)) H2
def sDPut (td ty tv:TE):TS:=fun D σ H=>tv σ H fun v H1=>td σ H1 fun x H2=>ty σ H2 fun y H3=>∃a H4,x=.ref a/\DPut H3 a y v H4/\D.nx σ H4
section
variable {X:Cx} {o i e value:Expr} {pos pos' tpos:Pos} {td ty tv:TE}
theorem pc_dnotin (hu:X.A.units+1<cLine)(hi:PE X i ty)(ho:PE X o td):PC X .NotIn i o (tDNotIn ty td):=by
 intro pins s σ H Q I h
 refine thn (hi pins s σ H _ I h) fun iv s1 ⟨y,H1,I1,ry,q1⟩=>thn (ho pins s1 σ H1 _ I1 q1) fun u s2 hq9=>?_
 obtain⟨x,H2,I2,rx,a,ov,ex,g,q2⟩:=hq9
 subst ex
 obtain rfl:u=Value.ref a:=rx
 exact d_notIn hu I2 g ry fun s3 I3=>⟨.bl (!ov.isSome),H2,I3,rfl,q2⟩
theorem ps_dput (hu:X.A.units+1<cLine)(ho:PE X o td)(hi:PE X i ty)(hv:PE X value tv)(hs:swapsWith value (some (.Subscript o i pos')) pos.line X.env=pure false):
  PS X (.Assign [.Subscript o i pos'] value pos) (sDPut td ty tv):=by
 intro pins s σ H D I h
 refine wpAny_Assign_Subscript (thn (hv pins s σ H _ I h) fun r s1 ⟨v,H1,I1,rv,q1⟩=>thn (ho pins s1 σ H1 _ I1 q1) fun u s2 ⟨x,H2,I2,rx,q2⟩=>thn (hi pins s2 σ H2 _ I2 q2) fun iv s3 ⟨y,H3,I3,ry,a,H4,ex,g,q3⟩=>?_) hs
 subst ex
 obtain rfl:u=Value.ref a:=rx
 exact d_setItem hu I3 g ry rv fun s4 I4=>⟨σ,H4,I4,q3⟩
end
theorem dt_empty {P:Program}{w:World}{H:Hp}(h:Heap)(hb:sysModules<h.objs.size):ObjOk P w H (h.push { cls:=.type "dict",data:=.dict #[] }) h.objs.size (.dT []):=
 ⟨Nat.zero_le _,beq_eq_false_iff_ne.mpr (Ne.symm (Nat.ne_of_lt hb)),[],.nil,_,#[],0,Heap.get?_push_size _ rfl,⟨rfl,rfl,rfl⟩,rfl,rfl,List.nodup_nil⟩
def tPairs:List (TE×TE)->St->Hp->(List (V×V)->Hp->Prop)->Prop
 | [],_,H,Q=>Q [] H
 | (tk,tv)::r,σ,H,Q=>tk σ H fun x H1=>tv σ H1 fun y H2=>tPairs r σ H2 fun ps H3=>Q ((x,y)::ps) H3
abbrev VV:List (V×V)->List (Value×Value)->Prop:=Paired fun p q=>RelV p.1 q.1/\RelV p.2 q.2
def PPs (X:Cx)(pos:Pos)(keys:List (Option Expr))(values:List Expr)(trs:List (TE×TE)):Prop:=
 ∀(pins:List (Addr×Obj)) (s:Shared) (σ:St) (H:Hp) (Q:List (V×V)->Hp->Prop),Inv X pins σ H s->tPairs trs σ H Q→
  wpAny (model X.prog X.w) X.A (evalPairs (pairTrees keys values X.env pos)) (fun vs s'=>∃ps H',Inv X pins σ H' s'/\VV ps vs/\Q ps H') X.xe s
theorem pps_nil {X:Cx}{pos:Pos}:PPs X pos [] [] []:=fun pins s σ H Q I h=>pairTrees_nil_walk ⟨[],H,I,.nil,h⟩
theorem pps_cons {X:Cx}{pos:Pos}{k v:Expr}{ks:List (Option Expr)}{vs:List Expr}{tk tv:TE}{trs:List (TE×TE)}(hk:PE X k tk)(hv:PE X v tv)(hr:PPs X pos ks vs trs):
  PPs X pos (some k::ks) (v::vs) ((tk,tv)::trs):=fun pins s σ H Q I h=>
 pairTrees_cons_walk (thn (hk pins s σ H _ I h) fun u s1 ⟨x,H1,I1,rx,q1⟩=>thn (hv pins s1 σ H1 _ I1 q1) fun w2 s2 ⟨y,H2,I2,ry,q2⟩=>
  thn (hr pins s2 σ H2 _ I2 q2) fun ws s3 ⟨ps,H3,I3,rel,q3⟩=>⟨(x,y)::ps,H3,I3,.cons ⟨rx,ry⟩ rel,q3⟩)
structure M2 (X:Cx)(o:Expr)(m:Str)(apos:Pos)(e f:Expr)(cpos:Pos):Prop where
 base:attributeBase o m X.env (eval o X.env)=eval o X.env
 few:((backTo cpos (starEach [e,f] X.env)).all (fun x=>!x.1)&&(backToKw cpos (keywordEach [] X.env)).all (fun x=>x.1.isSome)
  &&decide (([e,f]:List Expr).length+([]:List Keyword).length+(if ([]:List Keyword).isEmpty then 0 else 1)<30))=true
 line:(apos.endLine==cpos.line)=true
 trees:backTo cpos (starEach [e,f] X.env)=[(false,eval e X.env),(false,eval f X.env)]
end L2
namespace L2
open PySem PySem.Spec PyProof.Rows
mutual
inductive DAt (K:W.Frag) (H:Hp):V->PyData->Prop
 |non:DAt K H .non .none
 |bl (b:Bool):DAt K H (.bl b) (.bool b)
 |int (i:Int):DAt K H (.int i) (.int i)
 |str (x:Str):DAt K H (.str x) (.str x)
 |lst {a:Addr} {xs:List V} {ds:List PyData}:SqL K H a xs->DsAt K H xs ds->DAt K H (.ref a) (.list ds)
 |tup {a:Addr} {xs:List V} {ds:List PyData}:SqT K H a xs->DsAt K H xs ds->DAt K H (.ref a) (.tuple ds)
inductive DsAt (K:W.Frag) (H:Hp):List V->List PyData->Prop
 |nil:DsAt K H [] []
 |cons {x:V} {d:PyData} {xs:List V} {ds:List PyData}:DAt K H x d->DsAt K H xs ds->DsAt K H (x::xs) (d::ds)
end
section
variable {X:Cx} {pins:List (Addr×Obj)} {σ:St} {H:Hp} {s:Shared}
mutual
theorem DAt.reads (I:Inv X pins σ H s):∀{x:V} {d:PyData} {u:Value},DAt X.K H x d->RelV x u->∃as,Reads s.heap u d as
 |_,_,_,.non,r=>by
  cases r
  exact⟨_,.none⟩
 |_,_,_,.bl b,r=>by
  cases r
  exact⟨_,.bool b⟩
 |_,_,_,.int i,r=>by
  obtain⟨t,rfl⟩:=r
  exact⟨_,.int i t⟩
 |_,_,_,.str x,r=>by
  obtain⟨t,rfl⟩:=r
  exact⟨_,.str x t⟩
 |_,_,_,.lst hq ds,r=>by
  cases r
  obtain⟨its,rv,p,_⟩:=I.list hq
  obtain⟨as,ra⟩:=DsAt.reads I ds rv
  obtain⟨o,h1,h2,n,h3⟩:=p.isList
  exact⟨_,.list h1 h2 h3 (by simpa using ra)⟩
 |_,_,_,.tup hq ds,r=>by
  cases r
  obtain⟨its,rv,p,_⟩:=I.tuple hq
  obtain⟨as,ra⟩:=DsAt.reads I ds rv
  obtain⟨o,h1,h2,n,h3⟩:=p
  exact⟨_,.tuple h1 h2 h3 (by simpa using ra)⟩
theorem DsAt.reads (I:Inv X pins σ H s):∀{xs:List V} {ds:List PyData} {us:List Value},DsAt X.K H xs ds->Vals xs us->∃as,ReadsAll s.heap us ds as
 |_,_,_,.nil,r=>by
  cases r
  exact⟨_,.nil⟩
 |_,_,_,.cons d ds,r=>by
  cases r with
  |cons r rs=>
   obtain⟨as,ra⟩:=DAt.reads I d r
   obtain⟨bs,rb⟩:=DsAt.reads I ds rs
   exact⟨_,.cons ra rb⟩
end
def DOk (d:PyData):Prop:=d.canLay0=true/\d.depth<=40
def rEqD (K:PySem.W.Frag)(neg:Bool):R2:=fun x y H Q=>∃dx dy,DAt K H x dx/\DAt K H y dy/\DOk dx/\DOk dy/\Q (.bl (if neg then !PyData.eqv dx dy else PyData.eqv dx dy)) H
theorem op_eqD (hu:X.A.units+64<cLine):OpR X (compareOp .Eq) (rEqD X.K false):=by
 intro pins s σ H x y v u Q I rx ry h
 obtain⟨dx,dy,ax,ay,okx,oky,q⟩:=h
 obtain⟨as,r1⟩:=ax.reads I rx
 obtain⟨bs,r2⟩:=ay.reads I ry
 refine SeqAt.compareEq_reads r1 r2 okx.1 oky.1 ?_ (fin_bl I q rfl)
 have h1:=okx.2
 have h2:min dx.depth dy.depth<=dx.depth:=Nat.min_le_left _ _
 omega
theorem op_neD (hu:X.A.units+64<cLine):OpR X (compareOp .NotEq) (rEqD X.K true):=by
 intro pins s σ H x y v u Q I rx ry h
 obtain⟨dx,dy,ax,ay,okx,oky,q⟩:=h
 obtain⟨as,r1⟩:=ax.reads I rx
 obtain⟨bs,r2⟩:=ay.reads I ry
 refine SeqAt.compareNe_reads r1 r2 okx.1 oky.1 ?_ (fin_bl I q rfl)
 have h1:=okx.2
 have h2:min dx.depth dy.depth<=dx.depth:=Nat.min_le_left _ _
 omega
def rInD (K:PySem.W.Frag)(neg:Bool):R2:=fun x y H Q=>∃p xs dx ds,y=.ref p/\(SqL K H p xs\/SqT K H p xs)/\DsAt K H xs ds/\DAt K H x dx/\DOk dx/\PyData.canLayAll0 ds=true∧
 Q (.bl (if neg then !(ds.any fun d=>PyData.eqv d dx) else ds.any fun d=>PyData.eqv d dx)) H
theorem in_room {a b c:Nat}(hu:a+64<c)(h:b<=40)(k:Nat):a+1+min k b<c:=by
 have h2:min k b<=b:=Nat.min_le_right _ _
 omega
theorem op_notInD (hu:X.A.units+64<cLine):OpR X (compareOp .NotIn) (rInD X.K true):=by
 intro pins s σ H x y v u Q I rx ry h
 obtain⟨p,xs,dx,ds,rfl,hp,ad,ax,okx,okd,q⟩:=h
 obtain⟨bs,r2⟩:=ax.reads I rx
 rcases hp with hp|hp
 ·obtain⟨as,r1⟩:=(DAt.lst hp ad).reads I ry
  exact SeqAt.notIn_list_reads r1 r2 okd okx.1 (in_room hu okx.2 _) (fin_bl I q rfl)
 ·obtain⟨as,r1⟩:=(DAt.tup hp ad).reads I ry
  exact SeqAt.notIn_tuple_reads r1 r2 okd okx.1 (in_room hu okx.2 _) (fin_bl I q rfl)
def rCat0 (K:PySem.W.Frag):R2:=fun x y H Q=>∃a b ys,x=.ref a/\y=.ref b/\SqT K H a []/\SqT K H b ys/\Q (.ref b) H
theorem op_cat0:OpR X (binaryOp .Add) (rCat0 X.K):=by
 intro pins s σ H x y v u Q I rx ry h
 obtain⟨a,b,ys,rfl,rfl,ha,hb,q⟩:=h
 cases rx
 cases ry
 obtain⟨us,ru,pu,_⟩:=I.tuple ha
 obtain⟨ws,rw',pw,_⟩:=I.tuple hb
 cases ru
 obtain⟨⟨cls,dd,data,sl⟩,ho,hc,n,hd⟩:=id pu
 obtain⟨⟨cls2,dd2,data2,sl2⟩,ho2,hc2,n2,hd2⟩:=id pw
 simp only at hc hd hc2 hd2
 subst hc hd hc2 hd2
 have st:=tuple_addW0 a b ([]:List Value).toArray ws.toArray n n2 dd dd2 sl sl2 (by simp)
 exact concat_meets ⟨_,ho,rfl⟩ ⟨_,ho2,rfl⟩ noFill_tuple_add seq_tuple_add PySem.F.slot_tuple_add PySem.F.entry_tuple_add (PySem.F.args_tuple_add_2 _ _) st ⟨ho,ho2,⟨.ref b,H,I,rfl,q⟩⟩
def TSame (H H':Hp):Prop:=∀b xs,H b=some (.tup xs)->H' b=some (.tup xs)
theorem Same.tups {H H':Hp}(s:Same H H'):TSame H H':=fun b xs e=>s b _ e
theorem TSame.trans {H H1 H2:Hp}(a:TSame H H1)(b:TSame H1 H2):TSame H H2:=fun c xs e=>b c xs (a c xs e)
theorem TSame.upd_lst {H H':Hp}{a:Addr}{ys:List V}{o:HO}(s:TSame H H')(h:H' a=some (.lst ys)):TSame H (upd H' a o):=fun b xs e=>by
 have q:=s b xs e
 rw[upd_ne (ne_of q h (by intro z;cases z))]
 exact q
end
end L2
namespace L2
open PySem PySem.Spec PyProof.Rows
open AutoSeq1 (wpAny_loadPart')
section
variable {X:Cx} {pins:List (Addr×Obj)} {σ:St} {H:Hp} {s:Shared}
theorem Inv.turnedT {h':Heap}{t':Nat}{ch:List Addr}{T:Addr}{o:HO}(I:Inv X pins σ H s)(hc:∀b∈ch,FpOk X pins H b)(k:∀b u,b∉ch->s.heap.get? b=some u->h'.get? b=some u)(hT:s.heap.objs.size<=T)(new:ObjOk X.prog X.w (upd H T o) h' T o):
  Inv X pins σ (upd H T o) { s with heap:=h',toks:=t' }:=by
 have hn:H T=none:=I.hok.fresh hT
 have nT:∀b u,s.heap.get? b=some u->b≠T:=fun b u e=>Nat.ne_of_lt (Nat.lt_of_lt_of_le (Heap.lt_size e) hT)
 have nc:∀b u,H b=some u->b∉ch:=fun b u e z=>by
  have:=(hc b z).1
  rw[e] at this
  cases this
 refine I.step (g':=s.gens) (d':=s.drawn) (ch:=ch) (fun b hb=>⟨(hc b hb).2.2.2.1,(hc b hb).2.1,(hc b hb).2.2.2.2.1,(hc b hb).2.2.2.2.2⟩) (fun b u _ _ z e _=>k b u z e) (fun b u _ _ z e _=>⟨u.slots,k b u z e⟩)
  (fun b u _ e n=>by rw[upd_ne (nT b u e)];exact n) (fun b u z e=>⟨u,k b u z e⟩) (fun b xs q=>by rw[upd_ne (ne_of_none q hn)];exact q) (fun b u xs q=>by rw[upd_ne (ne_of_none q hn)];exact q)
  (fun b ps q=>⟨#[],by rw[upd_ne (ne_of_none q hn),q];simp⟩) (fun m hm=>?_) (fun b u e=>?_) I.bare
 ·obtain⟨u,es,ep,ho,r⟩:=hm
  exact⟨u,es,ep,k _ u (fun z=>(hc _ z).2.1 rfl) ho,r⟩
 ·by_cases hb:b=T
  ·subst hb
   rw[upd_same] at e
   cases e
   exact new
  ·rw[upd_ne hb] at e
   refine(I.hok b u e).stay (fun c v z q=>k c v ?_ q) (fun c q=>by rw[upd_ne (ne_of_none q hn)];exact q) fun c xs q=>by rw[upd_ne (ne_of_none q hn)];exact q
   rcases z with z|z
   ·rw[z];exact nc b u e
   ·exact nc c _ z
theorem Inv.turnedL {h':Heap}{t':Nat}{ch:List Addr}(I:Inv X pins σ H s)(hc:∀b∈ch,FpOk X pins H b)(k:∀b u,b∉ch->s.heap.get? b=some u->h'.get? b=some u):Inv X pins σ H { s with heap:=h',toks:=t' }:=by
 have nc:∀b u,H b=some u->b∉ch:=fun b u e z=>by
  have:=(hc b z).1
  rw[e] at this
  cases this
 refine I.step (g':=s.gens) (d':=s.drawn) (ch:=ch) (fun b hb=>⟨(hc b hb).2.2.2.1,(hc b hb).2.1,(hc b hb).2.2.2.2.1,(hc b hb).2.2.2.2.2⟩) (fun b u _ _ z e _=>k b u z e) (fun b u _ _ z e _=>⟨u.slots,k b u z e⟩)
  (fun b u _ e n=>n) (fun b u z e=>⟨u,k b u z e⟩) (fun b xs q=>q) (fun b u xs q=>q) (fun b ps q=>⟨#[],by rw[q];simp⟩) (fun m hm=>?_) (fun b u e=>?_) I.bare
 ·obtain⟨u,es,ep,ho,r⟩:=hm
  exact⟨u,es,ep,k _ u (fun z=>(hc _ z).2.1 rfl) ho,r⟩
 ·refine(I.hok b u e).stay (fun c v z q=>k c v ?_ q) (fun c q=>q) fun c xs q=>q
  rcases z with z|z
  ·rw[z];exact nc b u e
  ·exact nc c _ z
end
theorem boot_enum:bootBuiltins "enumerate"=some (.type "enumerate"):=by decide +kernel
end L2
namespace L2
open PySem PySem.Spec PyProof.Rows
section
variable {X:Cx}
def rCat1 (K:W.Frag):R2:=fun x y H Q=>∃a b xs ys,x=.ref a/\y=.ref b/\H a=some (.tup xs)/\SqT K H b ys/\xs≠[]/\xs.length+ys.length<=sizeLine/\∀p H',Same H H'->H' p=some (.tup (xs++ys))->Q (.ref p) H'
theorem op_cat1:OpR X (binaryOp .Add) (rCat1 X.K):=by
 intro pins s σ H x y v u Q I rx ry h
 obtain⟨a,b,xs,ys,rfl,rfl,ha,hb,hx,hz,q⟩:=h
 exact op_catT pins s σ H _ _ v u Q I rx ry ⟨a,b,xs,ys,rfl,rfl,SqT.of ha,hb,hx,hz,fun z=>q a H (Same.refl H) (by subst z;rw[List.append_nil];exact ha),fun _ p hp=>q p _ ((Same.refl H).upd_free hp) upd_same⟩
end
end L2
namespace L2
open PySem PySem.Spec PyProof.Rows
section
variable {X:Cx}
def manyI (ns:List Int):Nat:=(firstMet (fun i=>ns.getD i 0) ns.length).length
def inI (ns:List Int):Int->Bool:=fun k=>(firstMet (fun i=>ns.getD i 0) ns.length).any (·==k)
end
theorem range_getD (ns:List Int):(List.range ns.length).map (fun i=>ns.getD i 0)=ns:=by
 apply List.ext_getElem
 ·simp
 ·intro i h1 h2
  have h3:i<ns.length:=h2
  simp[List.getD,h3]
theorem first_nodup:∀(ns σ:List Int),σ.Nodup->(ns.foldl step_dedup σ).Nodup
 | [],σ,h=>h
 |v::ns,σ,h=>by
  refine first_nodup ns _ ?_
  unfold step_dedup
  split
  ·exact h
  ·rename_i hn
   rw[List.nodup_append]
   refine⟨h,by simp,fun x hx y hy=>?_⟩
   rw[List.mem_singleton] at hy
   intro z
   subst hy z
   exact hn (List.any_eq_true.mpr ⟨_,hx,by simp⟩)
theorem inI_iff (ns:List Int)(k:Int):inI ns k=true↔k∈ns:=by
 unfold inI
 rw[firstMet_any,range_getD,List.any_eq_true]
 exact⟨fun⟨x,hx,e⟩=>by rw[beq_iff_eq] at e;rwa [<- e],fun h=>⟨k,h,by simp⟩⟩
end L2
namespace L2
open PySem PySem.Spec PyProof.Rows
theorem zip_apart (n l m:Nat)(h1:l<n)(h2:m<n):ZipApart (n+4) (n+2) (n+3) n (n+1) l m:=by
 constructor<;>(show@Ne Nat _ _;omega)
theorem boot_zip:bootBuiltins "zip"=some (.type "zip"):=by decide +kernel
end L2
namespace L2
open PySem PySem.Spec PyProof.Rows
def numIs:Int->Value->Bool
 |k,.int i _=>i==k
 |k,.bool b=>(if b then(1:Int) else 0)==k
 |_,_=>false
theorem numIs_shape {k:Int}{v:Value}(h:numIs k v=true):(∃t,v=.int k t)\/∃b:Bool,v=.bool b/\(if b then(1:Int) else 0)=k:=by
 cases v<;>simp_all [numIs]
section
variable {prog:Program} {w:World} {A:Around} {E:Value->Shared->Prop} {s:Shared}
theorem hash_bl {b:Bool}{Q:Int->Shared->Prop}(h:Q (hashInt (if b then 1 else 0)) { s with toks:=s.toks+1 }):wpAny (model prog w) A (PySem.pyHash (.bool b)) Q E s:=by
 have tI:s.TypeIs (.bool b) "bool":=rfl
 unfold PySem.pyHash
 refine wpAny_bind ?_
 rw[cRoomFor,if_neg (by rw[show[Value.bool b].any Value.onHeap=false from rfl];exact Bool.false_ne_true)]
 refine wpAny_pure ?_
 refine wpAny_bind (wpAny_specialOf tI PySem.F.slot_bool_hash.lookup ?_)
 show wpAny _ _ (if (some (Value.builtin "int.__hash__")==some Value.none)=true then _ else _) Q E _
 rw[if_neg (by rw[beq_builtin_none];exact Bool.false_ne_true)]
 refine wpAny_bind (wpAny_specialOf tI PySem.F.slot_bool_hash.lookup ?_)
 show wpAny _ _ (callSpecialIfBoundUnlessNone? (.bool b) "__hash__" _ >>= _) Q E _
 refine wpAny_bind (wpAny_callSpecialIfBoundUnlessNone?_slot tI PySem.F.slot_bool_hash (wpAny_call_entry PySem.F.slot_bool_hash tI entry_int_hash ?_ (args_int_hash _)))
 cases b
 ·exact(show wpAny _ _ (do ret (← mkInt 0)) _ _ s from wpAny_ret_mkInt (by
   show wpAny _ _ (if (decide (-(2:Int) ^ 63<=0)&&decide ((0:Int)<2 ^ 63))=true then _ else _) Q E _
   rw[if_pos (by decide)]
   exact wpAny_pure h))
 ·exact(show wpAny _ _ (do ret (← mkInt 1)) _ _ s from wpAny_ret_mkInt (by
   show wpAny _ _ (if (decide (-(2:Int) ^ 63<=1)&&decide ((1:Int)<2 ^ 63))=true then _ else _) Q E _
   rw[if_pos (by decide)]
   exact wpAny_pure h))
end
def numKind (prog:Program)(w:World):PySem.KeyKind prog w Int where
 is:=numIs
 hash:=hashInt
 inj:=fun v a b ha hb=>by cases v<;>simp_all [numIs]
 byValue:=fun k v h=>by rcases numIs_shape h with⟨t,rfl⟩|⟨b,rfl,_⟩<;>rfl
 pyHash:=fun hv h=>by
  rcases numIs_shape hv with⟨t,rfl⟩|⟨b,rfl,e⟩
  ·exact wpAny_pyHash_int h
  ·exact hash_bl (by rw[e];exact h)
 eqBool:=fun {A E s a b u v Q} hu hv h=>by
  rcases numIs_shape hu with⟨t,rfl⟩|⟨c,rfl,e⟩<;>rcases numIs_shape hv with⟨t',rfl⟩|⟨d,rfl,e'⟩
  ·exact wpAny_eqBool_int h
  ·refine SeqAt.EqAt.int_bool a t d prog w E Q ?_
   rw[e',show(a==b)=decide (a=b) from rfl]
   exact h
  ·refine SeqAt.EqAt.bool_int c b t' prog w E Q ?_
   rw[e,show(a==b)=decide (a=b) from rfl]
   exact h
  ·refine SeqAt.EqAt.bool_bool c d prog w E Q ?_
   have q:(c==d)=decide (a=b):=by subst e e';cases c<;>cases d<;>rfl
   rw[q]
   exact h
 «strs»:=fun k x t v h=>by simp[numIs] at h
def nV:V->Option Int
 |.int i=>some i
 |.bl b=>some (if b then 1 else 0)
 |_=>none
theorem nV_is {P:Program}{w:World}{v:V}{u:Value}{k:Int}(e:nV v=some k)(r:RelV v u):(numKind P w).is k u=true:=by
 cases v with
 |int i=>obtain⟨t,rfl⟩:=(show ∃t,u=Value.int i t from r);cases e;simp[numKind,numIs]
 |bl b=>cases(show u=Value.bool b from r);cases e;simp[numKind,numIs]
 |_=>cases e
def Nums (xs:List V)(ns:List Int):Prop:=xs.map nV=ns.map some
theorem Nums.length {xs:List V}{ns:List Int}(h:Nums xs ns):xs.length=ns.length:=by
 have:=congrArg List.length h
 simpa using this
theorem Nums.get {xs:List V}{ns:List Int}{i:Nat}{n:Int}(h:Nums xs ns)(e:ns[i]?=some n):∃x,xs[i]?=some x/\nV x=some n:=by
 have q:(xs.map nV)[i]?=(ns.map some)[i]?:=by rw[h]
 rw[List.getElem?_map,List.getElem?_map,e] at q
 cases ex:xs[i]? with
 |none=>rw[ex] at q;cases q
 |some x=>rw[ex] at q;exact⟨x,rfl,Option.some.inj q⟩
theorem nums_ints (ns:List Int):Nums (ns.map V.int) ns:=by unfold Nums;rw[List.map_map];rfl
theorem Nums.snoc {xs:List V}{ns:List Int}{x:V}{n:Int}(h:Nums xs ns)(e:nV x=some n):Nums (xs++[x]) (ns++[n]):=by
 unfold Nums at h ⊢
 rw[List.map_append,List.map_append,h]
 simp[e]
theorem nums_are {P:Program}{w:World}:∀{xs:List V} {ns:List Int} {us:List Value},Nums xs ns->Vals xs us->ItemsAre (numKind P w) ns us
 | [],[],_,_,.nil=>.nil
 | [],_::_,_,h,_=>by simp[Nums] at h
 |_::_,[],_,h,_=>by simp[Nums] at h
 |x::xs,n::ns,_,h,.cons r t=>by
  have h':nV x=some n/\xs.map nV=ns.map some:=by simpa [Nums] using h
  exact .cons (nV_is h'.1 r) (nums_are (xs:=xs) h'.2 t)
def ND (P:Program)(w:World)(a:Addr)(kvs:List (Int×V)):HO:=.ext fun h=>kvs.length<=sizeLine/\(a==sysModules)=false/\∃vs,KV kvs vs/\h.DictOf (numKind P w) a vs
theorem nd_ok {P:Program}{w:World}{H:Hp}{h:Heap}{a:Addr}{kvs:List (Int×V)}{vs:List (Int×Value)}(z:kvs.length<=sizeLine)(hd:(a==sysModules)=false)(r:KV kvs vs)(dd:h.DictOf (numKind P w) a vs):ObjOk P w H h a (ND P w a kvs):=by
 refine⟨⟨z,hd,vs,r,dd⟩,?_,fun h1 h2 ⟨z,hd,vs,r,o,es,ep,g,m⟩ k=>⟨z,hd,vs,r,o,es,ep,k o g,m⟩⟩
 obtain⟨o,_,_,g,_⟩:=dd
 exact⟨o,g⟩
section
variable {X:Cx} {pins:List (Addr×Obj)} {σ:St} {H:Hp} {s:Shared} {a:Addr} {kvs:List (Int×V)} {k:Int} {y v:V} {u r:Value} {A:Around} {E:Value->Shared->Prop}
theorem nd_of (I:Inv X pins σ H s)(e:H a=some (ND X.prog X.w a kvs)):kvs.length<=sizeLine/\(a==sysModules)=false/\∃vs,KV kvs vs/\s.heap.DictOf (numKind X.prog X.w) a vs:=
 (show ObjOk X.prog X.w H s.heap a (ND X.prog X.w a kvs) from I.hok _ _ e).1
def tNGet (P:Program)(w:World)(td ty:TE):TE:=fun σ H Q=>td σ H fun x H1=>ty σ H1 fun y H2=>∃a kvs k v,x=.ref a/\H2 a=some (ND P w a kvs)/\nV y=some k/\valV kvs k=some v/\Q v H2
def tNNotIn (P:Program)(w:World)(ty td:TE):TE:=fun σ H Q=>ty σ H fun y H1=>td σ H1 fun x H2=>∃a kvs k,x=.ref a/\H2 a=some (ND P w a kvs)/\nV y=some k/\Q (.bl (!(valV kvs k).isSome)) H2
def sNPut (P:Program)(w:World)(td ty tv:TE):TS:=fun D σ H=>tv σ H fun v H1=>td σ H1 fun x H2=>ty σ H2 fun y H3=>∃a kvs k,x=.ref a/\H3 a=some (ND P w a kvs)/\nV y=some k/\kvs.length<sizeLine/\D.nx σ (upd H3 a (ND P w a (putK kvs k v)))
def tNDisp (P:Program)(w:World)(ty tv:TE):TE:=fun σ H Q=>∀p,H p=none->tPairs [(ty,tv)] σ (upd H p (ND P w p [])) fun ps H2=>H2 p=some (ND P w p [])/\∃y v k,ps=[(y,v)]/\nV y=some k/\Q (.ref p) (upd H2 p (ND P w p [(k,v)]))
variable {o i value:Expr} {pos pos':Pos} {td ty tv:TE}
theorem pe_nget (ho:PE X o td)(hi:PE X i ty)(hs:NoSl i):PE X (.Subscript o i pos) (tNGet X.prog X.w td ty):=by
 intro pins s σ H Q I h
 refine subD_of PySem.F.slot_dict_getitem.lookup hs (thn (ho pins s σ H _ I h) fun u s1 ⟨x,H1,I1,rx,q1⟩=>thn (hi pins s1 σ H1 _ I1 q1) fun iv s2 ⟨y,H2,I2,ry,a,kvs,k,v,ex,g,ey,l,q2⟩=>?_)
 subst ex
 obtain rfl:u=Value.ref a:=rx
 obtain⟨z,hd,vs,rel,dd⟩:=nd_of I2 g
 obtain⟨w',hw,rw'⟩:=RelO.some_of (v:=v) (o:=valueAt vs k) (by rw[<- l];exact rel.val k)
 exact⟨dd.typeIs,wpAny_getItem_of (nV_is ey ry) dd.mapOf hw ⟨v,H2,I2.tok _,rw',q2⟩⟩
theorem pc_nnotin (hi:PE X i ty)(ho:PE X o td):PC X .NotIn i o (tNNotIn X.prog X.w ty td):=by
 intro pins s σ H Q I h
 refine thn (hi pins s σ H _ I h) fun iv s1 ⟨y,H1,I1,ry,q1⟩=>thn (ho pins s1 σ H1 _ I1 q1) fun u s2 hq9=>?_
 obtain⟨x,H2,I2,rx,a,kvs,k,ex,g,ey,q2⟩:=hq9
 subst ex
 obtain rfl:u=Value.ref a:=rx
 obtain⟨z,hd,vs,rel,dd⟩:=nd_of I2 g
 refine wpAny_notIn_of (nV_is ey ry) hd dd.mapOf ?_
 rw[<- (rel.val k).isSome_eq]
 exact⟨.bl (!(valV kvs k).isSome),H2,I2.tok _,rfl,q2⟩
theorem ps_nput (ho:PE X o td)(hi:PE X i ty)(hv:PE X value tv)(hs:swapsWith value (some (.Subscript o i pos')) pos.line X.env=pure false):
  PS X (.Assign [.Subscript o i pos'] value pos) (sNPut X.prog X.w td ty tv):=by
 intro pins s σ H D I h
 refine wpAny_Assign_Subscript (thn (hv pins s σ H _ I h) fun r s1 ⟨v,H1,I1,rv,q1⟩=>thn (ho pins s1 σ H1 _ I1 q1) fun u s2 ⟨x,H2,I2,rx,q2⟩=>thn (hi pins s2 σ H2 _ I2 q2) fun iv s3 ⟨y,H3,I3,ry,a,kvs,k,ex,e,ey,l,q3⟩=>?_) hs
 subst ex
 obtain rfl:u=Value.ref a:=rx
 obtain⟨z,hd,vs,rel,dd⟩:=nd_of I3 e
 have hz:vs.length<=sizeLine:=by rw[<- rel.length];exact z
 have hl:(putK kvs k v).length<=sizeLine:=by have:=length_putK kvs k v;omega
 refine wpAny_setItem_pairs (hsz:=hz) (nV_is ey ry) dd fun h' dd' hs=>⟨σ,_,?_,q3⟩
 have he:∃q,h'.get? a=some q:=let ⟨q,_,_,hq,_⟩:=dd';⟨q,hq⟩
 exact d_write I3 (by rw[e];exact True.intro) hs he (nd_ok hl hd (rel.put k rv) dd')
theorem pe_ndisp {ke ve:Expr}(h:PE X ke ty)(hv:PE X ve tv):PE X (.Dict [some ke] [ve] pos) (tNDisp X.prog X.w ty tv):=by
 intro pins s σ H Q I q
 have hn:=I.hok.fresh (Nat.le_refl s.heap.objs.size)
 have hsz:(s.heap.objs.size==sysModules)=false:=beq_eq_false_iff_ne.mpr (Ne.symm (Nat.ne_of_lt I.big))
 have I1:=I.laid (a:=s.heap.objs.size) (o:=ND X.prog X.w s.heap.objs.size []) (h':=s.heap.push { cls:=.type "dict",data:=.dict #[] }) (t':=s.toks) (fun _ _ q=>Heap.get?_push_of_some _ q) (Nat.le_refl _) (nd_ok (Nat.zero_le _) hsz .nil (Heap.DictOf.new s.heap))
 refine wpAny_Dict_walk (knd:=numKind X.prog X.w) rfl rfl (by simp) (by simp) (thn ((pps_cons h hv pps_nil) pins _ σ _ _ I1 (q _ hn)) fun ws s2 ⟨ps,H2,I2,rel,e,y,v,k,ep,ey,q2⟩=>?_)
 subst ep
 cases rel with
 |@cons p1 w1 ps1 ws1 h1 t=>
  cases t
  obtain⟨u,r⟩:=w1
  obtain⟨z,hd,vs0,r0,dd⟩:=nd_of I2 e
  cases r0
  refine⟨[(k,r)],⟨nV_is ey h1.1,rfl,True.intro⟩,dd,fun h' dd' hs=>⟨.ref s.heap.objs.size,_,?_,rfl,q2⟩⟩
  have he:∃q,h'.get? s.heap.objs.size=some q:=let ⟨q,_,_,hq,_⟩:=dd';⟨q,hq⟩
  exact d_write I2 (by rw[e];exact True.intro) hs he (nd_ok (by show 1<=sizeLine;decide) hd (.cons ⟨rfl,h1.2⟩ .nil) dd')
end
end L2
namespace SO
open PySem PyProof PyProof.Rows HT
abbrev KP:=Int×List Int
end SO
namespace L2
open PySem PySem.Spec PyProof.Rows
section
variable {prog:Program} {w:World} {A:Around} {E:Value->Shared->Prop} {s:Shared}
def PairKey (P:Program)(w:World)(h:Heap)(k:Int×List Int)(a:Addr):Prop:=
 ∃o v b n,h.get? a=some o/\o.cls=.type "tuple"/\o.data=.seq #[v,.ref b] n/\numIs k.1 v=true/\IsTupleKey (numKind P w) h k.2 b
theorem PairKey.tup {k:Int×List Int}{a:Addr}(x:PairKey prog w s.heap k a):s.TypeIs (.ref a) "tuple":=let ⟨o,_,_,_,g,c,_⟩:=x;⟨o,g,c⟩
def pairHash (P:Program)(w:World)(k:Int×List Int):Int:=reduceHash (Builtin.Tuple.tupleHashOf [hashInt k.1,tupleKeyHash (numKind P w) k.2])
theorem pair_hash {k:Int×List Int}{a:Addr}{Q:Int->Shared->Prop}(hu:A.units+1<cLine)(hk:PairKey prog w s.heap k a)(h:Q (pairHash prog w k) { s with toks:=s.toks+(k.2.length+3) }):wpAny (model prog w) A (PySem.pyHash (.ref a)) Q E s:=by
 have tT:=hk.tup
 obtain⟨o,v,b,n,g,_,d,kv,kb⟩:=hk
 unfold PySem.pyHash
 first|unfold pyHashByItsType|skip
 refine wpAny_bind (wpAny_cRoomFor_or (.inr (by omega)) ?_)
 refine wpAny_bind (wpAny_specialOf tT PySem.F.slot_tuple_hash.lookup ?_)
 show wpAny _ _ (if (some (Value.builtin "tuple.__hash__")==some Value.none)=true then _ else _) Q E _
 rw[if_neg (by rw[beq_builtin_none];exact Bool.false_ne_true)]
 refine wpAny_bind (wpAny_specialOf tT PySem.F.slot_tuple_hash.lookup ?_)
 show wpAny _ _ (callSpecialIfBoundUnlessNone? (.ref a) "__hash__" _ >>= _) Q E _
 refine wpAny_bind (wpAny_callSpecialIfBoundUnlessNone?_slot tT PySem.F.slot_tuple_hash (wpAny_call_entry PySem.F.slot_tuple_hash tT PySem.F.entry_tuple_hash ?_ (PySem.F.args_tuple_hash_1 _)))
 show wpAny _ A.in1 (Builtin.Tuple.tupleItemsOf (.ref a) >>= _) _ _ _
 refine wpAny_bind (wpAny_tupleItemsOf g d ?_)
 refine wpAny_bind ?_
 rw[<- Array.forIn_toList]
 refine wpAny_forIn_list _ (fun rest (bb:Array Int) s'=>(rest=[v,.ref b]/\bb=#[]/\s'=s)\/(rest=[.ref b]/\bb=#[hashInt k.1]/\s'={ s with toks:=s.toks+1 })\/(rest=[]/\bb=#[hashInt k.1,tupleKeyHash (numKind prog w) k.2]/\s'={ s with toks:=s.toks+1+(k.2.length+1) })) _ ?_ ?_ _ _ (.inl ⟨rfl,rfl,rfl⟩)
 ·rintro x rest bb s' (⟨e,rfl,rfl⟩|⟨e,rfl,rfl⟩|⟨e,_,_⟩)
  ·cases e
   refine wpAny_bind ((numKind prog w).pyHash (k:=k.1) kv ?_)
   first
    |exact wpAny_pure (.inr (.inl ⟨rfl,rfl,rfl⟩))
    |exact wpAny_bind (wpAny_pure (wpAny_pure (.inr (.inl ⟨rfl,rfl,rfl⟩))))
  ·cases e
   refine wpAny_bind (wpAny_pyHash_tuple (knd:=numKind prog w) (ks:=k.2) (A:=A.in1) (s:={ s with toks:=s.toks+1 }) hu kb ?_)
   first
    |exact wpAny_pure (.inr (.inr ⟨rfl,rfl,rfl⟩))
    |exact wpAny_bind (wpAny_pure (wpAny_pure (.inr (.inr ⟨rfl,rfl,rfl⟩))))
  ·cases e
 ·rintro bb s' (⟨e,_,_⟩|⟨e,_,_⟩|⟨_,rfl,rfl⟩)
  ·cases e
  ·cases e
  show wpAny _ _ (retInt (Builtin.Tuple.tupleHashOf [hashInt k.1,tupleKeyHash (numKind prog w) k.2])) _ _ _
  refine wpAny_ret_mkInt ?_
  unfold pairHash reduceHash at h
  generalize Builtin.Tuple.tupleHashOf [hashInt k.1,tupleKeyHash (numKind prog w) k.2]=hv at h ⊢
  show wpAny _ _ (if (decide (-(2:Int) ^ 63<=hv)&&decide (hv<2 ^ 63))=true then _ else _) Q E _
  have et:s.toks+1+(k.2.length+1)+1=s.toks+(k.2.length+3):=by omega
  by_cases hr:(decide (-(2:Int) ^ 63<=hv)&&decide (hv<2 ^ 63))=true
  ·rw[if_pos hr] at h ⊢
   exact wpAny_pure (by simpa only[et] using h)
  ·rw[if_neg hr] at h ⊢
   exact wpAny_bind (wpAny_rule (wpAny_pure (by simpa only[et] using h)))
theorem PairKey.inj {h:Heap}{a:Addr}{x y:Int×List Int}(hx:PairKey prog w h x a)(hy:PairKey prog w h y a):x=y:=by
 obtain⟨o,v,b,n,g,c,d,kv,kb⟩:=hx
 obtain⟨o',v',b',n',g',c',d',kv',kb'⟩:=hy
 rw[g] at g'
 cases g'
 rw[d] at d'
 cases d'
 obtain⟨x1,x2⟩:=x
 obtain⟨y1,y2⟩:=y
 have e1:x1=y1:=(numKind prog w).inj v _ _ kv kv'
 have e2:x2=y2:=kb.inj kb'
 rw[e1,e2]
theorem pair_eq_tree {x y:Int×List Int}{a b:Addr}{P:Fin->Shared->Prop}(hu:A.units<cLine)(hx:PairKey prog w s.heap x a)(hy:PairKey prog w s.heap y b)(h:P (.done (.ret (.bool (decide (x=y))))) s):
  wpAny (model prog w) A (Builtin.«tuple.__eq__» ⟨[.ref a,.ref b],[]⟩) P E s:=by
 have tB:=hy.tup
 obtain⟨oa,v,p,na,ga,_,da,kv,kp⟩:=hx
 obtain⟨ob,v',p',nb,gb,_,db,kv',kp'⟩:=hy
 obtain⟨x1,x2⟩:=x
 obtain⟨y1,y2⟩:=y
 show wpAny _ _ (isInstance (.ref b) (.type "tuple") >>= _) _ _ _
 refine wpAny_bind (wpAny_isInstance tB isSubtype_tuple_tuple ?_)
 simp only[Bool.not_true,Bool.false_eq_true,if_false]
 refine wpAny_bind (wpAny_tupleItemsOf ga da (wpAny_bind (wpAny_tupleItemsOf gb db ?_)))
 refine wpAny_bind ?_
 refine wpAny_forIn_list _ (fun rest r s'=>r.1=none/\s'=s/\((rest=[(v,v'),(Value.ref p,Value.ref p')])\/(rest=[(Value.ref p,Value.ref p')]/\x1=y1)\/(rest=[]/\x1=y1/\x2=y2))) _ ?_ ?_ _ _ ⟨rfl,rfl,.inl rfl⟩
 ·rintro⟨q,q'⟩ rest r s' ⟨hr,rfl,(e|⟨e,e1⟩|⟨e,_⟩)⟩
  ·cases e
   refine wpAny_bind ((numKind prog w).eqBool (a:=x1) (b:=y1) kv kv' ?_)
   by_cases hk:x1=y1
   ·rw[decide_eq_true hk]
    simp only[Bool.not_true,Bool.false_eq_true,if_false]
    exact wpAny_pure ⟨rfl,rfl,.inr (.inl ⟨by first|rfl|trivial,hk⟩)⟩
   ·rw[decide_eq_false hk]
    simp only[Bool.not_false,if_true]
    have hf:decide ((x1,x2)=(y1,y2))=false:=decide_eq_false fun z=>hk (Prod.mk.inj z).1
    rw[hf] at h
    exact wpAny_bind (wpAny_pure (wpAny_pure (wpAny_pure h)))
  ·cases e
   refine wpAny_bind (wpAny_eqBool_tuple (knd:=numKind prog w) (x:=x2) (y:=y2) hu kp kp' ?_)
   by_cases hk:x2=y2
   ·rw[decide_eq_true hk]
    simp only[Bool.not_true,Bool.false_eq_true,if_false]
    exact wpAny_pure ⟨rfl,rfl,.inr (.inr ⟨by first|rfl|trivial,e1,hk⟩)⟩
   ·rw[decide_eq_false hk]
    simp only[Bool.not_false,if_true]
    have hf:decide ((x1,x2)=(y1,y2))=false:=decide_eq_false fun z=>hk (Prod.mk.inj z).2
    rw[hf] at h
    exact wpAny_bind (wpAny_pure (wpAny_pure (wpAny_pure h)))
  ·cases e
 ·rintro⟨r1,r2⟩ s' ⟨hr,rfl,(e|⟨e,_⟩|⟨_,e1,e2⟩)⟩
  ·cases e
  ·cases e
  simp only at hr
  subst hr
  refine wpAny_pure ?_
  show P (.done (.ret (.bool (2==2)))) s'
  have ht:decide ((x1,x2)=(y1,y2))=true:=decide_eq_true (by rw[e1,e2])
  rw[ht] at h
  exact h
theorem pair_eq {x y:Int×List Int}{a b:Addr}{Q:Bool->Shared->Prop}(hu:A.units+1<cLine)(hx:PairKey prog w s.heap x a)(hy:PairKey prog w s.heap y b)(h:Q (decide (x=y)) s):
  wpAny (model prog w) A (PySem.eqBool (.ref a) (.ref b)) Q E s:=by
 unfold PySem.eqBool
 try with_reducible refine wpAny_holding ?_
 show wpAny _ _ (if (Value.ref a==Value.ref b)=true then _ else _) Q E _
 by_cases hab:(Value.ref a==Value.ref b)=true
 ·rw[if_pos hab]
  have e:a=b:=by have:=eq_of_beq hab;injection this
  subst e
  obtain rfl:=hx.inj hy
  exact wpAny_bind (wpAny_rule (wpAny_pure (by simpa using h)))
 ·rw[if_neg hab]
  exact wpAny_bind (wpAny_richCompare_same_room (op:=.Eq) hx.tup hy.tup PySem.F.slot_tuple_eq
   (wpAny_call_entry PySem.F.slot_tuple_eq hx.tup PySem.F.entry_tuple_eq (pair_eq_tree (A:=A.in1) hu hx hy ⟨_,rfl,(fun e=>nomatch e),wpAny_truthy_bool h⟩) (PySem.F.args_tuple_eq_2 _ _)) (by omega))
theorem flat_quiet {n:Nat}{ks:List Int}{a:Addr}{Q:Bool->Shared->Prop}(hk:IsTupleKey (numKind prog w) s.heap ks a)(h:Q true s):wpAny (model prog w) A (eqIsQuiet (n+1) (.ref a)) Q E s:=by
 have tT:=hk.typeIs
 obtain⟨o,items,m,g,_,d,hi⟩:=hk
 unfold eqIsQuiet
 refine wpAny_bind (wpAny_specialOf tT PySem.F.slot_tuple_eq.lookup ?_)
 show wpAny _ _ (isInstance (.ref a) (.type "tuple") >>= _) _ _ _
 refine wpAny_bind (wpAny_isInstance tT isSubtype_tuple_tuple ?_)
 simp only[Bool.not_true,Bool.false_eq_true,if_false]
 refine wpAny_bind (wpAny_seqItems g d (wpAny_bind ?_))
 show wpAny _ _ (forIn items _ _) _ _ _
 rw[<- Array.forIn_toList]
 refine wpAny_forIn_list _ (fun rest r s'=>r.1=none/\s'=s/\∀v∈rest,carriedByValue v=true) _ ?_ ?_ _ _ ⟨rfl,rfl,hi.byValue⟩
 ·rintro v rest r s' ⟨hr,rfl,al⟩
  rw[eqIsQuiet_byValue _ (al v List.mem_cons_self)]
  refine wpAny_bind (wpAny_pure ?_)
  simp only[Bool.not_true,Bool.false_eq_true,if_false]
  exact wpAny_pure ⟨rfl,rfl,fun u hu=>al u (List.mem_cons_of_mem _ hu)⟩
 ·rintro⟨r1,r2⟩ s' ⟨hr,rfl,_⟩
  simp only at hr
  subst hr
  exact wpAny_pure h
theorem pair_quiet {k:Int×List Int}{a:Addr}{Q:Bool->Shared->Prop}(hk:PairKey prog w s.heap k a)(h:Q true s):wpAny (model prog w) A (eqIsQuiet 8 (.ref a)) Q E s:=by
 have tT:=hk.tup
 obtain⟨o,v,b,m,g,_,d,kv,kb⟩:=hk
 have cv:carriedByValue v=true:=(numKind prog w).byValue _ _ kv
 unfold eqIsQuiet
 refine wpAny_bind (wpAny_specialOf tT PySem.F.slot_tuple_eq.lookup ?_)
 show wpAny _ _ (isInstance (.ref a) (.type "tuple") >>= _) _ _ _
 refine wpAny_bind (wpAny_isInstance tT isSubtype_tuple_tuple ?_)
 simp only[Bool.not_true,Bool.false_eq_true,if_false]
 refine wpAny_bind (wpAny_seqItems g d (wpAny_bind ?_))
 show wpAny _ _ (forIn #[v,Value.ref b] _ _) _ _ _
 rw[<- Array.forIn_toList]
 refine wpAny_forIn_list _ (fun rest r s'=>r.1=none/\s'=s/\(rest=[v,.ref b]\/rest=[.ref b]\/rest=[])) _ ?_ ?_ _ _ ⟨rfl,rfl,.inl rfl⟩
 ·rintro x rest r s' ⟨hr,rfl,(e|e|e)⟩
  ·cases e
   rw[eqIsQuiet_byValue _ cv]
   refine wpAny_bind (wpAny_pure ?_)
   simp only[Bool.not_true,Bool.false_eq_true,if_false]
   exact wpAny_pure ⟨rfl,rfl,.inr (.inl (by first|rfl|trivial))⟩
  ·cases e
   refine wpAny_bind (flat_quiet (n:=6) kb ?_)
   simp only[Bool.not_true,Bool.false_eq_true,if_false]
   exact wpAny_pure ⟨rfl,rfl,.inr (.inr (by first|rfl|trivial))⟩
  ·cases e
 ·rintro⟨r1,r2⟩ s' ⟨hr,rfl,_⟩
  simp only at hr
  subst hr
  exact wpAny_pure h
end
def pairKind (prog:Program)(w:World):HeapKind prog w (Int×List Int) where
 is:=PairKey prog w
 hash:=pairHash prog w
 draws:=fun k=>k.2.length+3
 room:=fun A=>A.units+1<cLine
 inj:=fun hx hy=>hx.inj hy
 keeps:=fun {h h' k a d o es ep} x ho hd hs=>by
  obtain⟨o',v,b,n,g,c,dd,kv,kb⟩:=x
  have ne:a≠d:=by
   rintro rfl
   rw[ho] at g
   cases g
   rw[hd] at dd
   cases dd
  exact⟨o',v,b,n,(hs.2 a ne).trans g,c,dd,kv,kb.keeps ho hd hs⟩
 pyHash:=fun hu hk h=>pair_hash hu hk h
 eqBool:=fun hu hx hy h=>pair_eq hu hx hy h
 quiet:=fun hk h=>pair_quiet hk h
section
variable {prog:Program} {w:World} {K:Type} [DecidableEq K] {knd:HeapKind prog w K} {A:Around} {E:Value->Shared->Prop} {s:Shared}
theorem setdef_heap {d a:Addr}{xs:List (K×Addr×Value)}{k:K}{v:Value}{Q:Value->Shared->Prop}(hu:knd.room A)(hkey:knd.is s.heap k a)(hm:s.heap.DictOfH knd d xs)(hsz:xs.length<=sizeLine)
  (h1:∀p,atKey xs k=some p->Q p.2 { s with toks:=s.toks+knd.draws k })
  (h2:atKey xs k=none->∀h',h'.DictOfH knd d (xs++[(k,a,v)])->Heap.SameBut d s.heap h'->Q v { s with heap:=h',toks:=s.toks+knd.draws k }):
  wpAny (model prog w) A (dictSetDefault d (.ref a) v) Q E s:=by
 obtain⟨o,es,ep,ho,hc,hd,he,his,hn⟩:=hm
 unfold dictSetDefault
 try with_reducible refine wpAny_holding ?_
 refine wpAny_bind (knd.pyHash hu hkey (wpAny_bind (wpAny_dictFind_heap (s:={ s with toks:=s.toks+knd.draws k }) hu hkey ho hd he his hn ?_ ?_)))
 ·intro hno
  have en:=atKey_none_of_get hno
  have hnot:k∉xs.map (·.1):=not_mem_keys_of_get hno
  refine wpAny_bind (wpAny_rule (wpAny_bind (wpAny_updateDictKeys (hz:=by have e:=size_of_entries he;omega) (s:={ s with toks:=s.toks+knd.draws k }) ho hd (wpAny_pure (h2 en _ ⟨_,_,ep+1,Heap.get?_update_self _ ho (Obj.isFreed_of_dict (Obj.data_mapDictKeys hd _)),hc.mapDictKeys _,Obj.data_mapDictKeys hd _,?_,?_,?_⟩ (Heap.SameBut.update ..))))))
  ·simp[he,entryOfKey]
  ·intro x hx
   rcases List.mem_append.mp hx with hx|hx
   ·exact knd.keeps (his x hx) ho hd (Heap.SameBut.update ..)
   ·rw[List.mem_singleton] at hx
    subst hx
    exact knd.keeps hkey ho hd (Heap.SameBut.update ..)
  ·rw[List.map_append,List.nodup_append]
   refine⟨hn,by simp,fun x hx y hy=>?_⟩
   have:y=k:=by simpa using hy
   subst this
   exact fun e=>hnot (e▸hx)
 ·intro j p hj
  refine wpAny_bind (wpAny_dictEntries (s:={ s with toks:=s.toks+knd.draws k }) ho hd ?_)
  rw[entry_at he j,hj]
  exact wpAny_bind (wpAny_rule (wpAny_pure (h1 p (atKey_of_get hn hj))))
theorem meets_setdefH (d a:Addr)(hd:(d==sysModules)=false)(v:Value):
  MeetsIn prog w (Builtin.«dict.setdefault» ⟨[.ref d,.ref a,v],[]⟩) (fun A R s=>knd.room A.in1/\∃k xs,knd.is s.heap k a/\s.heap.DictOfH knd d xs/\xs.length<=sizeLine∧
   (∀p,atKey xs k=some p->R (.ok (.ret p.2)) { s with toks:=s.toks+knd.draws k })∧
   (atKey xs k=none->∀h',h'.DictOfH knd d (xs++[(k,a,v)])->Heap.SameBut d s.heap h'->R (.ok (.ret v)) { s with heap:=h',toks:=s.toks+knd.draws k })):=
 .of_wp fun A R s ⟨hu,k,xs,hk,hm,hz,h1,h2⟩=>by
  unfold Builtin.«dict.setdefault»
  refine wpAny_bind ?_
  unfold Builtin.Dict.keyAndDefault
  refine wpAny_bind (wpAny_notOrdered_dict hm.typeIs (wpAny_pure ?_))
  show wpAny _ _ (if (d==sysModules)=true then _ else(dictSetDefault d (.ref a) v >>= _)) _ _ _
  rw[if_neg (by rw[hd];exact Bool.false_ne_true)]
  exact wpAny_bind (setdef_heap hu hk hm hz (fun p hp=>wpAny_pure ⟨p.2,rfl,h1 p hp⟩) fun hn h' hm' hs'=>wpAny_pure ⟨v,rfl,h2 hn h' hm' hs'⟩)
end
end L2
namespace L2
open PySem PySem.Spec PyProof.Rows
abbrev KP:=Int×List Int
def PKy (H:Hp)(k:KP)(b:Addr):Prop:=∃v c vs,H b=some (.tup [v,.ref c])/\nV v=some k.1/\H c=some (.tup vs)/\Nums vs k.2
abbrev PRel:KP×Addr×V->KP×Addr×Value->Prop:=fun p q=>p.1=q.1/\p.2.1=q.2.1/\RelV p.2.2 q.2.2
def PD (P:Program)(w:World)(a:Addr)(xs:List (KP×Addr×V)):HO:=.ext fun h=>xs.length<=sizeLine/\(a==sysModules)=false/\∃us,Paired PRel xs us∧
 ∃o es ep,h.get? a=some o/\o.ExactDict/\o.data=.dict es ep/\es.toList=us.map (entryOfKey (pairKind P w))/\(us.map (·.1)).Nodup
def PKs (H:Hp)(xs:List (KP×Addr×V)):Prop:=∀x∈xs,PKy H x.1 x.2.1
theorem PKy.same {H H':Hp}{k:KP}{b:Addr}(h:PKy H k b)(s:∀c ys,H c=some (.tup ys)->H' c=some (.tup ys)):PKy H' k b:=by
 obtain⟨v,c,vs,h1,h2,h3,h4⟩:=h
 exact⟨v,c,vs,s _ _ h1,h2,s _ _ h3,h4⟩
theorem pk_is {P:Program}{w:World}{H:Hp}{h:Heap}{k:KP}{b:Addr}(ok:HOk P w H h)(e:PKy H k b):PairKey P w h k b:=by
 obtain⟨v,c,vs,h1,h2,h3,h4⟩:=e
 obtain⟨_,its,r,o,g1,g2,n,g3⟩:=(show ObjOk P w H h b (.tup [v,.ref c]) from ok b _ h1)
 obtain⟨_,jts,r',o',f1,f2,m,f3⟩:=(show ObjOk P w H h c (.tup vs) from ok c _ h3)
 cases r with
 |@cons _ u _ us ru t=>
  cases t with
  |@cons _ u2 _ us2 ru2 t2=>
   cases t2
   cases ru2
   exact⟨o,u,c,n,g1,g2,g3,nV_is (P:=P) (w:=w) h2 ru,o',jts.toArray,m,f1,f2,f3,by simpa using nums_are h4 r'⟩
def atP (xs:List (KP×Addr×V))(k:KP):Option V:=(xs.find? fun x=>decide (x.1=k)).map (·.2.2)
theorem prel_at {xs:List (KP×Addr×V)}{us:List (KP×Addr×Value)}(r:Paired PRel xs us)(k:KP):RelO (atP xs k) ((atKey us k).map (·.2)):=by
 induction r with
 |nil=>exact True.intro
 |@cons p q ps qs h t ih=>
  obtain⟨h1,h2,h3⟩:=h
  by_cases e:p.1=k
  ·have e':q.1=k:=h1.symm.trans e
   have b:atKey (q::qs) k=some q.2:=by simp[atKey,List.find?_cons,e']
   have c:atP (p::ps) k=some p.2.2:=by simp[atP,List.find?_cons,e]
   rw[b,c];exact h3
  ·have e':¬q.1=k:=fun z=>e (h1.trans z)
   have b:atKey (q::qs) k=atKey qs k:=by simp[atKey,List.find?_cons,e']
   have c:atP (p::ps) k=atP ps k:=by simp[atP,List.find?_cons,e]
   rw[b,c];exact ih
section
variable {X:Cx} {pins:List (Addr×Obj)} {σ:St} {H:Hp} {s:Shared} {a:Addr} {xs:List (KP×Addr×V)}
theorem pd_of (I:Inv X pins σ H s)(e:H a=some (PD X.prog X.w a xs))(hk:PKs H xs):xs.length<=sizeLine/\(a==sysModules)=false/\∃us,Paired PRel xs us/\s.heap.DictOfH (pairKind X.prog X.w) a us:=by
 obtain⟨z,hd,us,r,o,es,ep,g1,g2,g3,g4,g5⟩:=(show ObjOk X.prog X.w H s.heap a (PD X.prog X.w a xs) from I.hok _ _ e).1
 refine⟨z,hd,us,r,o,es,ep,g1,g2,g3,g4,?_,g5⟩
 clear g4 g5 z e
 induction r with
 |nil=>intro x hx;cases hx
 |@cons p q ps qs h t ih=>
  intro x hx
  rcases List.mem_cons.mp hx with rfl|hx
  ·have:=pk_is I.hok (hk p List.mem_cons_self)
   rw[h.1,h.2.1] at this
   exact this
  ·exact ih (fun y hy=>hk y (List.mem_cons_of_mem _ hy)) x hx
theorem pd_new {P:Program}{w:World}{H:Hp}{h:Heap}{us:List (KP×Addr×Value)}(z:xs.length<=sizeLine)(hd:(a==sysModules)=false)(r:Paired PRel xs us)(dd:h.DictOfH (pairKind P w) a us):ObjOk P w H h a (PD P w a xs):=by
 obtain⟨o,es,ep,g1,g2,g3,g4,_,g5⟩:=dd
 exact⟨⟨z,hd,us,r,o,es,ep,g1,g2,g3,g4,g5⟩,⟨o,g1⟩,fun h1 h2 ⟨z,hd,us,r,o,es,ep,g1,m⟩ k=>⟨z,hd,us,r,o,es,ep,k o g1,m⟩⟩
def tPNew (P:Program)(w:World):TE:=fun _ H Q=>∀p,H p=none->Q (.ref p) (upd H p (PD P w p []))
theorem pe_pnew {pos:Pos}:PE X (.Dict [] [] pos) (tPNew X.prog X.w):=fun pins s σ H Q I h=>
 wpAny_Dict_empty ⟨.ref s.heap.objs.size,_,I.laid (a:=s.heap.objs.size) (o:=PD X.prog X.w s.heap.objs.size []) (t':=s.toks) (fun _ _ q=>Heap.get?_push_of_some _ q) (Nat.le_refl _)
  (pd_new (Nat.zero_le _) (beq_eq_false_iff_ne.mpr (Ne.symm (Nat.ne_of_lt I.big))) .nil (Heap.DictOfH.new s.heap)),rfl,h _ (I.hok.fresh (Nat.le_refl _))⟩
theorem call_lenP:CallR X (.builtin "len") (fun vs H Q=>∃a xs,vs=[V.ref a]/\H a=some (PD X.prog X.w a xs)/\PKs H xs/\Q (.int xs.length) H):=by
 intro pins s σ H vs us Q I r h
 obtain⟨a,xs,rfl,ha,hk,q⟩:=h
 obtain⟨u,rfl,ru⟩:=vals1 r
 cases ru
 obtain⟨z,hd,us,rel,o,es,ep,g1,g2,g3,g4,_⟩:=pd_of I ha hk
 have hl:es.size=xs.length:=by
  rw[size_of_entries g4,Paired.length rel]
 have tD:s.TypeIs (.ref a) "dict":=⟨o,g1,g2.1⟩
 have szb:(es.size:Int)<2 ^ 63:=by rw[hl];rw[sizeLine_eq] at z;omega
 refine Calls.call_function_entry kind_len plain_len entry_len (args_len1 _) ?_
 unfold Builtin.«len»
 refine wpAny_bind (m:=oneArg "len" _) (wpAny_pure ?_)
 refine wpAny_bind (m:=callSpecial? (.ref a) (Str.ofString "__len__")) (wpAny_callSpecial?_slot (name:=Str.ofString "__len__") tD PySem.F.slot_dict_len (wpAny_call_entry PySem.F.slot_dict_len tD PySem.F.entry_dict_len ?_ (PySem.F.args_dict_len_1 _)))
 show wpAny _ _ (dictSize a >>= _) _ _ s
 unfold dictSize
 refine wpAny_bind (wpAny_bind (wpAny_dictEntries g1 g3 (wpAny_pure ?_)))
 show wpAny _ _ (Builtin.Dict.pendingCount a >>= _) _ _ s
 refine wpAny_bind (wpAny_pendingCount_other hd (wpAny_ret_mkInt ?_))
 refine wpAny_bind (wpAny_holding (wpAny_pure (wpAny_bind (wpAny_letGo ?_))))
 show wpAny _ _ (if ((es.size:Nat):Int)+((0:Nat):Int)<0 then _ else _) _ _ _
 rw[if_neg (by omega)]
 show wpAny _ _ (if ((es.size:Nat):Int)+((0:Nat):Int)≥2 ^ 63 then _ else _) _ _ _
 rw[if_neg (by omega)]
 refine wpAny_bind (wpAny_mkInt (wpAny_pure ⟨_,rfl,.int xs.length,H,(I.tok _).tok _,⟨s.toks+1,?_⟩,q⟩))
 rw[hl]
 simp
def tSetDef (P:Program)(w:World)(td ty tx:TE):TE:=fun σ H Q=>td σ H fun x H1=>∃a xs0,x=.ref a/\H1 a=some (PD P w a xs0)/\PKs H1 xs0/\ty σ H1 fun y H2=>tx σ H2 fun v H3=>∃xs b k,y=.ref b/\H3 a=some (PD P w a xs)/\PKs H3 xs/\PKy H3 k b/\xs.length<sizeLine∧
 (∀u,atP xs k=some u->Q u H3)/\(atP xs k=none->Q v (upd H3 a (PD P w a (xs++[(k,b,v)]))))
theorem pe_setdef {o e f:Expr}{apos cpos:Pos}{td ty tx:TE}(hu:X.A.units+2<cLine)(ho:PE X o td)(he:PE X e ty)(hf:PE X f tx)(m:M2 X o "setdefault" apos e f cpos):PE X (.Call (.Attribute o "setdefault" apos) [e,f] [] cpos) (tSetDef X.prog X.w td ty tx):=by
 intro pins s σ H Q I h
 refine wpAny_Call_method m.base m.few m.line PySem.F.plainAttrs_dict PySem.F.slot_dict_setdefault PySem.F.type_dict_setdefault (thn (ho pins s σ H _ I h) fun u s1 ⟨x,H1,I1,rx,a,xs0,ex,d,dk,q1⟩=>?_)
 subst ex
 obtain rfl:u=Value.ref a:=rx
 obtain⟨_,hd0,us0,_,dd0⟩:=pd_of I1 d dk
 refine⟨dd0.typeIs,fun c ec=>?_,?_⟩
 ·cases ec
  obtain⟨ob,_,_,g1,g2,_⟩:=dd0
  exact⟨ob,g1,g2.2.1⟩
 rw[m.trees]
 refine Calls.callWith_builtin rfl (Calls.evalArgs_plain (Calls.spliced_cons (thn (he pins s1 σ H1 _ I1 q1) fun iv s2 ⟨y,H2,I2,ry,q2⟩=>Calls.spliced_cons (thn (hf pins s2 σ H2 _ I2 q2) fun fv s3 ⟨v,H3,I3,rz,xs,b,k,ey,e3,hk,kb,hlt,q3,q4⟩=>Calls.spliced_nil ?_))))
 subst ey
 obtain rfl:iv=Value.ref b:=ry
 obtain⟨z,hd,us,rel,dd⟩:=pd_of I3 e3 hk
 refine call_meetsIn PySem.F.slot_dict_setdefault dd.typeIs PySem.F.entry_dict_setdefault (PySem.F.args_dict_setdefault_3 _ _ _) (meets_setdefH (knd:=pairKind X.prog X.w) a b hd fv) ⟨(by show X.A.units+1+1<cLine;omega),k,us,pk_is I3.hok kb,dd,by rw[<- Paired.length rel];exact z,fun p hp=>?_,fun hn h' dd' hs=>?_⟩
 ·have r:=prel_at rel k
  rw[hp] at r
  cases ea:atP xs k with
  |none=>rw[ea] at r;exact r.elim
  |some u=>rw[ea] at r;exact⟨u,H3,I3.tok _,r,q3 u ea⟩
 ·have r:=prel_at rel k
  rw[hn] at r
  cases ea:atP xs k with
  |some u=>rw[ea] at r;exact r.elim
  |none=>
   have he:∃q,h'.get? a=some q:=let ⟨q,_,_,hq,_⟩:=dd';⟨q,hq⟩
   exact⟨v,_,d_write I3 (by rw[e3];exact True.intro) hs he (pd_new (by rw[List.length_append];exact hlt) hd (Paired.snoc rel ⟨rfl,rfl,rz⟩) dd'),rz,q4 ea⟩
end
end L2
namespace L2
open PySem PySem.Spec PyProof.Rows
abbrev KTu:=List Int
def TKy (H:Hp)(k:KTu)(b:Addr):Prop:=∃vs,H b=some (.tup vs)/\Nums vs k
abbrev TRel:KTu×Addr×V->KTu×Addr×Value->Prop:=fun p q=>p.1=q.1/\p.2.1=q.2.1/\RelV p.2.2 q.2.2
def TOk (P:Program)(w:World)(xs:List (KTu×Addr×V))(o:Obj):Prop:=xs.length<=sizeLine/\o.ExactDict/\∃us es ep,Paired TRel xs us/\o.data=.dict es ep/\es.toList=us.map (entryOfKey (tupleKind (numKind P w)))/\(us.map (·.1)).Nodup
def TD (P:Program)(w:World)(a:Addr)(xs:List (KTu×Addr×V))(o:Obj):HO:=.ext fun h=>h.get? a=some o/\(a==sysModules)=false/\TOk P w xs o
def TKs (H:Hp)(xs:List (KTu×Addr×V)):Prop:=∀x∈xs,TKy H x.1 x.2.1
theorem TKy.same {H H':Hp}{k:KTu}{b:Addr}(h:TKy H k b)(s:∀c ys,H c=some (.tup ys)->H' c=some (.tup ys)):TKy H' k b:=by
 obtain⟨vs,h1,h2⟩:=h
 exact⟨vs,s _ _ h1,h2⟩
theorem TKs.same {H H':Hp}{xs:List (KTu×Addr×V)}(h:TKs H xs)(s:∀c ys,H c=some (.tup ys)->H' c=some (.tup ys)):TKs H' xs:=fun x hx=>(h x hx).same s
theorem tk_is {P:Program}{w:World}{H:Hp}{h:Heap}{k:KTu}{b:Addr}(ok:HOk P w H h)(e:TKy H k b):IsTupleKey (numKind P w) h k b:=by
 obtain⟨vs,h3,h4⟩:=e
 obtain⟨_,jts,r',o',f1,f2,m,f3⟩:=(show ObjOk P w H h b (.tup vs) from ok b _ h3)
 exact⟨o',jts.toArray,m,f1,f2,f3,by simpa using nums_are h4 r'⟩
section
variable {X:Cx} {pins:List (Addr×Obj)} {σ:St} {H:Hp} {s:Shared} {a:Addr} {xs:List (KTu×Addr×V)} {o:Obj}
theorem td_at (I:Inv X pins σ H s)(e:H a=some (TD X.prog X.w a xs o)):s.heap.get? a=some o/\(a==sysModules)=false/\TOk X.prog X.w xs o:=
 (show ObjOk X.prog X.w H s.heap a (TD X.prog X.w a xs o) from I.hok _ _ e).1
theorem td_of (I:Inv X pins σ H s)(e:H a=some (TD X.prog X.w a xs o))(hk:TKs H xs):xs.length<=sizeLine/\(a==sysModules)=false/\∃us,Paired TRel xs us/\s.heap.DictOfH (tupleKind (numKind X.prog X.w)) a us:=by
 obtain⟨g1,hd,z,g2,us,es,ep,r,g3,g4,g5⟩:=td_at I e
 refine⟨z,hd,us,r,o,es,ep,g1,g2,g3,g4,?_,g5⟩
 clear g4 g5 z e
 induction r with
 |nil=>intro x hx;cases hx
 |@cons p q ps qs h t ih=>
  intro x hx
  rcases List.mem_cons.mp hx with rfl|hx
  ·have:=tk_is I.hok (hk p List.mem_cons_self)
   rw[h.1,h.2.1] at this
   exact this
  ·exact ih (fun y hy=>hk y (List.mem_cons_of_mem _ hy)) x hx
theorem td_new {P:Program}{w:World}{h:Heap}{us:List (KTu×Addr×Value)}(z:xs.length<=sizeLine)(hd:(a==sysModules)=false)(r:Paired TRel xs us)(dd:h.DictOfH (tupleKind (numKind P w)) a us):∃o,∀H,ObjOk P w H h a (TD P w a xs o):=by
 obtain⟨o,es,ep,g1,g2,g3,g4,_,g5⟩:=dd
 exact⟨o,fun H=>⟨⟨g1,hd,z,g2,us,es,ep,r,g3,g4,g5⟩,⟨o,g1⟩,fun h1 h2 ⟨e,m⟩ k=>⟨k o e,m⟩⟩⟩
def tTNew (P:Program)(w:World):TE:=fun _ H Q=>∀p o,H p=none->Q (.ref p) (upd H p (TD P w p [] o))
theorem pe_tnew {pos:Pos}:PE X (.Dict [] [] pos) (tTNew X.prog X.w):=fun pins s σ H Q I h=>by
 obtain⟨o,ho⟩:=td_new (P:=X.prog) (w:=X.w) (xs:=[]) (Nat.zero_le _) (beq_eq_false_iff_ne.mpr (Ne.symm (Nat.ne_of_lt I.big))) .nil (Heap.DictOfH.new s.heap)
 exact wpAny_Dict_empty ⟨.ref s.heap.objs.size,_,I.laid (a:=s.heap.objs.size) (o:=TD X.prog X.w s.heap.objs.size [] o) (t':=s.toks) (fun _ _ q=>Heap.get?_push_of_some _ q) (Nat.le_refl _) (ho _),rfl,h _ _ (I.hok.fresh (Nat.le_refl _))⟩
theorem trel_none {xs:List (KTu×Addr×V)}{us:List (KTu×Addr×Value)}(r:Paired TRel xs us){k:KTu}(h:∀x∈xs,x.1≠k):atKey us k=none:=by
 induction r with
 |nil=>rfl
 |@cons p q ps qs h' t ih=>
  have e:¬q.1=k:=fun z=>h p List.mem_cons_self (h'.1.trans z)
  have:=ih fun x hx=>h x (List.mem_cons_of_mem _ hx)
  simpa [atKey,List.find?_cons,e] using this
def sTPut (P:Program)(w:World)(td ty tv:TE):TS:=fun D σ H=>tv σ H fun v H1=>td σ H1 fun x H2=>ty σ H2 fun y H3=>∃a xs o b k,x=.ref a/\H3 a=some (TD P w a xs o)/\TKs H3 xs/\y=.ref b/\TKy H3 k b/\xs.length<sizeLine/\(∀x∈xs,x.1≠k)∧
 ∀o',D.nx σ (upd H3 a (TD P w a (xs++[(k,b,v)]) o'))
theorem ps_tput {o i value:Expr}{pos pos':Pos}{td ty tv:TE}(hu:X.A.units+1<cLine)(ho:PE X o td)(hi:PE X i ty)(hv:PE X value tv)(hs:swapsWith value (some (.Subscript o i pos')) pos.line X.env=pure false):
  PS X (.Assign [.Subscript o i pos'] value pos) (sTPut X.prog X.w td ty tv):=by
 intro pins s σ H D I h
 refine wpAny_Assign_Subscript (thn (hv pins s σ H _ I h) fun r s1 ⟨v,H1,I1,rv,q1⟩=>thn (ho pins s1 σ H1 _ I1 q1) fun u s2 ⟨x,H2,I2,rx,q2⟩=>thn (hi pins s2 σ H2 _ I2 q2) fun iv s3 ⟨y,H3,I3,ry,a,xs,ob,b,k,ex,e,hk,ey,kb,l,hno,q3⟩=>?_) hs
 subst ex ey
 obtain rfl:u=Value.ref a:=rx
 obtain rfl:iv=Value.ref b:=ry
 obtain⟨z,hd,us,rel,dd⟩:=td_of I3 e hk
 refine wpAny_setItem_heap (hsz:=by rw[<- Paired.length rel];exact z) (by show X.A.units+1<cLine;exact hu) (tk_is I3.hok kb) dd fun h' dd' hs'=>?_
 rw[storedH_new (trel_none rel hno)] at dd'
 obtain⟨o',ho'⟩:=td_new (P:=X.prog) (w:=X.w) (xs:=xs++[(k,b,v)]) (by rw[List.length_append];exact l) hd (Paired.snoc rel ⟨rfl,rfl,rv⟩) dd'
 have he:∃q,h'.get? a=some q:=let ⟨q,_,_,hq,_⟩:=dd';⟨q,hq⟩
 exact⟨σ,_,d_write I3 (by rw[e];exact True.intro) hs' he (ho' _),q3 o'⟩
end
end L2
namespace L2
open PySem PySem.Spec PyProof.Rows
def TupsAt (H:Hp)(ts:List Addr)(ns:List (List Int)):Prop:=ts.length=ns.length/\∀(i:Nat) (n:List Int),ns[i]?=some n->∃t,ts[i]?=some t/\H t=some (.tup (n.map V.int))
theorem TupsAt.tsame {H H':Hp}{ts:List Addr}{ns:List (List Int)}(h:TupsAt H ts ns)(s:TSame H H'):TupsAt H' ts ns:=⟨h.1,fun i n e=>by
 obtain⟨t,h1,h2⟩:=h.2 i n e
 exact⟨t,h1,s _ _ h2⟩⟩
theorem dints_at {K:W.Frag}{H:Hp}:∀ns:List Int,DsAt K H (ns.map V.int) (ns.map PyData.int)
 | []=>.nil
 |n::ns=>.cons (.int n) (dints_at ns)
theorem dints_lay:∀ns:List Int,PyData.canLayAll0 (ns.map PyData.int)=true
 | []=>rfl
 |n::ns=>by
  rw[List.map_cons,PyData.canLayAll0,dints_lay ns]
  rfl
theorem dints_depth:∀ns:List Int,PyData.depthAll (ns.map PyData.int)=0
 | []=>rfl
 |n::ns=>by
  rw[List.map_cons,PyData.depthAll,dints_depth ns]
  rfl
theorem eqvs_ints:∀a c:List Int,PyData.eqvAll (a.map PyData.int) (c.map PyData.int)=decide (a=c)
 | [],[]=>by simp[PyData.eqvAll]
 | [],_::_=>by simp[PyData.eqvAll]
 |_::_,[]=>by simp[PyData.eqvAll]
 |x::a,y::c=>by
  rw[List.map_cons,List.map_cons,PyData.eqvAll,eqvs_ints a c]
  show((x==y)&&_)=_
  by_cases e:x=y
  ·subst e
   simp
  ·simp[e]
section
variable {X:Cx}
def tTNotIn (P:Program)(w:World)(ty td:TE):TE:=fun σ H Q=>ty σ H fun y H1=>td σ H1 fun x H2=>∃a xs o b k,x=.ref a/\H2 a=some (TD P w a xs o)/\TKs H2 xs/\y=.ref b/\TKy H2 k b/\Q (.bl (!(xs.any fun x=>decide (x.1=k)))) H2
theorem trel_some {xs:List (KTu×Addr×V)}{us:List (KTu×Addr×Value)}(r:Paired TRel xs us)(k:KTu):(atKey us k).isSome=xs.any fun x=>decide (x.1=k):=by
 induction r with
 |nil=>rfl
 |@cons p q ps qs h' t ih=>
  rw[List.any_cons,<- ih,h'.1]
  by_cases e:q.1=k
  ·simp[atKey,List.find?_cons,e]
  ·simp[atKey,List.find?_cons,e]
theorem pc_tnotin {i o:Expr}{ty td:TE}(hu:X.A.units+1<cLine)(hi:PE X i ty)(ho:PE X o td):PC X .NotIn i o (tTNotIn X.prog X.w ty td):=by
 intro pins s σ H Q I h
 refine thn (hi pins s σ H _ I h) fun iv s1 ⟨y,H1,I1,ry,q1⟩=>thn (ho pins s1 σ H1 _ I1 q1) fun u s2 hq9=>?_
 obtain⟨x,H2,I2,rx,a,xs,ob,b,k,ex,g,hk,ey,kb,q2⟩:=hq9
 subst ex ey
 obtain rfl:u=Value.ref a:=rx
 obtain rfl:iv=Value.ref b:=ry
 obtain⟨z,hd,us,rel,dd⟩:=td_of I2 g hk
 refine wpAny_notIn_heap (by show X.A.units+1<cLine;exact hu) (tk_is I2.hok kb) hd dd ?_
 rw[trel_some rel k]
 exact⟨.bl _,H2,I2.tok _,rfl,q2⟩
end
end L2
namespace L2
open PySem PySem.Spec PyProof.Rows
section
variable {X:Cx}
def atT (xs:List (KTu×Addr×V))(k:KTu):Option V:=(xs.find? fun x=>decide (x.1=k)).map (·.2.2)
theorem trel_at {xs:List (KTu×Addr×V)}{us:List (KTu×Addr×Value)}(r:Paired TRel xs us)(k:KTu):RelO (atT xs k) ((atKey us k).map (·.2)):=by
 induction r with
 |nil=>exact True.intro
 |@cons p q ps qs h t ih=>
  obtain⟨h1,h2,h3⟩:=h
  by_cases e:p.1=k
  ·have e':q.1=k:=h1.symm.trans e
   have b:atKey (q::qs) k=some q.2:=by simp[atKey,List.find?_cons,e']
   have c:atT (p::ps) k=some p.2.2:=by simp[atT,List.find?_cons,e]
   rw[b,c];exact h3
  ·have e':¬q.1=k:=fun z=>e (h1.trans z)
   have b:atKey (q::qs) k=atKey qs k:=by simp[atKey,List.find?_cons,e']
   have c:atT (p::ps) k=atT ps k:=by simp[atT,List.find?_cons,e]
   rw[b,c];exact ih
def tTGet (P:Program)(w:World)(td ty:TE):TE:=fun σ H Q=>td σ H fun x H1=>ty σ H1 fun y H2=>∃a xs o b k v,x=.ref a/\H2 a=some (TD P w a xs o)/\TKs H2 xs/\y=.ref b/\TKy H2 k b/\atT xs k=some v/\Q v H2
theorem pe_tget {o i:Expr}{pos:Pos}{td ty:TE}(hu:X.A.units+1<cLine)(ho:PE X o td)(hi:PE X i ty)(hs:NoSl i):PE X (.Subscript o i pos) (tTGet X.prog X.w td ty):=by
 intro pins s σ H Q I h
 refine subD_of PySem.F.slot_dict_getitem.lookup hs (thn (ho pins s σ H _ I h) fun u s1 ⟨x,H1,I1,rx,q1⟩=>thn (hi pins s1 σ H1 _ I1 q1) fun iv s2 ⟨y,H2,I2,ry,a,xs,ob,b,k,v,ex,g,hk,ey,kb,hv,q2⟩=>?_)
 subst ex ey
 obtain rfl:u=Value.ref a:=rx
 obtain rfl:iv=Value.ref b:=ry
 obtain⟨z,hd,us,rel,dd⟩:=td_of I2 g hk
 have r:=trel_at rel k
 rw[hv] at r
 cases hp:atKey us k with
 |none=>rw[hp] at r;exact r.elim
 |some p=>
  rw[hp] at r
  exact⟨dd.typeIs,wpAny_getItem_heap (by show X.A.units+1<cLine;exact hu) (tk_is I2.hok kb) dd hp ⟨v,H2,I2.tok _,r,q2⟩⟩
theorem call_lenT:CallR X (.builtin "len") (fun vs H Q=>∃a xs o,vs=[V.ref a]/\H a=some (TD X.prog X.w a xs o)/\Q (.int xs.length) H):=by
 intro pins s σ H vs us Q I r h
 obtain⟨a,xs,o,rfl,ha,q⟩:=h
 obtain⟨u,rfl,ru⟩:=vals1 r
 cases ru
 obtain⟨g1,hd,z,g2,us,es,ep,rel,g3,g4,_⟩:=td_at I ha
 have hl:es.size=xs.length:=by rw[size_of_entries g4,Paired.length rel]
 have tD:s.TypeIs (.ref a) "dict":=⟨o,g1,g2.1⟩
 have szb:(es.size:Int)<2 ^ 63:=by rw[hl];rw[sizeLine_eq] at z;omega
 refine Calls.call_function_entry kind_len plain_len entry_len (args_len1 _) ?_
 unfold Builtin.«len»
 refine wpAny_bind (m:=oneArg "len" _) (wpAny_pure ?_)
 refine wpAny_bind (m:=callSpecial? (.ref a) (Str.ofString "__len__")) (wpAny_callSpecial?_slot (name:=Str.ofString "__len__") tD PySem.F.slot_dict_len (wpAny_call_entry PySem.F.slot_dict_len tD PySem.F.entry_dict_len ?_ (PySem.F.args_dict_len_1 _)))
 show wpAny _ _ (dictSize a >>= _) _ _ s
 unfold dictSize
 refine wpAny_bind (wpAny_bind (wpAny_dictEntries g1 g3 (wpAny_pure ?_)))
 show wpAny _ _ (Builtin.Dict.pendingCount a >>= _) _ _ s
 refine wpAny_bind (wpAny_pendingCount_other hd (wpAny_ret_mkInt ?_))
 refine wpAny_bind (wpAny_holding (wpAny_pure (wpAny_bind (wpAny_letGo ?_))))
 show wpAny _ _ (if ((es.size:Nat):Int)+((0:Nat):Int)<0 then _ else _) _ _ _
 rw[if_neg (by omega)]
 show wpAny _ _ (if ((es.size:Nat):Int)+((0:Nat):Int)≥2 ^ 63 then _ else _) _ _ _
 rw[if_neg (by omega)]
 refine wpAny_bind (wpAny_mkInt (wpAny_pure ⟨_,rfl,.int xs.length,H,(I.tok _).tok _,⟨s.toks+1,?_⟩,q⟩))
 rw[hl]
 simp
end
end L2
namespace L2
open PySem PySem.Spec PyProof.Rows
section
variable {X:Cx}
def rCatA (K:W.Frag):R2:=fun x y H Q=>∃a b xs ys,x=.ref a/\y=.ref b/\H a=some (.tup xs)/\H b=some (.tup ys)/\xs.length+ys.length<=sizeLine/\∀p H',Same H H'->H' p=some (.tup (xs++ys))->Q (.ref p) H'
theorem op_catA:OpR X (binaryOp .Add) (rCatA X.K):=by
 intro pins s σ H x y v u Q I rx ry h
 obtain⟨a,b,xs,ys,rfl,rfl,ha,hb,hz,q⟩:=h
 by_cases hx:xs=[]
 ·subst hx
  exact op_cat0 pins s σ H _ _ v u Q I rx ry ⟨a,b,ys,rfl,rfl,SqT.of ha,SqT.of hb,q b H (Same.refl H) hb⟩
 ·exact op_cat1 pins s σ H _ _ v u Q I rx ry ⟨a,b,xs,ys,rfl,rfl,ha,SqT.of hb,hx,hz,q⟩
end
end L2
namespace LN
open PySem L2 SO
abbrev RA (H:Hp)(t:Addr)(ns:List Int):Prop:=H t=some (.tup (ns.map V.int))
def dRun (ns:List Int):PyData:=.tuple (ns.map PyData.int)
theorem dRun_ok (ns:List Int):DOk (dRun ns):=⟨dints_lay ns,by
 unfold dRun
 rw[PyData.depth,dints_depth]
 decide⟩
theorem dRun_eqv (a c:List Int):PyData.eqv (dRun a) (dRun c)=decide (a=c):=eqvs_ints a c
theorem run_dat {K:W.Frag}{H:Hp}{t:Addr}{ns:List Int}(h:RA H t ns):DAt K H (.ref t) (dRun ns):=.tup (SqT.of h) (dints_at ns)
theorem tups_cons {H:Hp}{t:Addr}{ts:List Addr}{g:List Int}{gs:List (List Int)}(h:TupsAt H (t::ts) (g::gs)):RA H t g/\TupsAt H ts gs:=by
 refine⟨?_,by simpa using h.1,fun i n e=>?_⟩
 ·obtain⟨t',e1,e2⟩:=h.2 0 g rfl
  cases e1
  exact e2
 ·obtain⟨t',e1,e2⟩:=h.2 (i+1) n (by simpa using e)
  exact⟨t',by simpa using e1,e2⟩
theorem runs_dat {K:W.Frag}{H:Hp}:∀{ts:List Addr} {gs:List (List Int)},TupsAt H ts gs->DsAt K H (ts.map V.ref) (gs.map dRun)
 | [],[],_=>.nil
 | [],_::_,h=>by have:=h.1;cases this
 |_::_,[],h=>by have:=h.1;cases this
 |t::ts,g::gs,h=>.cons (run_dat (tups_cons h).1) (runs_dat (tups_cons h).2)
theorem dRuns_lay:∀gs:List (List Int),PyData.canLayAll0 (gs.map dRun)=true
 | []=>rfl
 |g::gs=>by
  rw[List.map_cons,PyData.canLayAll0,(dRun_ok g).1,dRuns_lay gs]
  rfl
theorem dRuns_any (gs:List (List Int))(r:List Int):((gs.map dRun).any fun d=>PyData.eqv d (dRun r))=decide (r∈gs):=by
 rw[List.any_map]
 induction gs with
 |nil=>rfl
 |cons g gs ih=>
  rw[List.any_cons,ih]
  show(PyData.eqv (dRun g) (dRun r)||decide (r∈gs))=_
  rw[dRun_eqv]
  by_cases e:g=r
  ·subst e;simp
  ·simp[e,Ne.symm e]
theorem in_runs {K:W.Frag}{H:Hp}{t l:Addr}{ts:List Addr}{r:List Int}{gs:List (List Int)}{neg:Bool}{Q:VK}(ht:RA H t r)(hl:SqL K H l (ts.map V.ref)\/SqT K H l (ts.map V.ref))(hT:TupsAt H ts gs)(q:Q (.bl (if neg then !decide (r∈gs) else decide (r∈gs))) H):rInD K neg (.ref t) (.ref l) H Q:=by
 refine⟨l,_,dRun r,gs.map dRun,rfl,hl,runs_dat hT,run_dat ht,dRun_ok r,dRuns_lay gs,?_⟩
 rw[dRuns_any]
 exact q
theorem tups_app {H:Hp}{ts us:List Addr}{gs bs:List (List Int)}(h:TupsAt H ts gs)(h':TupsAt H us bs):TupsAt H (ts++us) (gs++bs):=by
 refine⟨by rw[List.length_append,List.length_append,h.1,h'.1],fun i n e=>?_⟩
 by_cases hi:i<gs.length
 ·rw[List.getElem?_append_left hi] at e
  obtain⟨t,e1,e2⟩:=h.2 i n e
  exact⟨t,by rw[List.getElem?_append_left (by rw[h.1];exact hi)];exact e1,e2⟩
 ·rw[List.getElem?_append_right (by omega)] at e
  obtain⟨t,e1,e2⟩:=h'.2 _ n e
  exact⟨t,by rw[List.getElem?_append_right (by rw[h.1];omega),h.1];exact e1,e2⟩
theorem tups_snoc {H:Hp}{ts:List Addr}{t:Addr}{gs:List (List Int)}{g:List Int}(h:TupsAt H ts gs)(e:RA H t g):TupsAt H (ts++[t]) (gs++[g]):=
 tups_app h ⟨rfl,fun i n q=>by
  cases i with
  |zero=>cases q;exact⟨t,rfl,e⟩
  |succ i=>simp at q⟩
theorem tups_nil {H:Hp}:TupsAt H [] []:=⟨rfl,fun i n e=>by simp at e⟩
def dMk (m:List Bool):PyData:=.tuple (m.map PyData.bool)
theorem dbls_at {K:W.Frag}{H:Hp}:∀m:List Bool,DsAt K H (m.map V.bl) (m.map PyData.bool)
 | []=>.nil
 |b::m=>.cons (.bl b) (dbls_at m)
theorem dbls_lay:∀m:List Bool,PyData.canLayAll0 (m.map PyData.bool)=true
 | []=>rfl
 |b::m=>by
  rw[List.map_cons,PyData.canLayAll0,dbls_lay m]
  rfl
theorem dbls_depth:∀m:List Bool,PyData.depthAll (m.map PyData.bool)=0
 | []=>rfl
 |b::m=>by
  rw[List.map_cons,PyData.depthAll,dbls_depth m]
  rfl
theorem eqvs_bls:∀a c:List Bool,PyData.eqvAll (a.map PyData.bool) (c.map PyData.bool)=decide (a=c)
 | [],[]=>rfl
 | [],_::_=>rfl
 |_::_,[]=>rfl
 |a::as,c::cs=>by
  rw[List.map_cons,List.map_cons,PyData.eqvAll,eqvs_bls as cs]
  cases a<;>cases c<;>by_cases h:as=cs<;>simp[h]<;>rfl
theorem dMk_ok (m:List Bool):DOk (dMk m):=⟨dbls_lay m,by
 unfold dMk
 rw[PyData.depth,dbls_depth]
 decide⟩
theorem dMk_eqv (a c:List Bool):PyData.eqv (dMk a) (dMk c)=decide (a=c):=eqvs_bls a c
abbrev MA (H:Hp)(q:Addr)(m:List Bool):Prop:=H q=some (.tup (m.map V.bl))
theorem mk_dat {K:W.Frag}{H:Hp}{t:Addr}{m:List Bool}(h:MA H t m):DAt K H (.ref t) (dMk m):=.tup (SqT.of h) (dbls_at m)
def MksAt (H:Hp)(qs:List Addr)(ms:List (List Bool)):Prop:=qs.length=ms.length/\∀(i:Nat) (m:List Bool),ms[i]?=some m->∃q,qs[i]?=some q/\MA H q m
theorem MksAt.tsame {H H':Hp}{qs:List Addr}{ms:List (List Bool)}(h:MksAt H qs ms)(s:TSame H H'):MksAt H' qs ms:=⟨h.1,fun i m e=>by
 obtain⟨q,h1,h2⟩:=h.2 i m e
 exact⟨q,h1,s _ _ h2⟩⟩
theorem mks_nil {H:Hp}:MksAt H [] []:=⟨rfl,fun i n e=>by simp at e⟩
theorem mks_snoc {H:Hp}{qs:List Addr}{ms:List (List Bool)}{q:Addr}{m:List Bool}(h:MksAt H qs ms)(e:MA H q m):MksAt H (qs++[q]) (ms++[m]):=by
 refine⟨by rw[List.length_append,List.length_append,h.1];rfl,fun i n z=>?_⟩
 by_cases hi:i<ms.length
 ·rw[List.getElem?_append_left hi] at z
  obtain⟨t,e1,e2⟩:=h.2 i n z
  exact⟨t,by rw[List.getElem?_append_left (by rw[h.1];exact hi)];exact e1,e2⟩
 ·rw[List.getElem?_append_right (by omega)] at z
  have hl:=(List.getElem?_eq_some_iff.mp z).1
  rw[List.length_singleton] at hl
  have hi':i-ms.length=0:=by omega
  rw[hi'] at z
  cases z
  exact⟨q,by rw[List.getElem?_append_right (by rw[h.1];omega),h.1,hi'];rfl,e⟩
theorem mks_cons {H:Hp}{t:Addr}{ts:List Addr}{g:List Bool}{gs:List (List Bool)}(h:MksAt H (t::ts) (g::gs)):MA H t g/\MksAt H ts gs:=by
 refine⟨?_,by simpa using h.1,fun i n e=>?_⟩
 ·obtain⟨t',e1,e2⟩:=h.2 0 g rfl
  cases e1
  exact e2
 ·obtain⟨t',e1,e2⟩:=h.2 (i+1) n (by simpa using e)
  exact⟨t',by simpa using e1,e2⟩
theorem mks_dat {K:W.Frag}{H:Hp}:∀{ts:List Addr} {gs:List (List Bool)},MksAt H ts gs->DsAt K H (ts.map V.ref) (gs.map dMk)
 | [],[],_=>.nil
 | [],_::_,h=>by have:=h.1;cases this
 |_::_,[],h=>by have:=h.1;cases this
 |t::ts,g::gs,h=>.cons (mk_dat (mks_cons h).1) (mks_dat (mks_cons h).2)
theorem dMks_lay:∀gs:List (List Bool),PyData.canLayAll0 (gs.map dMk)=true
 | []=>rfl
 |g::gs=>by
  rw[List.map_cons,PyData.canLayAll0,(dMk_ok g).1,dMks_lay gs]
  rfl
theorem dMks_any (gs:List (List Bool))(r:List Bool):((gs.map dMk).any fun d=>PyData.eqv d (dMk r))=decide (r∈gs):=by
 rw[List.any_map]
 induction gs with
 |nil=>rfl
 |cons g gs ih=>
  rw[List.any_cons,ih]
  show(PyData.eqv (dMk g) (dMk r)||decide (r∈gs))=_
  rw[dMk_eqv]
  by_cases e:g=r
  ·subst e;simp
  ·simp[e,Ne.symm e]
theorem dMks_ix (gs:List (List Bool))(r:List Bool)(h:r∈gs):((gs.map dMk).findIdx? fun d=>PyData.eqv d (dMk r))=some (gs.idxOf r):=by
 induction gs with
 |nil=>cases h
 |cons g gs ih=>
  rw[List.map_cons,List.findIdx?_cons,dMk_eqv]
  by_cases e:g=r
  ·subst e
   simp
  ·rcases List.mem_cons.mp h with z|z
   ·exact absurd z.symm e
   ·rw[ih z,List.idxOf_cons,beq_eq_false_iff_ne.mpr e]
    simp[e]
theorem in_mks {K:W.Frag}{H:Hp}{t l:Addr}{ts:List Addr}{r:List Bool}{gs:List (List Bool)}{neg:Bool}{Q:VK}(ht:MA H t r)(hl:SqL K H l (ts.map V.ref))(hT:MksAt H ts gs)(q:Q (.bl (if neg then !decide (r∈gs) else decide (r∈gs))) H):rInD K neg (.ref t) (.ref l) H Q:=by
 refine⟨l,_,dMk r,gs.map dMk,rfl,.inl hl,mks_dat hT,mk_dat ht,dMk_ok r,dMks_lay gs,?_⟩
 rw[dMks_any]
 exact q
def Sb (M:Addr->Prop)(H H':Hp):Prop:=TSame H H'/\∀b o,¬M b->H b=some o->H' b=some o
theorem Sb.refl {M:Addr->Prop}{H:Hp}:Sb M H H:=⟨fun _ _ e=>e,fun _ _ _ e=>e⟩
theorem Sb.of {M:Addr->Prop}{H H':Hp}(s:Same H H'):Sb M H H':=⟨s.tups,fun b o _ e=>s b o e⟩
theorem Sb.trans {M:Addr->Prop}{H H1 H2:Hp}(a:Sb M H H1)(b:Sb M H1 H2):Sb M H H2:=⟨a.1.trans b.1,fun c o n e=>b.2 c o n (a.2 c o n e)⟩
theorem Sb.same {M:Addr->Prop}{H H1 H2:Hp}(a:Sb M H H1)(b:Same H1 H2):Sb M H H2:=a.trans (.of b)
theorem Sb.mono {M M':Addr->Prop}{H H':Hp}(a:Sb M H H')(h:∀b,M b->M' b):Sb M' H H':=⟨a.1,fun b o n e=>a.2 b o (fun z=>n (h b z)) e⟩
theorem Sb.upd {M:Addr->Prop}{H H':Hp}{p:Addr}{o o':HO}(a:Sb M H H')(m:M p)(hp:H' p=some o')(nt:∀xs,o'≠.tup xs):Sb M H (upd H' p o):=by
 refine⟨fun b xs e=>?_,fun b u n e=>?_⟩
 ·have e2:=a.1 b xs e
  rw[upd_ne (ne_of e2 hp (fun z=>nt xs z.symm))]
  exact e2
 ·rw[upd_ne (fun z=>n (by rw[z];exact m))]
  exact a.2 b u n e
def Ex (n:Nat)(U:List Int->Prop)(as as':List (List Int)):Prop:=∃new,as'=as++new/\new.length<=n/\(∀r∈new,U r)/\(as.Nodup->as'.Nodup)
theorem Ex.refl {U:List Int->Prop}{as:List (List Int)}:Ex 0 U as as:=⟨[],by simp,Nat.le_refl _,fun r h=>(by cases h),fun z=>z⟩
theorem Ex.trans {n m:Nat}{U:List Int->Prop}{a b c:List (List Int)}(x:Ex n U a b)(y:Ex m U b c):Ex (n+m) U a c:=by
 obtain⟨u,rfl,h1,h2,d1⟩:=x
 obtain⟨v,rfl,h3,h4,d2⟩:=y
 refine⟨u++v,by rw[List.append_assoc],by rw[List.length_append];omega,fun r hr=>?_,fun z=>d2 (d1 z)⟩
 rcases List.mem_append.mp hr with z|z
 ·exact h2 r z
 ·exact h4 r z
theorem Ex.mono {n m:Nat}{U V:List Int->Prop}{a b:List (List Int)}(x:Ex n U a b)(h:n<=m)(hv:∀r,U r->V r):Ex m V a b:=by
 obtain⟨u,e,h1,h2,d⟩:=x
 exact⟨u,e,Nat.le_trans h1 h,fun r hr=>hv r (h2 r hr),d⟩
theorem Ex.len {n:Nat}{U:List Int->Prop}{a b:List (List Int)}(x:Ex n U a b):b.length<=a.length+n:=by
 obtain⟨u,rfl,h1,h2,_⟩:=x
 rw[List.length_append]
 omega
theorem Ex.mem {n:Nat}{U:List Int->Prop}{a b:List (List Int)}(x:Ex n U a b){r:List Int}(h:r∈b):r∈a\/U r:=by
 obtain⟨u,rfl,h1,h2,_⟩:=x
 rcases List.mem_append.mp h with z|z
 ·exact .inl z
 ·exact .inr (h2 r z)
theorem Ex.nd {n:Nat}{U:List Int->Prop}{a b:List (List Int)}(x:Ex n U a b)(h:a.Nodup):b.Nodup:=by
 obtain⟨_,_,_,_,d⟩:=x
 exact d h
section
variable {X:Cx} {P:Program} {w:World}
theorem pc_tnotinW (hP:X.prog=P)(hw:X.w=w){i o:Expr}{ty td:TE}(hu:X.A.units+1<cLine)(hi:PE X i ty)(ho:PE X o td):PC X .NotIn i o (tTNotIn P w ty td):=by subst hP hw;exact pc_tnotin hu hi ho
theorem pe_tgetW (hP:X.prog=P)(hw:X.w=w){o i:Expr}{pos:Pos}{td ty:TE}(hu:X.A.units+1<cLine)(ho:PE X o td)(hi:PE X i ty)(hs:NoSl i):PE X (.Subscript o i pos) (tTGet P w td ty):=by subst hP hw;exact pe_tget hu ho hi hs
theorem ps_tputW (hP:X.prog=P)(hw:X.w=w){o i value:Expr}{pos pos':Pos}{td ty tv:TE}(hu:X.A.units+1<cLine)(ho:PE X o td)(hi:PE X i ty)(hv:PE X value tv)(hs:swapsWith value (some (.Subscript o i pos')) pos.line X.env=pure false):
  PS X (.Assign [.Subscript o i pos'] value pos) (sTPut P w td ty tv):=by subst hP hw;exact ps_tput hu ho hi hv hs
theorem pe_tnewW (hP:X.prog=P)(hw:X.w=w){pos:Pos}:PE X (.Dict [] [] pos) (tTNew P w):=by subst hP hw;exact pe_tnew
theorem call_lenTW (hP:X.prog=P)(hw:X.w=w):CallR X (.builtin "len") (fun vs H Q=>∃a xs o,vs=[V.ref a]/\H a=some (TD P w a xs o)/\Q (.int xs.length) H):=by subst hP hw;exact call_lenT
theorem pe_callVW {K:W.Frag}{mg:Str->Option Value}{base:Heap}{CX:CXT}{E:XK}{k:Nat}{x:Str}{p pos:Pos}{e:Expr}{es:List Expr}{t:TA}{te:TE}(hP:X.prog=P)(hw:X.w=w)(hK:X.K=K)(hg:X.mg=mg)(hB:X.base=base)(hv:PE X (.Name x p) te)(hr:Room k X.A)(hx:Passes CX X E)(ha:PA X (e::es) t)(he:starEach (e::es) X.env=(false,eval e X.env)::starEach es X.env)(hpl:(backTo pos (starEach es X.env)).any (·.1)=false):
  PE X (.Call (.Name x p) (e::es) [] pos) (tCallV P w K mg base CX k E te t):=by subst hP hw hK hg hB;exact pe_callV hv hr hx ha he hpl
end
end LN
namespace L2
open PySem PySem.Spec PyProof.Rows
section
variable {prog:Program} {w:World} {A:Around} {R:Result->Shared->Prop} {I:Addr} {fp wr:List Addr} {G:Array GenState->Array GenState->Prop} {n:Nat} {P:Nat->Value->Prop} {Sx:Nat->Shared->Prop}
theorem num_scan {k:Int}{v:Value}(h:numIs k v=true):v.scannable=true:=by
 rcases numIs_shape h with⟨t,rfl⟩|⟨b,rfl,_⟩<;>rfl
theorem set_loopN (W:WalksS prog w A.in1 I fp wr G n P Sx)(S:Addr)(nf:S∉fp)(val:Nat->Int)(hv:∀i v,P i v->numIs (val i) v=true)(hb:n+1<scanBound):
  ∀(k i:Nat) (s:Shared),n-i=k->i<=n->Sx i s->s.heap.SetOf (numKind prog w) S (fun k'=>(firstMet val i).any (·==k')) (firstMet val i).length→
   (∀s',Moved (S::wr) G s s'->s'.heap.SetOf (numKind prog w) S (fun k'=>(firstMet val n).any (·==k')) (firstMet val n).length->R (.ok (.ret .none)) s')→
   codeAny (model prog w) A (.builtin "set.update.loop" ⟨[.ref S,.ref I],[]⟩) R s:=by
 have nw:S∉wr:=fun h=>nf (W.sub _ h)
 have sub:∀b∈wr,b∈S::wr:=fun b hb=>List.mem_cons_of_mem _ hb
 intro k
 induction k with
 |zero=>
  intro i s hk hi hst hS hR
  have ein:i=n:=by omega
  subst ein
  refine codeAny_builtin PyProof.Rows.F.entry_set_update_loop ?_
  rw[Around.under_plainId PyProof.Rows.F.plain_set_update_loop _]
  show wpAny _ A.in1 (pyNext (.ref I) >>= _) _ _ _
  refine wpAny_bind (W.done s _ _ hst fun s' hm=>?_)
  show wpAny _ A.in1 (ret Value.none) _ _ _
  exact wpAny_pure (hR s' (hm.mono sub) (by obtain⟨o,es,ep,t,ho,rest⟩:=hS;exact⟨o,es,ep,t,hm.heap S _ nw ho,rest⟩))
 |succ k ih=>
  intro i s hk hi hst hS hR
  have hlt:i<n:=by omega
  refine codeAny_builtin PyProof.Rows.F.entry_set_update_loop ?_
  rw[Around.under_plainId PyProof.Rows.F.plain_set_update_loop _]
  show wpAny _ A.in1 (pyNext (.ref I) >>= _) _ _ _
  refine wpAny_bind (W.item i s _ _ hlt hst fun v s' hP hst' hm=>?_)
  have kv:=hv i v hP
  have hS':s'.heap.SetOf (numKind prog w) S (fun k'=>(firstMet val i).any (·==k')) (firstMet val i).length:=by obtain⟨o,es,ep,tb,ho,rest⟩:=hS;exact⟨o,es,ep,tb,hm.heap S _ nw ho,rest⟩
  show wpAny _ A.in1 (holding [v] (setAdd S v) >>= _) _ _ _
  refine wpAny_bind (wpAny_holding ?_)
  unfold setAdd
  refine wpAny_holding (wpAny_bind ((numKind prog w).pyHash (k:=val i) kv ?_))
  have room:(firstMet val i).length+1<scanBound:=by have:=firstMet_length_le val i;omega
  refine wpAny_setAddHashed_of (knd:=numKind prog w) (s:={ s' with toks:=s'.toks+1 }) kv (num_scan kv) hS' room fun h' hsb hS2=>?_
  have hSi:h'.SetOf (numKind prog w) S (fun k'=>(firstMet val (i+1)).any (·==k')) (firstMet val (i+1)).length:=SetOf_congr hS2 (fun k'=>by rw[firstMet_succ,step_any]) (by rw[firstMet_succ,step_length])
  refine wpAny_pure ⟨plainId_quiet PyProof.Rows.F.plain_set_update_loop _,ih (i+1) _ (by omega) hlt (W.frame _ s' _ _ hst' (Nat.le_succ _) fun b hb o e=>?_) hSi fun s'' hm'' hS''=>?_⟩
  ·rw[hsb.2 b (fun h:b=S=>nf (by rw[<- h];exact hb))]
   exact e
  ·refine hR s'' (Moved.trans W.gtrans ((hm.mono sub).then_heap (Nat.le_succ _) fun b o hb e=>?_) hm'') hS''
   rw[hsb.2 b (fun h:b=S=>hb (by rw[h];exact List.mem_cons_self))]
   exact e
end
section
variable {prog:Program} {w:World} {A:Around} {E:Value->Shared->Prop} {s:Shared}
abbrev newSet (led:Bool):Obj:={ cls:=.type "set",dict:=none,data:=.set #[] 0 (.fresh 0 0 led) }
set_option maxRecDepth 100000 in
set_option maxHeartbeats 3200000 in
theorem set_listN {l:Addr}{its:Array Value}{ns:List Int}{Q:Value->Shared->Prop}(hh:A.handled=none)(hl:s.heap.IsList l its)(hi:∀(i:Nat) (v:Value),its[i]?=some v->numIs (ns.getD i 0) v=true)(hb:its.size+1<scanBound)
  (h:∀(h':Heap) (tk:Nat),h'.SetOf (numKind prog w) s.heap.objs.size (fun k'=>(firstMet (fun i=>ns.getD i 0) its.size).any (·==k')) (firstMet (fun i=>ns.getD i 0) its.size).length→
   (∀b o,b<s.heap.objs.size->s.heap.get? b=some o->h'.get? b=some o)->Q (.ref s.heap.objs.size) { s with heap:=h',toks:=tk }):
  wpAny (model prog w) A (call (.type "set") [.ref l]) Q E s:=by
 obtain⟨c,tl,hmro⟩:=PySem.F.called_set.mro
 have hmade:=PySem.F.called_set.made
 have hsub:=PySem.F.called_set.sub
 refine wpAny_call (codeAny_of_tree ?_)
 show wpAny _ _ (callAny (.type "set") _) _ _ s
 refine wpAny_pure ⟨Code.quiet_builtin _ (by decide +kernel),codeAny_builtin PySem.F.entry_type_call ?_⟩
 rw[Around.under_plain (weight_type_call_type "set" [.ref l] []) rfl]
 have h1:=PySem.F.called_set.notType
 have h2:=PySem.F.called_set.canCreate
 have hct:=PySem.F.typeCall_set_1 (.ref l)
 repeat (any_goals (first|assumption|wp_step))
 refine codeAny_mono (code_set_new_1 (.ref l) (E:=E) (Q₁:=fun obj s₁=>∃led:Bool,obj=.ref s.heap.objs.size/\s₁={ s with heap:=s.heap.push (newSet led) }) fun led=>⟨led,rfl,rfl⟩) fun r s₁ hr=>?_
 cases r with
 |error e=>exact hr
 |ok fl=>
  cases fl with
  |ret obj=>
   obtain⟨led,rfl,rfl⟩:=hr
   have gS:(s.heap.push (newSet led)).get? s.heap.objs.size=some (newSet led):=Heap.get?_push_size _ rfl
   have tS:Shared.TypeIs { s with heap:=s.heap.push (newSet led) } (.ref s.heap.objs.size) "set":=⟨_,gS,rfl⟩
   have hli:=PySem.F.called_set.init.lookup
   have hbi:=PySem.F.called_set.init.bind (.ref s.heap.objs.size)
   repeat (any_goals (first|assumption|wp_step))
   refine codeAny_mono (codeAny_call_builtin (R:=wants (fun r s₂=>r=.none/\∃h' tk,s₂={ s with heap:=h',toks:=tk }∧
     h'.SetOf (numKind prog w) s.heap.objs.size (fun k'=>(firstMet (fun i=>ns.getD i 0) its.size).any (·==k')) (firstMet (fun i=>ns.getD i 0) its.size).length∧
     (∀b o,b<s.heap.objs.size->s.heap.get? b=some o->h'.get? b=some o)) E) PySem.F.called_set.init.plain PySem.F.entry_set_init (check_set_init_1 tS ?_)) fun r₂ s₂ hr₂=>?_
   ·obtain⟨ol,hol,hcl,nl,hdl⟩:=hl
    obtain⟨ocls,odict,odata,oslots⟩:=ol
    simp only at hcl hdl
    subst hcl;subst hdl
    have gl:(s.heap.push (newSet led)).get? l=some { cls:=.type "list",dict:=odict,data:=.seq its nl,slots:=oslots }:=Heap.get?_push_of_some _ hol
    have hsls:=PySem.F.sub_list_set
    have hslf:=PySem.F.sub_list_frozenset
    have hne:(Value.type "list"==Value.type "dict")=false:=by decide
    have il:(s.heap.push (newSet led)).IsList l its:=⟨_,gl,rfl,nl,rfl⟩
    unfold Builtin.«set.__init__» noKeywords Builtin.Frozenset.updateFrom
    generalize hPI:pyIter=PI
    wp_walk
    subst hPI
    refine wpAny_pyIter_list il (wpAny_bind (wpAny_runValue ?_))
    have ll:l<s.heap.objs.size:=Heap.lt_size hol
    have h3:A.in1.in1.in1.handled=none:=by simp[hh]
    have nI:l≠(s.heap.push (newSet led)).objs.size:=by rw[Heap.size_push];exact Nat.ne_of_lt (Nat.lt_succ_of_lt ll)
    have nS:s.heap.objs.size∉[(s.heap.push (newSet led)).objs.size,l]:=by
     rw[Heap.size_push]
     simp only[List.mem_cons,List.mem_singleton,List.not_mem_nil,or_false,not_or]
     exact⟨Nat.ne_of_lt (Nat.lt_succ_self _),Nat.ne_of_gt ll⟩
    refine set_loopN ((Walks.list h3 _ l nI its).toS) s.heap.objs.size nS (fun i=>ns.getD i 0) hi hb (its.size-0) 0 _ (by omega) (Nat.zero_le _) ⟨⟨_,Heap.get?_push_size _ rfl,rfl,rfl⟩,(il.push _)⟩ ?a1 ?a2
    case a1=>
     have g1:((s.heap.push (newSet led)).push { cls:=.type "list_iterator",data:=.fields #[.ref l,.int 0 0] }).get? s.heap.objs.size=some (newSet led):=Heap.get?_push_of_some _ gS
     exact SetOf_congr ((setObjOf_fresh (knd:=numKind prog w) led).setOf g1 (by unfold scanBound;omega)) (fun _=>rfl) rfl
    case a2=>
     intro s' hm hS'
     obtain⟨h',g',d',tk',os'⟩:=s'
     have eg:g'=s.gens:=hm.gens
     have ed:d'=s.drawn:=hm.drawn
     have eo:os'=s.os:=hm.os
     subst eg;subst ed;subst eo
     show wpAny _ _ _ _ _ _
     refine wpAny_pure ?_
     show wpAny _ _ (ret Value.none) _ _ _
     refine wpAny_pure ⟨rfl,h',tk',rfl,hS',fun b o hb e=>?_⟩
     have n1:b≠s.heap.objs.size:=Nat.ne_of_lt hb
     have n2:b≠(s.heap.push (newSet led)).objs.size:=by rw[Heap.size_push];exact Nat.ne_of_lt (Nat.lt_succ_of_lt hb)
     exact hm.heap b o (by simp only[List.mem_cons,List.mem_singleton,List.not_mem_nil,or_false,not_or];exact⟨n1,n2⟩) (Heap.get?_push_of_some _ (Heap.get?_push_of_some _ e))
   ·cases r₂ with
    |error e=>exact hr₂
    |ok fl₂=>
     cases fl₂ with
     |ret r=>
      obtain⟨rfl,h',tk,rfl,hS',hk'⟩:=hr₂
      repeat (any_goals (first|assumption|wp_step))
      exact h _ _ hS' hk'
     |_=>exact hr₂.elim
  |_=>exact hr.elim
end
def NS (P:Program)(w:World)(a:Addr)(S:Int->Bool)(n:Nat):HO:=.ext fun h=>h.SetOf (numKind P w) a S n
section
variable {X:Cx}
theorem call_setN (hc:X.calm=true):CallR X (.type "set") (fun xs H Q=>∃p vs ns,xs=[.ref p]/\SqL X.K H p vs/\Nums vs ns/\ns.length<=1000/\∀a,H a=none->Q (.ref a) (upd H a (NS X.prog X.w a (inI ns) (manyI ns)))):=by
 intro pins s σ H xs us Q I r h
 obtain⟨p,vs,ns,rfl,hq,hN,hn,q⟩:=h
 obtain⟨u,rfl,rx⟩:=vals1 r
 cases rx
 obtain⟨its,r',pl,hz⟩:=I.list hq
 have hlen:=r'.length
 have hl2:=hN.length
 refine set_listN (its:=its.toArray) (ns:=ns) (I.ok.hd hc) pl.isList (fun i v hv=>?_) (by unfold scanBound;rw[List.size_toArray];omega) fun h' tk hS hk=>?_
 ·have hv':its[i]?=some v:=by simpa using hv
  have hi:i<its.length:=(List.getElem?_eq_some_iff.mp hv').1
  obtain⟨n,en⟩:∃n,ns[i]?=some n:=⟨ns[i]'(by omega),by simp⟩
  obtain⟨x,ex,nx⟩:=hN.get en
  obtain⟨u,eu,ru⟩:=r'.get ex
  rw[hv'] at eu
  cases eu
  rw[show ns.getD i 0=n by simp[List.getD,en]]
  exact nV_is (P:=X.prog) (w:=X.w) nx ru
 ·rw[show its.toArray.size=ns.length by rw[List.size_toArray,<- hlen,hl2]] at hS
  refine⟨.ref s.heap.objs.size,_,I.laid (t':=tk) (o:=NS X.prog X.w s.heap.objs.size (inI ns) (manyI ns)) (fun b o e=>hk b o (Heap.lt_size e) e) (Nat.le_refl _) ?_,rfl,q _ (I.hok.fresh (Nat.le_refl _))⟩
  refine⟨hS,?_,fun h1 h2 ⟨o,es,ep,t,g,m⟩ k=>⟨o,es,ep,t,k o g,m⟩⟩
  obtain⟨o,_,_,_,g,_⟩:=hS
  exact⟨o,g⟩
theorem call_lenNS:CallR X (.builtin "len") (fun xs H Q=>∃a S n,xs=[V.ref a]/\H a=some (NS X.prog X.w a S n)/\Q (.int n) H):=by
 intro pins s σ H xs us Q I r h
 obtain⟨a,S,n,rfl,ha,q⟩:=h
 obtain⟨u,rfl,ru⟩:=vals1 r
 cases ru
 obtain⟨o,es,ep,t,ho,hex,hd,_,_,hb,hf,hn⟩:=(show ObjOk X.prog X.w H s.heap a (NS X.prog X.w a S n) from I.hok _ _ ha).1
 subst hn
 unfold scanBound at hb
 exact call_len_set ho hex hd hf (by omega) ⟨.int es.size,H,I.tok _,⟨_,rfl⟩,q⟩
end
end L2
namespace L2
open PySem PySem.Spec PyProof.Rows
structure Src (prog:Program)(w:World)(it l:Addr)(J:Nat->Heap->Prop)(C:Array Value->Heap->Prop):Prop where
 item:∀(A:Around) (E:Value->Shared->Prop) (s:Shared) (k:Nat) (xs:Array Value) (x:Value) (Q:Value->Shared->Prop),J k s.heap->C xs s.heap->xs[k]?=some x->(∀h',J (k+1) h'->Heap.SameBut it s.heap h'->Q x { s with heap:=h' })->wpAny (model prog w) A (Builtin.SmallTypes.nextOf (.ref it)) Q E s
 stop:∀(A:Around) (E:Value->Shared->Prop) (s:Shared) (k:Nat) (xs:Array Value) (Q:Value->Shared->Prop),A.handled=none->J k s.heap->C xs s.heap->xs[k]?=none->(∀h' e,Heap.ExtBut it s.heap h'->(∃o,h'.get? e=some o/\o.cls=.type "StopIteration")->E (.ref e) { s with heap:=h' })->wpAny (model prog w) A (Builtin.SmallTypes.nextOf (.ref it)) Q E s
 keep:∀k h h',J k h->(∀o,h.get? it=some o->h'.get? it=some o)->J k h'
 seq:∀xs h h',C xs h->(∀o,h.get? l=some o->h'.get? l=some o)->C xs h'
 obj:∀k h,J k h->∃o vs,h.get? it=some o/\o.data=.fields vs
theorem src_list {prog:Program}{w:World}(it l:Addr):Src prog w it l (fun k h=>h.IsListIter it l k) (fun xs h=>h.IsList l xs) where
 item:=fun A E s k xs x Q j c e q=>wpAny_nextOf_list_item j c e q
 stop:=fun A E s k xs Q hh j c e q=>wpAny_nextOf_list_end hh j c e q
 keep:=fun k h h' ⟨o,g,r⟩ f=>⟨o,f o g,r⟩
 seq:=fun xs h h' ⟨o,g,r⟩ f=>⟨o,f o g,r⟩
 obj:=fun k h ⟨o,g,_,r⟩=>⟨o,_,g,r⟩
section
variable {prog:Program} {w:World} {A:Around} {E:Value->Shared->Prop} {s:Shared}
theorem next_tup {it t:Addr}{i:Nat}{items:Array Value}{x:Value}{Q:Value->Shared->Prop}(hit:s.heap.IsTupleIter it t i)(ht:s.heap.IsTuple t items)(hx:items[i]?=some x)
  (q:∀h',h'.IsTupleIter it t (i+1)->Heap.SameBut it s.heap h'->Q x { s with heap:=h' }):wpAny (model prog w) A (Builtin.SmallTypes.nextOf (.ref it)) Q E s:=by
 obtain⟨o,g,c,d⟩:=id hit
 obtain⟨ol,gl,_,nl,dl⟩:=ht
 unfold Builtin.SmallTypes.nextOf
 refine wpAny_bind (wpAny_callSpecial?_slot (name:=Str.ofString "__next__") hit.typeIs PySem.F.slot_tuple_iterator_next (wpAny_call_entry PySem.F.slot_tuple_iterator_next hit.typeIs PySem.F.entry_tuple_iterator_next ?_ (PySem.F.args_tuple_iterator_next_1 _)))
 show wpAny _ _ (field (.ref it) 0 >>= _) _ _ _
 refine wpAny_bind (wpAny_field g d (x:=.ref t) rfl ?_)
 show wpAny _ _ (if (Value.ref t==Value.none)=true then _ else _) _ _ _
 rw[if_neg (show ¬((Value.ref t==Value.none)=true) by exact Bool.false_ne_true)]
 show wpAny _ _ (field (.ref it) 1 >>= _) _ _ _
 refine wpAny_bind (wpAny_field g d (x:=.int i 0) rfl ?_)
 show wpAny _ _ (seqItems? (.ref t) >>= _) _ _ _
 refine wpAny_bind (wpAny_seqItems gl dl ?_)
 simp only[Int.toNat_natCast,hx]
 refine wpAny_bind (wpAny_setField g d (by simp) (wpAny_pure ⟨x,rfl,wpAny_pure (q _ ?_ (Heap.SameBut.update ..))⟩))
 exact⟨_,Heap.get?_update_self _ g (Obj.isFreed_of_fields (Obj.data_mapFields d _)),(Obj.cls_mapFields ..).trans c,by rw[Obj.data_mapFields d];simp[rawInt]⟩
theorem next_tup_end {it t:Addr}{i:Nat}{items:Array Value}{Q:Value->Shared->Prop}(hh:A.handled=none)(hit:s.heap.IsTupleIter it t i)(ht:s.heap.IsTuple t items)(hx:items[i]?=none)
  (q:∀h' e,Heap.ExtBut it s.heap h'->(∃o,h'.get? e=some o/\o.cls=.type "StopIteration")->E (.ref e) { s with heap:=h' }):wpAny (model prog w) A (Builtin.SmallTypes.nextOf (.ref it)) Q E s:=by
 obtain⟨o,g,c,d⟩:=id hit
 obtain⟨ol,gl,_,nl,dl⟩:=ht
 unfold Builtin.SmallTypes.nextOf
 refine wpAny_bind (wpAny_callSpecial?_slot (name:=Str.ofString "__next__") hit.typeIs PySem.F.slot_tuple_iterator_next (wpAny_call_entry PySem.F.slot_tuple_iterator_next hit.typeIs PySem.F.entry_tuple_iterator_next ?_ (PySem.F.args_tuple_iterator_next_1 _)))
 show wpAny _ _ (field (.ref it) 0 >>= _) _ _ _
 refine wpAny_bind (wpAny_field g d (x:=.ref t) rfl ?_)
 show wpAny _ _ (if (Value.ref t==Value.none)=true then _ else _) _ _ _
 rw[if_neg (show ¬((Value.ref t==Value.none)=true) by exact Bool.false_ne_true)]
 show wpAny _ _ (field (.ref it) 1 >>= _) _ _ _
 refine wpAny_bind (wpAny_field g d (x:=.int i 0) rfl ?_)
 show wpAny _ _ (seqItems? (.ref t) >>= _) _ _ _
 refine wpAny_bind (wpAny_seqItems gl dl ?_)
 simp only[Int.toNat_natCast,hx]
 refine wpAny_bind (wpAny_rule (wpAny_bind (wpAny_setField g d (by simp) ?_)))
 show wpAny _ _ (newExc (.type "StopIteration") [] >>= _) _ _ (_)
 refine wpAny_bind ?_
 simp only[newExc,newTuple]
 refine wpAny_bind (wpAny_newObj_type (by skip;refine wpAny_bind (m:=firstArgMember _ _) (wpAny_of_eq (a:=Value.none) (by first|rfl|(simp only[firstArgMember];rfl)) ?_);refine wpAny_newObj_type ?_ (by size_fits);simp only[raiseNew];refine wpAny_bind (wpAny_handled ?_);(first|rw[show A.in1.handled=none from hh]|rw[hh]);first|exact wpAny_throw (q _ _ (((Heap.SameBut.update ..).extBut.push _).push _) ⟨_,Heap.get?_push_size _ rfl,rfl⟩)|exact wpAny_bind (wpAny_pure (wpAny_throw (q _ _ (((Heap.SameBut.update ..).extBut.push _).push _) ⟨_,Heap.get?_push_size _ rfl,rfl⟩)))) (by size_fits))
end
theorem src_tup {prog:Program}{w:World}(it l:Addr):Src prog w it l (fun k h=>h.IsTupleIter it l k) (fun xs h=>h.IsTuple l xs) where
 item:=fun A E s k xs x Q j c e q=>next_tup j c e q
 stop:=fun A E s k xs Q hh j c e q=>next_tup_end hh j c e q
 keep:=fun k h h' ⟨o,g,r⟩ f=>⟨o,f o g,r⟩
 seq:=fun xs h h' ⟨o,g,r⟩ f=>⟨o,f o g,r⟩
 obj:=fun k h ⟨o,g,_,r⟩=>⟨o,_,g,r⟩
end L2
namespace L2
open PySem PySem.Spec PyProof.Rows
section
variable {prog:Program} {w:World} {A:Around} {E:Value->Shared->Prop} {s:Shared}
variable {z TI TO i1 i2 l1 l2:Addr} {J1 J2:Nat->Heap->Prop} {C1 C2:Array Value->Heap->Prop} {k1 k2:Nat} {xs ys:Array Value} {x y a b:Value}
theorem zipg_item {Q:Value->Shared->Prop}(D:ZipApart z TI TO i1 i2 l1 l2)(S1:Src prog w i1 l1 J1 C1)(S2:Src prog w i2 l2 J2 C2)(gz:IsZip s.heap z TI TO .none)(gI:IsPair s.heap TI (.ref i1) (.ref i2))(gO:IsPair s.heap TO a b)
  (j1:J1 k1 s.heap) (j2:J2 k2 s.heap) (c1:C1 xs s.heap) (c2:C2 ys s.heap) (hx:xs[k1]?=some x) (hy:ys[k2]?=some y)
  (q:∀h',IsZip h' z TI TO (rawInt s.heap.objs.size)->IsPair h' TO x y->J1 (k1+1) h'->J2 (k2+1) h'->IsPair h' s.heap.objs.size x y->h'.objs.size=s.heap.objs.size+1→
   (∀c o,c≠z->c≠TO->c≠i1->c≠i2->s.heap.get? c=some o->h'.get? c=some o)->Q (.ref s.heap.objs.size) { s with heap:=h' }):
  wpAny (model prog w) A (Builtin.«zip.__next__» ⟨[.ref z],[]⟩) (fun fin s'=>∃v,fin=.done (.ret v)/\Q v s') E s:=by
 show wpAny _ _ (field (.ref z) 2 >>= _) _ _ s
 refine wpAny_bind (wpAny_field gz rfl (x:=.bool false) rfl ?_)
 show wpAny _ _ (field (.ref z) 3 >>= _) _ _ s
 refine wpAny_bind (wpAny_field gz rfl (x:=.ref TI) rfl (wpAny_bind (wpAny_seqItems gI rfl ?_)))
 show wpAny _ _ (Builtin.SmallTypes.ownedTupleIsFree (.ref z) >>= _) _ _ s
 refine wpAny_bind ?_
 unfold Builtin.SmallTypes.ownedTupleIsFree
 refine wpAny_bind (wpAny_field gz rfl (x:=.none) rfl (wpAny_pure ?_))
 simp only[if_true]
 refine wpAny_bind (wpAny_rule (wpAny_bind (wpAny_field gz rfl (x:=.ref TO) rfl ?_)))
 refine wpAny_bind (wpAny_setField_rec gz (by simp) fun hA zA sA=>?_)
 replace zA:IsZip hA z TI TO .ellipsis:=zA
 refine wpAny_bind ?_
 simp only[List.zipIdx_cons,List.zipIdx_nil,List.forIn_cons,List.forIn_nil]
 refine wpAny_bind (wpAny_bind (wpAny_onRaise ?_))
 show wpAny _ _ (Builtin.SmallTypes.nextOf (.ref i1) >>= _) _ _ (_)
 refine wpAny_bind (S1.item A _ _ k1 xs x _ (S1.keep _ _ _ j1 fun o e=>sA.extBut _ _ D.i1z e) (S1.seq _ _ _ c1 fun o e=>sA.extBut _ _ D.l1z e) hx fun hB jB sB=>wpAny_pure ?_)
 have oB:IsPair hB TO a b:=sB.extBut _ _ D.TOi1 (sA.extBut _ _ D.TOz gO)
 refine wpAny_bind (wpAny_seqItems oB rfl (wpAny_bind (wpAny_updateSeq_pair oB fun hC oC sC=>?_)))
 replace oC:IsPair hC TO x b:=oC
 refine wpAny_bind (wpAny_letGo (wpAny_pure (wpAny_bind (wpAny_bind (wpAny_onRaise ?_)))))
 show wpAny _ _ (Builtin.SmallTypes.nextOf (.ref i2) >>= _) _ _ (_)
 have up2:∀c o,c≠z->c≠i1->c≠TO->s.heap.get? c=some o->hC.get? c=some o:=fun c o n1 n2 n3 e=>sC.extBut _ _ n3 (sB.extBut _ _ n2 (sA.extBut _ _ n1 e))
 refine wpAny_bind (S2.item A _ _ k2 ys y _ (S2.keep _ _ _ j2 fun o e=>up2 _ o D.i2z D.i12.symm D.TOi2.symm e) (S2.seq _ _ _ c2 fun o e=>up2 _ o D.l2z D.l2i1 D.l2TO e) hy fun hD jD sD=>wpAny_pure ?_)
 have oD:IsPair hD TO x b:=sD.extBut _ _ D.TOi2 oC
 refine wpAny_bind (wpAny_seqItems oD rfl (wpAny_bind (wpAny_updateSeq_pair oD fun hE oE sE=>?_)))
 replace oE:IsPair hE TO x y:=oE
 refine wpAny_bind (wpAny_letGo (wpAny_pure (wpAny_pure ?_)))
 refine wpAny_bind (wpAny_seqItems oE rfl (wpAny_bind (wpAny_newTuple ?_)))
 have ez:hE.objs.size=s.heap.objs.size:=by rw[sE.1,sD.1,sC.1,sB.1,sA.1]
 have zE:IsZip hE z TI TO .ellipsis:=sE.extBut _ _ D.TOz.symm (sD.extBut _ _ D.i2z.symm (sC.extBut _ _ D.TOz.symm (sB.extBut _ _ D.i1z.symm zA)))
 have kE:∀c o,c≠z->c≠TO->c≠i1->c≠i2->s.heap.get? c=some o->hE.get? c=some o:=fun c o n1 n2 n3 n4 e=>sE.extBut _ _ n2 (sD.extBut _ _ n4 (up2 c o n1 n3 n2 e))
 have j1E:J1 (k1+1) hE:=S1.keep _ _ _ jB fun o e=>sE.extBut _ _ D.TOi1.symm (sD.extBut _ _ D.i12 (sC.extBut _ _ D.TOi1.symm e))
 have j2E:J2 (k2+1) hE:=S2.keep _ _ _ jD fun o e=>sE.extBut _ _ D.TOi2.symm e
 have zlt:z<hE.objs.size:=Heap.lt_size zE
 show wpAny _ _ (Builtin.SmallTypes.ownedTupleHandOut (.ref z) (.ref hE.objs.size) >>= _) _ _ (_)
 refine wpAny_bind ?_
 unfold Builtin.SmallTypes.ownedTupleHandOut
 have zF:IsZip (hE.push { cls:=.type "tuple",data:=.seq #[x,y] }) z TI TO .ellipsis:=Heap.get?_push_of_some _ zE
 refine wpAny_bind (wpAny_setField_rec zF (by simp) fun hG zG sG=>?_)
 replace zG:IsZip hG z TI TO (rawInt hE.objs.size):=zG
 refine wpAny_setField_rec zG (by simp) fun hK zK sK=>?_
 replace zK:IsZip hK z TI TO (rawInt hE.objs.size):=zK
 have up:∀c o,c≠z->hE.get? c=some o->hK.get? c=some o:=fun c o n1 e=>sK.extBut _ _ n1 (sG.extBut _ _ n1 (Heap.get?_push_of_some _ e))
 have tK:IsPair hK hE.objs.size x y:=sK.extBut _ _ (Nat.ne_of_gt zlt) (sG.extBut _ _ (Nat.ne_of_gt zlt) (Heap.get?_push_size _ rfl))
 have eK:hK.objs.size=hE.objs.size+1:=by rw[sK.1,sG.1,Heap.size_push]
 rw[ez] at zK tK eK
 refine wpAny_pure ⟨_,rfl,?_⟩
 show Q (.ref hE.objs.size) _
 rw[ez]
 exact q hK zK (up _ _ D.TOz oE) (S1.keep _ _ _ j1E fun o e=>up _ o D.i1z e) (S2.keep _ _ _ j2E fun o e=>up _ o D.i2z e) tK eK fun c o n1 n2 n3 n4 e=>up c o n1 (kE c o n1 n2 n3 n4 e)
theorem zipg_stop {Q:Fin->Shared->Prop}(hh:A.handled=none)(D:ZipApart z TI TO i1 i2 l1 l2)(S1:Src prog w i1 l1 J1 C1)(gz:IsZip s.heap z TI TO .none)(gI:IsPair s.heap TI (.ref i1) (.ref i2))
  (j1:J1 k1 s.heap) (c1:C1 xs s.heap) (hx:xs[k1]?=none)
  (q:∀h' e,(∀c o,c≠z->c≠i1->s.heap.get? c=some o->h'.get? c=some o)->(∃o,h'.get? e=some o/\o.cls=.type "StopIteration")->E (.ref e) { s with heap:=h' }):
  wpAny (model prog w) A (Builtin.«zip.__next__» ⟨[.ref z],[]⟩) Q E s:=by
 show wpAny _ _ (field (.ref z) 2 >>= _) _ _ s
 refine wpAny_bind (wpAny_field gz rfl (x:=.bool false) rfl ?_)
 show wpAny _ _ (field (.ref z) 3 >>= _) _ _ s
 refine wpAny_bind (wpAny_field gz rfl (x:=.ref TI) rfl (wpAny_bind (wpAny_seqItems gI rfl ?_)))
 show wpAny _ _ (Builtin.SmallTypes.ownedTupleIsFree (.ref z) >>= _) _ _ s
 refine wpAny_bind ?_
 unfold Builtin.SmallTypes.ownedTupleIsFree
 refine wpAny_bind (wpAny_field gz rfl (x:=.none) rfl (wpAny_pure ?_))
 simp only[if_true]
 refine wpAny_bind (wpAny_rule (wpAny_bind (wpAny_field gz rfl (x:=.ref TO) rfl ?_)))
 refine wpAny_bind (wpAny_setField_rec gz (by simp) fun hA zA sA=>?_)
 replace zA:IsZip hA z TI TO .ellipsis:=zA
 refine wpAny_bind ?_
 simp only[List.zipIdx_cons,List.zipIdx_nil,List.forIn_cons,List.forIn_nil]
 refine wpAny_bind (wpAny_bind (wpAny_onRaise ?_))
 show wpAny _ _ (Builtin.SmallTypes.nextOf (.ref i1) >>= _) _ _ (_)
 refine wpAny_bind (S1.stop A _ _ k1 xs _ hh (S1.keep _ _ _ j1 fun o e=>sA.extBut _ _ D.i1z e) (S1.seq _ _ _ c1 fun o e=>sA.extBut _ _ D.l1z e) hx fun hB e sB he=>?_)
 obtain⟨oe,ge,ce⟩:=he
 have zB:IsZip hB z TI TO .ellipsis:=sB _ _ D.i1z.symm zA
 have ne:e≠z:=fun u=>by subst u;rw[zB] at ge;cases ge;simp at ce
 exact wpAny_setField_rec zB (by simp) fun hC _ sC=>q hC e (fun c o n1 n3 u=>sC.extBut _ _ n1 (sB _ _ n3 (sA.extBut _ _ n1 u))) ⟨oe,sC.extBut _ _ ne ge,ce⟩
theorem zipg_next {Q:Option Value->Shared->Prop}(D:ZipApart z TI TO i1 i2 l1 l2)(S1:Src prog w i1 l1 J1 C1)(S2:Src prog w i2 l2 J2 C2)(gz:IsZip s.heap z TI TO .none)(gI:IsPair s.heap TI (.ref i1) (.ref i2))(gO:IsPair s.heap TO a b)
  (j1:J1 k1 s.heap) (j2:J2 k2 s.heap) (c1:C1 xs s.heap) (c2:C2 ys s.heap) (hx:xs[k1]?=some x) (hy:ys[k2]?=some y)
  (q:∀h',IsZip h' z TI TO (rawInt s.heap.objs.size)->IsPair h' TO x y->J1 (k1+1) h'->J2 (k2+1) h'->IsPair h' s.heap.objs.size x y->h'.objs.size=s.heap.objs.size+1→
   (∀c o,c≠z->c≠TO->c≠i1->c≠i2->s.heap.get? c=some o->h'.get? c=some o)->Q (some (.ref s.heap.objs.size)) { s with heap:=h' }):wpAny (model prog w) A (pyNext (.ref z)) Q E s:=by
 have tZ:s.TypeIs (.ref z) "zip":=⟨_,gz,rfl⟩
 unfold pyNext
 exact wpAny_bind (wpAny_attempt (wpAny_callSpecial?_slot (name:=Str.ofString "__next__") tZ PySem.F.slot_zip_next (wpAny_call_entry PySem.F.slot_zip_next tZ PySem.F.entry_zip_next
   (zipg_item D S1 S2 gz gI gO j1 j2 c1 c2 hx hy fun h' a1 a2 a3 a4 a5 a6 a7=>wpAny_pure (q h' a1 a2 a3 a4 a5 a6 a7)) (PySem.F.args_zip_next_1 _))))
theorem zipg_end {Q:Option Value->Shared->Prop}(hh:A.handled=none)(D:ZipApart z TI TO i1 i2 l1 l2)(S1:Src prog w i1 l1 J1 C1)(gz:IsZip s.heap z TI TO .none)(gI:IsPair s.heap TI (.ref i1) (.ref i2))(j1:J1 k1 s.heap)(c1:C1 xs s.heap)(hx:xs[k1]?=none)
  (q:∀h',(∀c o,c≠z->c≠i1->s.heap.get? c=some o->h'.get? c=some o)->Q none { s with heap:=h' }):wpAny (model prog w) A (pyNext (.ref z)) Q E s:=by
 have tZ:s.TypeIs (.ref z) "zip":=⟨_,gz,rfl⟩
 unfold pyNext
 refine wpAny_bind (wpAny_attempt (wpAny_callSpecial?_slot (name:=Str.ofString "__next__") tZ PySem.F.slot_zip_next (wpAny_call_entry PySem.F.slot_zip_next tZ PySem.F.entry_zip_next (zipg_stop (A:=A.in1) hh D S1 gz gI j1 c1 hx fun h' e hk he=>?_) (PySem.F.args_zip_next_1 _))))
 obtain⟨o,ho,hc⟩:=he
 exact wpAny_bind (wpAny_isInstance (T:="StopIteration") (b:=true) ⟨o,ho,hc⟩ isSubtype_stop (wpAny_pure (q _ hk)))
end
abbrev zgA (h:Heap)(t1:String)(l1:Addr):Heap:=h.push { cls:=.type t1,data:=.fields #[.ref l1,.int 0 0] }
abbrev zgB (h:Heap)(t1 t2:String)(l1 l2:Addr):Heap:=(zgA h t1 l1).push { cls:=.type t2,data:=.fields #[.ref l2,.int 0 0] }
abbrev zgC (h:Heap)(t1 t2:String)(l1 l2:Addr):Heap:=(zgB h t1 t2 l1 l2).push { cls:=.type "tuple",data:=.seq #[.ref h.objs.size,.ref (zgA h t1 l1).objs.size] }
abbrev zgD (h:Heap)(t1 t2:String)(l1 l2:Addr):Heap:=(zgC h t1 t2 l1 l2).push { cls:=.type "tuple",data:=.seq #[.none,.none] }
abbrev zgE (h:Heap)(t1 t2:String)(l1 l2:Addr):Heap:=(zgD h t1 t2 l1 l2).push { cls:=.type "zip",data:=.fields #[.none,.bool false,.bool false,.ref (zgB h t1 t2 l1 l2).objs.size,.ref (zgC h t1 t2 l1 l2).objs.size] }
def Gives1 (t:String)(l:Addr)(h:Heap):Prop:=∀(prog:Program) (w:World) (A:Around) (E:Value->Shared->Prop) (s:Shared) (Q:Value->Shared->Prop),s.heap=h->Q (.ref s.heap.objs.size) { s with heap:=s.heap.push { cls:=.type t,data:=.fields #[.ref l,.int 0 0] } }->wpAny (model prog w) A (pyIter (.ref l)) Q E s
theorem meets_zipg (t1 t2:String)(l1 l2:Addr):
  Meets (Builtin.«zip.__new__» ⟨[.type "zip",.ref l1,.ref l2],[]⟩) (fun _ R s=>Gives1 t1 l1 s.heap/\Gives1 t2 l2 (zgA s.heap t1 l1)/\R (.ok (.ret (.ref (zgD s.heap t1 t2 l1 l2).objs.size))) { s with heap:=zgE s.heap t1 t2 l1 l2 }):=
 .of_wp fun prog w A R s h=>by
  obtain⟨hp,g,d,tk,os⟩:=s;obtain⟨hl1,hl2,h⟩:=h
  have hsub:=sub_zip
  have G1:∀{A:Around} {E:Value->Shared->Prop} {Q:Value->Shared->Prop},Q (.ref hp.objs.size) ⟨hp.push { cls:=.type t1,data:=.fields #[.ref l1,.int 0 0] },g,d,tk,os⟩->wpAny (model prog w) A (pyIter (.ref l1)) Q E ⟨hp,g,d,tk,os⟩:=fun {A E Q} q=>hl1 prog w A E ⟨hp,g,d,tk,os⟩ Q rfl q
  have G2:∀{A:Around} {E:Value->Shared->Prop} {Q:Value->Shared->Prop},Q (.ref (zgA hp t1 l1).objs.size) ⟨(zgA hp t1 l1).push { cls:=.type t2,data:=.fields #[.ref l2,.int 0 0] },g,d,tk,os⟩->wpAny (model prog w) A (pyIter (.ref l2)) Q E ⟨zgA hp t1 l1,g,d,tk,os⟩:=fun {A E Q} q=>hl2 prog w A E ⟨zgA hp t1 l1,g,d,tk,os⟩ Q rfl q
  wp_walk using G1,G2
  exact⟨_,rfl,h⟩
section
variable {prog:Program} {w:World} {A:Around} {E:Value->Shared->Prop} {s:Shared}
theorem call_zipg (t1 t2:String){l1 l2:Addr}{Q:Value->Shared->Prop}(hl1:Gives1 t1 l1 s.heap)(hl2:Gives1 t2 l2 (zgA s.heap t1 l1))
  (h:∀h',IsZip h' (s.heap.objs.size+4) (s.heap.objs.size+2) (s.heap.objs.size+3) .none->IsPair h' (s.heap.objs.size+2) (.ref s.heap.objs.size) (.ref (s.heap.objs.size+1))->IsPair h' (s.heap.objs.size+3) .none .none→
   h'.get? s.heap.objs.size=some { cls:=.type t1,data:=.fields #[.ref l1,.int 0 0] }->h'.get? (s.heap.objs.size+1)=some { cls:=.type t2,data:=.fields #[.ref l2,.int 0 0] }→
   (∀c o,s.heap.get? c=some o->h'.get? c=some o)->Q (.ref (s.heap.objs.size+4)) { s with heap:=h' }):
  wpAny (model prog w) A (call (.type "zip") [.ref l1,.ref l2]) Q E s:=by
 refine callType_new PySem.F.called_zip (by decide) (PySem.F.typeCall_zip_2 _ _) (PySem.F.newCall_zip_2 _ _) (fun obj=>PySem.F.args_object_init_3 obj _ _) PySem.F.entry_zip_new (meets_zipg t1 t2 l1 l2) ⟨hl1,hl2,?_⟩
 have z1:(zgA s.heap t1 l1).objs.size=s.heap.objs.size+1:=Heap.size_push ..
 have z2:(zgB s.heap t1 t2 l1 l2).objs.size=s.heap.objs.size+2:=by rw[Heap.size_push,z1]
 have z3:(zgC s.heap t1 t2 l1 l2).objs.size=s.heap.objs.size+3:=by rw[Heap.size_push,z2]
 have z4:(zgD s.heap t1 t2 l1 l2).objs.size=s.heap.objs.size+4:=by rw[Heap.size_push,z3]
 have g5:(zgE s.heap t1 t2 l1 l2).get? (zgD s.heap t1 t2 l1 l2).objs.size=some _:=Heap.get?_push_size _ rfl
 have g4:(zgE s.heap t1 t2 l1 l2).get? (zgC s.heap t1 t2 l1 l2).objs.size=some _:=Heap.get?_push_of_some _ (Heap.get?_push_size _ rfl)
 have g3:(zgE s.heap t1 t2 l1 l2).get? (zgB s.heap t1 t2 l1 l2).objs.size=some _:=Heap.get?_push_of_some _ (Heap.get?_push_of_some _ (Heap.get?_push_size _ rfl))
 have g2:(zgE s.heap t1 t2 l1 l2).get? (zgA s.heap t1 l1).objs.size=some _:=Heap.get?_push_of_some _ (Heap.get?_push_of_some _ (Heap.get?_push_of_some _ (Heap.get?_push_size _ rfl)))
 have g1:(zgE s.heap t1 t2 l1 l2).get? s.heap.objs.size=some _:=Heap.get?_push_of_some _ (Heap.get?_push_of_some _ (Heap.get?_push_of_some _ (Heap.get?_push_of_some _ (Heap.get?_push_size _ rfl))))
 show _/\_
 rw[z2,z3,z4] at g5
 rw[z1,z2] at g3
 rw[z3] at g4
 rw[z1] at g2
 rw[z4]
 exact⟨⟨_,g5,rfl⟩,h _ g5 g3 g4 g1 g2 fun c o x=>Heap.get?_push_of_some _ (Heap.get?_push_of_some _ (Heap.get?_push_of_some _ (Heap.get?_push_of_some _ (Heap.get?_push_of_some _ x))))⟩
end
theorem gives_list {l:Addr}{h:Heap}{xs:Array Value}(g:h.IsList l xs):Gives1 "list_iterator" l h:=fun prog w A E s Q e q=>by subst e;exact wpAny_pyIter_list g q
theorem gives_tup {l:Addr}{h:Heap}{xs:Array Value}(g:h.IsTuple l xs):Gives1 "tuple_iterator" l h:=fun prog w A E s Q e q=>by subst e;exact wpAny_pyIter_tuple g q
end L2
namespace L2
open PySem PySem.Spec PyProof.Rows
def SqX (K:W.Frag)(t:Bool)(H:Hp)(a:Addr)(xs:List V):Prop:=if t=true then SqT K H a xs else SqL K H a xs
def cX (t:Bool)(l:Addr)(xs:Array Value)(h:Heap):Prop:=if t=true then h.IsTuple l xs else h.IsList l xs
def jX (t:Bool)(it l:Addr)(k:Nat)(h:Heap):Prop:=if t=true then h.IsTupleIter it l k else h.IsListIter it l k
def tX (t:Bool):String:=if t=true then "tuple_iterator" else "list_iterator"
theorem src_x {prog:Program}{w:World}(t:Bool)(it l:Addr):Src prog w it l (jX t it l) (cX t l):=by
 cases t
 ·exact src_list it l
 ·exact src_tup it l
theorem gives_x {t:Bool}{l:Addr}{h:Heap}{xs:Array Value}(g:cX t l xs h):Gives1 (tX t) l h:=by
 cases t
 ·exact gives_list (show h.IsList l xs from g)
 ·exact gives_tup (show h.IsTuple l xs from g)
theorem jX_new {t:Bool}{it l:Addr}{h:Heap}(g:h.get? it=some { cls:=.type (tX t),data:=.fields #[.ref l,.int 0 0] }):jX t it l 0 h:=by
 cases t
 ·exact⟨_,g,rfl,rfl⟩
 ·exact⟨_,g,rfl,rfl⟩
theorem cX_lt {t:Bool}{l:Addr}{h:Heap}{xs:Array Value}(g:cX t l xs h):l<h.objs.size:=by
 cases t
 ·obtain⟨o,g,_⟩:=(show h.IsList l xs from g);exact Heap.lt_size g
 ·obtain⟨o,g,_⟩:=(show h.IsTuple l xs from g);exact Heap.lt_size g
theorem cX_push {t:Bool}{l:Addr}{h:Heap}{xs:Array Value}(g:cX t l xs h)(o:Obj):cX t l xs (h.push o):=by
 cases t
 ·exact Heap.IsList.push (show h.IsList l xs from g) o
 ·exact Heap.IsTuple.push (show h.IsTuple l xs from g) o
section
variable {X:Cx} {pins:List (Addr×Obj)} {σ:St} {H:Hp} {s:Shared} {a:Addr} {xs ys:List V} {t:Bool}
theorem Inv.seqX (I:Inv X pins σ H s)(h:SqX X.K t H a xs):∃its:List Value,Vals xs its/\cX t a its.toArray s.heap/\xs.length<=sizeLine:=by
 cases t
 ·obtain⟨its,r,p,z⟩:=I.list (show SqL X.K H a xs from h)
  exact⟨its,r,p.isList,z⟩
 ·obtain⟨its,r,p,z⟩:=I.tuple (show SqT X.K H a xs from h)
  exact⟨its,r,p,z⟩
theorem Inv.seqX_inj (I:Inv X pins σ H s)(h:SqX X.K t H a xs)(h':SqX X.K t H a ys):xs=ys:=by
 cases t
 ·exact I.list_inj (show SqL X.K H a xs from h) h'
 ·exact I.tuple_inj (show SqT X.K H a xs from h) h'
end
def Itg (K:W.Frag)(t u:Bool)(a b:Addr):It:=
 ⟨fun i H=>∃xs ys x y,SqX K t H a xs/\SqX K u H b ys/\xs[i]?=some x/\ys[i]?=some y,fun i H v H'=>∃p x y,v=.ref p/\H p=none/\H'=upd H p (.tup [x,y])/\(∀xs,SqX K t H a xs->xs[i]?=some x)/\∀ys,SqX K u H b ys->ys[i]?=some y,
  fun i H=>∃xs,SqX K t H a xs/\xs.length<=i⟩
theorem turn_zipg {P:Program}{w:World}{K:W.Frag}{elts:List Expr}{k:Nat}{pos:Pos}(t u:Bool)(a b z TI TO i1 i2:Addr)(N:ZipApart z TI TO i1 i2 a b):
  Turn P w K (.Tuple elts k pos) (Itg K t u a b) [z,TI,TO,i1,i2] z (fun i h=>IsZip h z TI TO .none/\IsPair h TI (.ref i1) (.ref i2)/\(∃c d,IsPair h TO c d)/\jX t i1 a i h/\jX u i2 b i h) where
 mem:=by simp
 obj:=fun i h st c hc=>by
  obtain⟨g1,g2,⟨e,v,g3⟩,g4,g5⟩:=st
  obtain⟨o4,v4,g4,d4⟩:=(src_x (prog:=P) (w:=w) t i1 a).obj _ _ g4
  obtain⟨o5,v5,g5,d5⟩:=(src_x (prog:=P) (w:=w) u i2 b).obj _ _ g5
  simp only[List.mem_cons,List.not_mem_nil,or_false] at hc
  rcases hc with rfl|rfl|rfl|rfl|rfl
  ·exact⟨_,g1,fun v q=>by cases q⟩
  ·exact⟨_,g2,fun v q=>by cases q⟩
  ·exact⟨_,g3,fun v q=>by cases q⟩
  ·exact⟨_,g4,fun v q=>by rw[d4] at q;cases q⟩
  ·exact⟨_,g5,fun v q=>by rw[d5] at q;cases q⟩
 keep:=fun i h h' st kk=>by
  obtain⟨g1,g2,⟨e,v,g3⟩,g4,g5⟩:=st
  exact⟨kk z (by simp) _ g1,kk TI (by simp) _ g2,⟨e,v,kk TO (by simp) _ g3⟩,(src_x (prog:=P) (w:=w) t i1 a).keep _ _ _ g4 fun o q=>kk i1 (by simp) o q,(src_x (prog:=P) (w:=w) u i2 b).keep _ _ _ g5 fun o q=>kk i2 (by simp) o q⟩
 item:=by
  intro X hP hw hK hc i pins s σ H E I hf st hg
  subst hP hw hK
  obtain⟨xs,ys,x,y,hq,hq',hx,hy⟩:=hg
  obtain⟨its,rv,p,_⟩:=I.seqX hq
  obtain⟨jts,rv',p',_⟩:=I.seqX hq'
  obtain⟨v,hu,ru⟩:=rv.get hx
  obtain⟨v',hu',ru'⟩:=rv'.get hy
  obtain⟨g1,g2,⟨c,d,g3⟩,g4,g5⟩:=st
  obtain⟨o4,v4,k4,d4⟩:=(src_x (prog:=X.prog) (w:=X.w) t i1 a).obj _ _ g4
  obtain⟨o5,v5,k5,d5⟩:=(src_x (prog:=X.prog) (w:=X.w) u i2 b).obj _ _ g5
  refine zipg_next (xs:=its.toArray) (ys:=jts.toArray) N (src_x t i1 a) (src_x u i2 b) g1 g2 g3 g4 g5 p p' (by simpa using hu) (by simpa using hu') fun h' b1 b2 b3 b4 b5 b6 b7=>?_
  refine⟨_,rfl,wpAny_letOwnedTupleGo_zip b1 fun h'' e1 e2=>?_⟩
  have zlt:z<s.heap.objs.size:=Heap.lt_size g1
  have kk:∀e o,e∉[z,TI,TO,i1,i2]->s.heap.get? e=some o->h''.get? e=some o:=fun e o he q=>by
   simp only[List.mem_cons,List.not_mem_nil,or_false,not_or] at he
   exact(e2.2 e he.1).trans (b7 e o he.1 he.2.2.1 he.2.2.2.1 he.2.2.2.2 q)
  have up:∀e o,e≠z->h'.get? e=some o->h''.get? e=some o:=fun e o he q=>(e2.2 e he).trans q
  have hno:H s.heap.objs.size=none:=I.hok.fresh (Nat.le_refl _)
  have hT:h''.get? s.heap.objs.size=some { cls:=.type "tuple",data:=.seq #[v,v'] }:=up _ _ (Nat.ne_of_gt zlt) b5
  have I1:Inv X pins σ (upd H s.heap.objs.size (.tup [x,y])) { s with heap:=h'',toks:=s.toks }:=by
   refine I.turnedT (ch:=[z,TI,TO,i1,i2]) hf kk (Nat.le_refl _) ⟨(by show 2<=sizeLine;decide),[v,v'],?_,⟨_,hT,rfl,_,rfl⟩⟩
   exact .cons ru (.cons ru' .nil)
  refine⟨.ref s.heap.objs.size,_,I1,rfl,⟨_,x,y,rfl,hno,rfl,fun zs hz=>by rw[I.seqX_inj hz hq];exact hx,fun zs hz=>by rw[I.seqX_inj hz hq'];exact hy⟩,⟨e1,?_,⟨v,v',up _ _ N.TOz b2⟩,?_,?_⟩,fun e he=>?_⟩
  ·exact up _ _ N.TIz (b7 _ _ N.TIz N.TITO N.TIi1 N.TIi2 g2)
  ·exact(src_x (prog:=X.prog) (w:=X.w) t i1 a).keep _ _ _ b3 fun o q=>up _ o N.i1z q
  ·exact(src_x (prog:=X.prog) (w:=X.w) u i2 b).keep _ _ _ b4 fun o q=>up _ o N.i2z q
  ·have hb':=(hf e he).1
   rw[upd_ne]
   ·exact hb'
   ·intro q
    subst q
    have lt:∀{c:Addr} {o:Obj},s.heap.get? c=some o->s.heap.objs.size≠c:=fun q=>Nat.ne_of_gt (Heap.lt_size q)
    simp only[List.mem_cons,List.not_mem_nil,or_false] at he
    rcases he with q|q|q|q|q
    ·exact lt g1 q
    ·exact lt g2 q
    ·exact lt g3 q
    ·exact lt k4 q
    ·exact lt k5 q
 done:=by
  intro X hP hw hK hc i pins s σ H E I hf st hg
  subst hP hw hK
  obtain⟨xs,hq,hx⟩:=hg
  obtain⟨its,rv,p,_⟩:=I.seqX hq
  have hl:=rv.length
  obtain⟨g1,g2,⟨c,d,g3⟩,g4,g5⟩:=st
  refine zipg_end (xs:=its.toArray) (I.ok.hd hc) N (src_x t i1 a) g1 g2 g4 p (by simp;omega) fun h' hk=>?_
  exact⟨rfl,I.turnedL (t':=s.toks) (ch:=[z,TI,TO,i1,i2]) hf fun e o he q=>by
   simp only[List.mem_cons,List.not_mem_nil,or_false,not_or] at he
   exact hk e o he.1 he.2.2.2.1 q⟩
 self:=fun A i s Q E st h=>wpAny_pyIter_zip st.1 h
def iZipg (K:W.Frag)(t u:Bool)(ta:TA):TI:=fun σ H R=>ta σ H fun vs H1=>∃a b,vs=[.ref a,.ref b]/\(∃xs,SqX K t H1 a xs)/\(∃ys,SqX K u H1 b ys)/\R (Itg K t u a b) H1
theorem pi_zipg (t u:Bool){X:Cx}{elts:List Expr}{k:Nat}{tpos:Pos}{a b:Expr}{ta:TA}{p pos:Pos}(hg:Gl X "zip")(hm:X.mg "zip"=none)(ha:PA X [a,b] ta)(hs:starEach [a,b] X.env=(false,eval a X.env)::starEach [b] X.env:=by rfl)(hpl:(backTo pos (starEach [b] X.env)).any (·.1)=false:=by rfl):
  PI X (.Tuple elts k tpos) (.Call (.Name "zip" p) [a,b] [] pos) (iZipg X.K t u ta):=by
 intro pins s σ H R I h
 refine Call_ (ld_blt I hg hm boot_zip (PyProof.Rows.callWith_type1 (thn (ha pos pins s σ H _ I h) fun us s1 ⟨vs,H1,I1,r1,q1⟩=>?_) hs hpl))
 obtain⟨l,m,e,⟨xs,hq⟩,⟨ys,hq'⟩,q⟩:=q1
 subst e
 obtain⟨v,v',rfl,ru,ru'⟩:=vals2 r1
 cases ru
 cases ru'
 obtain⟨its,rv,pt,hz⟩:=I1.seqX hq
 obtain⟨jts,rv',pt',hz'⟩:=I1.seqX hq'
 refine call_zipg (tX t) (tX u) (gives_x pt) (gives_x (cX_push pt' _)) fun h' c1 c2 c3 c4 c5 c7=>?_
 refine wpAny_pyIter_zip c1 ?_
 have I2:=I1.kept (h':=h') (t':=s1.toks) c7
 refine⟨s1.heap.objs.size+4,[s1.heap.objs.size+4,s1.heap.objs.size+2,s1.heap.objs.size+3,s1.heap.objs.size,s1.heap.objs.size+1],_,Itg X.K t u l m,H1,rfl,I2,turn_zipg t u l m _ _ _ _ _ ?_,⟨c1,c2,⟨_,_,c3⟩,jX_new c4,jX_new c5⟩,fun c hc'=>?_,q⟩
 ·exact zip_apart _ _ _ (cX_lt pt) (cX_lt pt')
 ·have hle:s1.heap.objs.size<=c:=by
   simp only[List.mem_cons,List.not_mem_nil,or_false] at hc'
   rcases hc' with rfl|rfl|rfl|rfl|rfl<;>omega
  exact I1.fpOk hle (I1.hok.fresh hle)
theorem for_zipg {K:W.Frag}{t u:Bool}{a b:Addr}{xs ys:List V}{g:TG}{tb:TS}{D:Ends}{σ:St}{H:Hp}(hn:xs.length=ys.length)(Pv:Nat->St->Hp->Prop)(h0:Pv 0 σ H)(hl:∀i σ H,i<=xs.length->Pv i σ H->SqX K t H a xs/\SqX K u H b ys)
  (hs:∀i x y σ H p,xs[i]?=some x->ys[i]?=some y->Pv i σ H->H p=none->g (.ref p) σ (upd H p (.tup [x,y])) fun σ2 H2=>tb { D with nx:=Pv (i+1),ct:=Pv (i+1),bk:=D.nx } σ2 H2) (hd:∀σ H,Pv xs.length σ H->D.nx σ H):
  ∃W:Nat->Nat->St->Hp->Prop,(∃m,W 0 m σ H)/\∀i m σ H,W i m σ H→
   ((Itg K t u a b).stop i H/\D.nx σ H)\/((Itg K t u a b).go i H/\∃N:St->Hp->Prop,(∀σ' H',N σ' H'->∃m',m'<m/\W (i+1) m' σ' H')/\∀x H',(Itg K t u a b).yld i H x H'->g x σ H' fun σ2 H2=>tb { D with nx:=N,ct:=N,bk:=D.nx } σ2 H2):=by
 refine⟨fun i m σ H=>m=xs.length-i/\i<=xs.length/\Pv i σ H,⟨xs.length,by simp,Nat.zero_le _,h0⟩,?_⟩
 rintro i m σ H ⟨rfl,hi,p⟩
 obtain⟨q,q'⟩:=hl i σ H hi p
 by_cases hlt:i<xs.length
 ·have hlt':i<ys.length:=by omega
  refine .inr ⟨⟨xs,ys,xs[i],ys[i],q,q',by simp[hlt],by simp[hlt']⟩,Pv (i+1),fun σ' H' p'=>⟨xs.length-(i+1),by omega,rfl,hlt,p'⟩,fun x H' y=>?_⟩
  obtain⟨c,x1,y1,e1,e2,e3,e4,e5⟩:=y
  subst e1 e3
  exact hs i x1 y1 σ H c (e4 xs q) (e5 ys q') p e2
 ·have e:i=xs.length:=by omega
  subst e
  exact .inl ⟨⟨xs,q,Nat.le_refl _⟩,hd σ H p⟩
end L2
namespace K20
open PySem L2
abbrev Rms:=List (Bool×List Int)
def nextOf (rs:Rms)(h l:Int):Int:=((rs.getD h.toNat (false,[])).2).getD l.toNat 0
def walkM (rs:Rms)(h:Int)(run:List Int):Int:=run.foldl (nextOf rs) h
structure Good (many:Int)(rs:Rms):Prop where
 mn:0<=many/\many<=8
 pos:0<rs.length
 le:rs.length<=100
 row:∀r∈rs,(r.2.length:Int)=many/\∀n∈r.2,0<=n/\n<(rs.length:Int)
def RowsAt (H:Hp)(qs:List Addr)(rs:Rms):Prop:=qs.length=rs.length/\∀(i:Nat) (r:Bool×List Int),rs[i]?=some r->∃q z,qs[i]?=some q/\H q=some (.tup [.bl r.1,.ref z])/\H z=some (.tup (r.2.map V.int))
def MAt (H:Hp)(a:Addr)(many:Int)(rs:Rms):Prop:=∃p qs,H a=some (.tup [.int many,.ref p])/\H p=some (.tup (qs.map V.ref))/\RowsAt H qs rs
theorem RowsAt.same {H H':Hp}{qs:List Addr}{rs:Rms}(h:RowsAt H qs rs)(s:Same H H'):RowsAt H' qs rs:=⟨h.1,fun i r e=>by
 obtain⟨q,z,h1,h2,h3⟩:=h.2 i r e
 exact⟨q,z,h1,s _ _ h2,s _ _ h3⟩⟩
theorem getD_of {α:Type}{l:List α}{i:Nat}{x d:α}(h:l[i]?=some x):l.getD i d=x:=by simp[List.getD,h]
theorem some_at {α:Type}(l:List α)(i:Int)(h0:0<=i)(h:i<(l.length:Int)):∃x,l[i.toNat]?=some x:=by
 have h':i.toNat<l.length:=by omega
 exact⟨l[i.toNat],by simp[h']⟩
theorem next_in {many:Int}{rs:Rms}(G:Good many rs){h l:Int}(h0:0<=h)(h1:h<rs.length)(l0:0<=l)(l1:l<many):0<=nextOf rs h l/\nextOf rs h l<(rs.length:Int):=by
 obtain⟨r,er⟩:=some_at rs h h0 h1
 have hr:=G.row r (List.mem_of_getElem? er)
 obtain⟨n,en⟩:=some_at r.2 l l0 (by rw[hr.1];exact l1)
 unfold nextOf
 rw[getD_of er,getD_of en]
 exact hr.2 n (List.mem_of_getElem? en)
theorem walk_in {many:Int}{rs:Rms}(G:Good many rs):∀(run:List Int) (h:Int),0<=h->h<rs.length->(∀l∈run,0<=l/\l<many)->0<=walkM rs h run/\walkM rs h run<(rs.length:Int)
 | [],h,h0,h1,_=>⟨h0,h1⟩
 |l::run,h,h0,h1,hl=>by
  have hx:=hl l List.mem_cons_self
  have q:=next_in G h0 h1 hx.1 hx.2
  exact walk_in G run _ q.1 q.2 fun l' h'=>hl l' (List.mem_cons_of_mem _ h')
theorem walk_take (rs:Rms)(h:Int)(run:List Int)(i:Nat)(l:Int)(e:run[i]?=some l):walkM rs h (run.take (i+1))=nextOf rs (walkM rs h (run.take i)) l:=by
 unfold walkM
 rw[List.take_add_one,e,List.foldl_append]
 rfl
theorem arrow {many:Int}{rs:Rms}(G:Good many rs){H:Hp}{qs:List Addr}(R:RowsAt H qs rs){h l:Int}(h0:0<=h)(h1:h<rs.length)(l0:0<=l)(l1:l<many):
  ∃(q z:Addr) (b:Bool) (ns:List Int),atI (qs.map V.ref) h=some (.ref q)/\H q=some (.tup [.bl b,.ref z])/\H z=some (.tup (ns.map V.int))/\atI (ns.map V.int) l=some (.int (nextOf rs h l))/\b=(rs.getD h.toNat (false,[])).1:=by
 obtain⟨r,er⟩:=some_at rs h h0 h1
 have hr:=G.row r (List.mem_of_getElem? er)
 obtain⟨n,en⟩:=some_at r.2 l l0 (by rw[hr.1];exact l1)
 obtain⟨q,z,e1,e2,e3⟩:=R.2 _ _ er
 refine⟨q,z,r.1,r.2,atI_int h0 (by rw[List.getElem?_map,e1];rfl),e2,e3,atI_int l0 ?_,by rw[getD_of er]⟩
 unfold nextOf
 rw[getD_of er,getD_of en,List.getElem?_map,en]
 rfl
def spRB:Sp:=fun vs H Q _=>∃(a p:Addr) (h many:Int) (rs:Rms) (run:List Int),vs=[.ref a,.int h,.ref p]/\MAt H a many rs/\Good many rs/\0<=h/\h<rs.length/\H p=some (.tup (run.map V.int))/\(∀l∈run,0<=l/\l<many)/\Q (.int (walkM rs h run)) H
def spLB:Sp:=fun vs H Q _=>∃(a p:Addr) (many:Int) (rs:Rms) (run:List Int),vs=[.ref a,.ref p]/\MAt H a many rs/\Good many rs/\H p=some (.tup (run.map V.int))/\(∀l∈run,0<=l/\l<many)/\Q (.bl (rs.getD (walkM rs 0 run).toNat (false,[])).1) H
def spWh:Sp:=fun vs H Q _=>∃i:Int,vs=[.int i]/\Q (.bl true) H
def spCe (K:W.Frag):Sp:=fun vs H Q _=>∃(a:Addr) (ns:List Int) (k:Int),vs=[.ref a,.int k]/\SqL K H a (ns.map V.int)/\0<=k/\k<=2000/\∀(z:Int) (H':Hp),Same H H'->Q (.int z) H'
theorem truth {many:Int}{rs:Rms}(G:Good many rs){H:Hp}{qs:List Addr}(R:RowsAt H qs rs){h:Int}(h0:0<=h)(h1:h<rs.length):
  ∃q z,atI (qs.map V.ref) h=some (.ref q)/\H q=some (.tup [.bl (rs.getD h.toNat (false,[])).1,.ref z]):=by
 obtain⟨r,er⟩:=some_at rs h h0 h1
 obtain⟨q,z,e1,e2,e3⟩:=R.2 _ _ er
 exact⟨q,z,atI_int h0 (by rw[List.getElem?_map,e1];rfl),by rw[getD_of er];exact e2⟩
theorem ints_flat (ns:List Int):(ns.map V.int).all flatV=true:=by
 rw[List.all_map]
 exact List.all_eq_true.mpr fun _ _=>rfl
end K20
namespace K21
open K20
def bef (a b:List Int):Bool:=if a.length=b.length then HT.lexLt a b else decide (a.length<b.length)
theorem lex_self:∀a:List Int,HT.lexLt a a=false
 | []=>rfl
 |x::a=>by rw[HT.lexLt_cons,if_pos rfl];exact lex_self a
theorem lex_app:∀(a b:List Int) (x y:Int),a.length=b.length->HT.lexLt a b=true->HT.lexLt (a++[x]) (b++[y])=true
 | [],[],_,_,_,h=>by cases h
 | [],_::_,_,_,h,_=>by simp at h
 |_::_,[],_,_,h,_=>by simp at h
 |p::a,q::b,x,y,h,hl=>by
  rw[HT.lexLt_cons] at hl
  show HT.lexLt (p::(a++[x])) (q::(b++[y]))=true
  rw[HT.lexLt_cons]
  by_cases e:p=q
  ·rw[if_pos e] at hl ⊢
   exact lex_app a b x y (by simpa using h) hl
  ·rw[if_neg e] at hl ⊢
   exact hl
theorem lex_asym:∀(a b:List Int),HT.lexLt a b=true->HT.lexLt b a=false
 | [],[],h=>by cases h
 | [],y::b,_=>HT.lexLt_cons_nil y b
 |x::a,[],h=>by simp[HT.lexLt_cons_nil] at h
 |x::a,y::b,h=>by
  rw[HT.lexLt_cons] at h ⊢
  by_cases e:x=y
  ·rw[if_pos e] at h
   rw[if_pos e.symm]
   exact lex_asym a b h
  ·rw[if_neg e] at h
   rw[if_neg (Ne.symm e)]
   have:=of_decide_eq_true h
   exact decide_eq_false (by omega)
theorem lex_last:∀(w:List Int) (x y:Int),x<y->HT.lexLt (w++[x]) (w++[y])=true
 | [],x,y,h=>by
  show HT.lexLt (x::[]) (y::[])=true
  rw[HT.lexLt_cons,if_neg (by omega)]
  exact decide_eq_true h
 |p::w,x,y,h=>by
  show HT.lexLt (p::(w++[x])) (p::(w++[y]))=true
  rw[HT.lexLt_cons,if_pos rfl]
  exact lex_last w x y h
theorem bef_self (a:List Int):bef a a=false:=by
 unfold bef
 rw[if_pos rfl]
 exact lex_self a
theorem bef_asym {a b:List Int}(h:bef a b=true):bef b a=false:=by
 unfold bef at h ⊢
 by_cases e:a.length=b.length
 ·rw[if_pos e] at h
  rw[if_pos e.symm]
  exact lex_asym a b h
 ·rw[if_neg e] at h
  rw[if_neg (Ne.symm e)]
  have:=of_decide_eq_true h
  exact decide_eq_false (by omega)
theorem bef_app {a b:List Int}(x y:Int)(h:bef a b=true):bef (a++[x]) (b++[y])=true:=by
 unfold bef at h ⊢
 rw[List.length_append,List.length_append]
 by_cases e:a.length=b.length
 ·rw[if_pos e] at h
  rw[if_pos (by simp[e])]
  exact lex_app a b x y e h
 ·rw[if_neg e] at h
  rw[if_neg (by simp;omega)]
  have:=of_decide_eq_true h
  exact decide_eq_true (by simp;omega)
theorem bef_last (w:List Int){x y:Int}(h:x<y):bef (w++[x]) (w++[y])=true:=by
 unfold bef
 rw[if_pos (by simp)]
 exact lex_last w x y h
theorem bef_nil (w:List Int)(x:Int):bef [] (w++[x])=true:=by
 unfold bef
 rw[if_neg (by simp)]
 exact decide_eq_true (by simp)
theorem filter_len:∀(l:List Int) (x:Int),l.Nodup->l.length<=(l.filter fun y=>decide (y≠x)).length+1
 | [],_,_=>Nat.zero_le _
 |a::l,x,h=>by
  obtain⟨h1,h2⟩:=List.nodup_cons.mp h
  by_cases e:a=x
  ·subst e
   have q:(l.filter fun y=>decide (y≠a))=l:=List.filter_eq_self.mpr fun y hy=>decide_eq_true fun z=>h1 (z▸hy)
   rw[List.filter_cons_of_neg (by simp),q]
   simp
  ·rw[List.filter_cons_of_pos (by simpa using e)]
   have:=filter_len l x h2
   simp only[List.length_cons]
   omega
theorem nodup_le:∀(n:Nat) (l:List Int),l.Nodup->(∀x∈l,0<=x/\x<(n:Int))->l.length<=n
 |0,l,_,h=>by
  cases l with
  |nil=>exact Nat.le_refl _
  |cons a l=>
   have:=h a List.mem_cons_self
   omega
 |n+1,l,nd,h=>by
  have q:=filter_len l n nd
  have r:=nodup_le n (l.filter fun y=>decide (y≠(n:Int))) (nd.sublist List.filter_sublist) fun x hx=>by
   obtain⟨h1,h2⟩:=List.mem_filter.mp hx
   have h3:=h x h1
   have h4:x≠(n:Int):=of_decide_eq_true h2
   omega
  omega
end K21
namespace K60
open K20 K21
def gd (rs:Rms)(n:Int):Bool:=(rs.getD n.toNat (false,[])).1
def Lts (many:Int)(run:List Int):Prop:=∀l∈run,0<=l/\l<many
theorem Lts.nil {many:Int}:Lts many []:=fun l hl=>by simp at hl
theorem Lts.cons {many l:Int}{run:List Int}(l0:0<=l)(l1:l<many)(h:Lts many run):Lts many (l::run):=fun x hx=>by
 rcases List.mem_cons.mp hx with hx|hx
 ·subst hx
  exact⟨l0,l1⟩
 ·exact h x hx
theorem Lts.app {many:Int}{a b:List Int}(ha:Lts many a)(hb:Lts many b):Lts many (a++b):=fun x hx=>(List.mem_append.mp hx).elim (ha x) (hb x)
theorem Lts.head {many l:Int}{run:List Int}(h:Lts many (l::run)):0<=l/\l<many:=h l List.mem_cons_self
theorem Lts.tail {many l:Int}{run:List Int}(h:Lts many (l::run)):Lts many run:=fun x hx=>h x (List.mem_cons_of_mem _ hx)
theorem walk_app (rs:Rms)(h:Int)(a b:List Int):walkM rs h (a++b)=walkM rs (walkM rs h a) b:=by
 unfold walkM
 rw[List.foldl_append]
end K60
namespace K23
open PySem L2 K20 K21 K60
def Eqk (rs:Rms)(many:Int)(k:Nat)(x y:Int):Prop:=∀run:List Int,run.length<=k->Lts many run->gd rs (walkM rs x run)=gd rs (walkM rs y run)
def Bi (r1 r2:Rms)(many x y:Int):Prop:=∀run:List Int,Lts many run->gd r1 (walkM r1 x run)=gd r2 (walkM r2 y run)
theorem eqk_zero {rs:Rms}{many x y:Int}:Eqk rs many 0 x y↔gd rs x=gd rs y:=by
 constructor
 ·intro h
  exact h [] (Nat.le_refl _) Lts.nil
 ·intro h run hl _
  have:run=[]:=List.length_eq_zero_iff.mp (by omega)
  subst this
  exact h
theorem eqk_succ {rs:Rms}{many x y:Int}{k:Nat}:Eqk rs many (k+1) x y↔Eqk rs many k x y/\∀l,0<=l->l<many->Eqk rs many k (nextOf rs x l) (nextOf rs y l):=by
 constructor
 ·intro h
  exact⟨fun run hl hr=>h run (by omega) hr,fun l l0 l1 run hl hr=>h (l::run) (by simp;omega) (hr.cons l0 l1)⟩
 ·rintro⟨h1,h2⟩ run hl hr
  cases run with
  |nil=>exact h1 [] (Nat.zero_le _) Lts.nil
  |cons l run=>exact h2 l hr.head.1 hr.head.2 run (by simp at hl;omega) hr.tail
def kn (ns:List Int)(t:Int):Int:=ns.getD t.toNat 0
def nx (rs:Rms)(x:Int):List Int:=(rs.getD x.toNat (false,[])).2
theorem nextOf_nx (rs:Rms)(x l:Int):nextOf rs x l=(nx rs x).getD l.toNat 0:=rfl
def mark (rs:Rms)(ns:List Int)(x:Int):Int×List Int:=(kn ns x,(nx rs x).map (kn ns))
def Inr (rs:Rms)(x:Int):Prop:=0<=x/\x<(rs.length:Int)
structure Lev (rs:Rms)(many:Int)(k:Nat)(ns:List Int):Prop where
 len:ns.length=rs.length
 iff:∀x y,Inr rs x->Inr rs y->(kn ns x=kn ns y↔Eqk rs many k x y)
structure Fine (rs:Rms)(ns ms:List Int):Prop where
 len:ms.length=rs.length
 iff:∀x y,Inr rs x->Inr rs y->(kn ms x=kn ms y↔mark rs ns x=mark rs ns y)
theorem nx_len {many:Int}{rs:Rms}(G:Good many rs){x:Int}(h:Inr rs x):((nx rs x).length:Int)=many:=by
 obtain⟨r,er⟩:=some_at rs x h.1 h.2
 unfold nx
 rw[getD_of er]
 exact(G.row r (List.mem_of_getElem? er)).1
theorem nx_in {many:Int}{rs:Rms}(G:Good many rs){x t:Int}(h:Inr rs x)(ht:t∈nx rs x):Inr rs t:=by
 obtain⟨r,er⟩:=some_at rs x h.1 h.2
 unfold nx at ht
 rw[getD_of er] at ht
 exact(G.row r (List.mem_of_getElem? er)).2 t ht
theorem map_eq_of {α:Type}(f:Int->α):∀(a b:List Int),a.length=b.length->(a.map f=b.map f↔∀i:Nat,i<a.length->f (a.getD i 0)=f (b.getD i 0))
 | [],[],_=>⟨fun _ i hi=>absurd hi (Nat.not_lt_zero _),fun _=>rfl⟩
 | [],_::_,h=>by simp at h
 |_::_,[],h=>by simp at h
 |x::a,y::b,h=>by
  have ih:=map_eq_of f a b (by simpa using h)
  constructor
  ·intro e i hi
   rw[List.map_cons,List.map_cons] at e
   injection e with e1 e2
   cases i with
   |zero=>exact e1
   |succ i=>exact(ih.mp e2) i (by simpa using hi)
  ·intro e
   rw[List.map_cons,List.map_cons]
   have e1:=e 0 (by simp)
   have e2:=ih.mpr fun i hi=>e (i+1) (by simpa using hi)
   rw[e2]
   have:f x=f y:=e1
   rw[this]
theorem Fine.lev {many:Int}{rs:Rms}{k:Nat}{ns ms:List Int}(G:Good many rs)(L:Lev rs many k ns)(F:Fine rs ns ms):Lev rs many (k+1) ms:=by
 refine⟨F.len,fun x y hx hy=>?_⟩
 rw[F.iff x y hx hy,eqk_succ]
 have lx:=nx_len G hx
 have ly:=nx_len G hy
 unfold mark
 rw[Prod.mk.injEq,L.iff x y hx hy,map_eq_of (kn ns) _ _ (by omega)]
 refine and_congr_right fun _=>?_
 constructor
 ·intro h l l0 l1
  have hx':=next_in G hx.1 hx.2 l0 l1
  have hy':=next_in G hy.1 hy.2 l0 l1
  rw[<- L.iff _ _ hx' hy',nextOf_nx,nextOf_nx]
  exact h l.toNat (by omega)
 ·intro h i hi
  have q:=h (i:Int) (by omega) (by omega)
  have hx':=next_in G hx.1 hx.2 (l:=(i:Int)) (by omega) (by omega)
  have hy':=next_in G hy.1 hy.2 (l:=(i:Int)) (by omega) (by omega)
  rw[<- L.iff _ _ hx' hy',nextOf_nx,nextOf_nx] at q
  exact q
theorem sub_len:∀(b c:List Int),b.Nodup->(∀x∈b,x∈c)->b.length<=c.length
 | [],c,_,_=>Nat.zero_le _
 |x::b,c,nd,h=>by
  obtain⟨h1,h2⟩:=List.nodup_cons.mp nd
  have hx:=h x List.mem_cons_self
  have ih:=sub_len b (c.erase x) h2 fun y hy=>by
   have ne:y≠x:=fun e=>h1 (e▸hy)
   exact(List.mem_erase_of_ne ne).mpr (h y (List.mem_cons_of_mem _ hy))
  rw[List.length_erase_of_mem hx] at ih
  have:0<c.length:=List.length_pos_of_mem hx
  simp only[List.length_cons]
  omega
theorem many_spec (ns:List Int):∃l:List Int,l.Nodup/\(∀k,k∈l↔k∈ns)/\manyI ns=l.length:=by
 refine⟨PyProof.Rows.firstMet (fun i=>ns.getD i 0) ns.length,?_,fun k=>?_,rfl⟩
 ·unfold PyProof.Rows.firstMet
  exact first_nodup _ _ List.nodup_nil
 ·rw[<- inI_iff ns k]
  unfold inI
  rw[List.any_eq_true]
  exact⟨fun h=>⟨k,h,by simp⟩,fun⟨x,hx,e⟩=>by rw[beq_iff_eq] at e;rwa [<- e]⟩
theorem many_le (ns:List Int):manyI ns<=ns.length:=by
 obtain⟨l,nd,mem,e⟩:=many_spec ns
 rw[e]
 exact sub_len l ns nd fun x hx=>(mem x).mp hx
theorem mem_kn {ns:List Int}{v:Int}(h:v∈ns):∃t:Int,0<=t/\t<(ns.length:Int)/\kn ns t=v:=by
 obtain⟨i,hi,e⟩:=List.getElem_of_mem h
 exact⟨i,by omega,by omega,by unfold kn;rw[Int.toNat_natCast];simp[List.getD,hi,e]⟩
theorem kn_mem {ns:List Int}{t:Int}(h0:0<=t)(h1:t<(ns.length:Int)):kn ns t∈ns:=by
 obtain⟨v,e⟩:=some_at ns t h0 h1
 unfold kn
 rw[getD_of e]
 exact List.mem_of_getElem? e
theorem stays {many:Int}{rs:Rms}{k:Nat}{ns ms:List Int}(L:Lev rs many k ns)(L':Lev rs many (k+1) ms)(h:manyI ms<=manyI ns){x y:Int}(hx:Inr rs x)(hy:Inr rs y)(e:Eqk rs many k x y):Eqk rs many (k+1) x y:=by
 refine Classical.byContradiction fun hn=>?_
 have e1:kn ns x=kn ns y:=(L.iff x y hx hy).mpr e
 have e2:¬kn ms x=kn ms y:=fun z=>hn ((L'.iff x y hx hy).mp z)
 obtain⟨la,na,ma,ea⟩:=many_spec ms
 obtain⟨lb,nb,mb,eb⟩:=many_spec ns
 have up:∀{u v:Int},Inr rs u->Inr rs v->kn ms u=kn ms v->kn ns u=kn ns v:=fun {u v} hu hv z=>(L.iff u v hu hv).mpr (eqk_succ.mp ((L'.iff u v hu hv).mp z)).1
 have inm:∀{u:Int},Inr rs u->kn ms u∈ms:=fun {u} hu=>kn_mem hu.1 (by rw[L'.len];exact hu.2)
 have pick:∀v,∃t:Int,v∈ms->Inr rs t/\kn ms t=v:=fun v=>by
  by_cases hv:v∈ms
  ·obtain⟨t,t0,t1,et⟩:=mem_kn hv
   exact⟨t,fun _=>⟨⟨t0,by rw[<- L'.len];exact t1⟩,et⟩⟩
  ·exact⟨0,fun z=>absurd z hv⟩
 let f:Int->Int:=fun v=>kn ns (Classical.choose (pick v))
 have ff:∀{u:Int},Inr rs u->f (kn ms u)=kn ns u:=fun {u} hu=>by
  have q:=Classical.choose_spec (pick (kn ms u)) (inm hu)
  exact up q.1 hu q.2
 have hlen:lb.length<=((la.erase (kn ms x)).map f).length:=by
  refine sub_len _ _ nb fun b hb=>?_
  obtain⟨t,t0,t1,et⟩:=mem_kn ((mb b).mp hb)
  have ht:Inr rs t:=⟨t0,by rw[<- L.len];exact t1⟩
  by_cases hc:kn ms t=kn ms x
  ·refine List.mem_map.mpr ⟨kn ms y,(List.mem_erase_of_ne (Ne.symm e2)).mpr ((ma _).mpr (inm hy)),?_⟩
   rw[ff hy,<- e1,<- et]
   exact(up ht hx hc).symm
  ·refine List.mem_map.mpr ⟨kn ms t,(List.mem_erase_of_ne hc).mpr ((ma _).mpr (inm ht)),?_⟩
   rw[ff ht,et]
 have hxm:kn ms x∈la:=(ma _).mpr (inm hx)
 rw[List.length_map,List.length_erase_of_mem hxm] at hlen
 have:0<la.length:=List.length_pos_of_mem hxm
 omega
structure Cls (rs:Rms)(many:Int)(ns:List Int):Prop where
 len:ns.length=rs.length
 iff:∀x y,Inr rs x->Inr rs y->(kn ns x=kn ns y↔Bi rs rs many x y)
theorem Lev.cls {many:Int}{rs:Rms}{k:Nat}{ns:List Int}(G:Good many rs)(L:Lev rs many k ns)(st:∀x y,Inr rs x->Inr rs y->Eqk rs many k x y->Eqk rs many (k+1) x y):Cls rs many ns:=by
 refine⟨L.len,fun x y hx hy=>?_⟩
 rw[L.iff x y hx hy]
 constructor
 ·intro h run hr
  induction run generalizing x y with
  |nil=>exact h [] (Nat.zero_le _) Lts.nil
  |cons l run ih=>
   have q:=(eqk_succ.mp (st x y hx hy h)).2 l hr.head.1 hr.head.2
   exact ih _ _ (next_in G hx.1 hx.2 hr.head.1 hr.head.2) (next_in G hy.1 hy.2 hr.head.1 hr.head.2) q hr.tail
 ·intro h run _ hr
  exact h run hr
theorem Bi.next {r1 r2:Rms}{many x y l:Int}(h:Bi r1 r2 many x y)(l0:0<=l)(l1:l<many):Bi r1 r2 many (nextOf r1 x l) (nextOf r2 y l):=fun run hr=>h (l::run) (hr.cons l0 l1)
theorem Bi.symm {r1 r2:Rms}{many x y:Int}(h:Bi r1 r2 many x y):Bi r2 r1 many y x:=fun run hr=>(h run hr).symm
theorem Bi.trans {r1 r2 r3:Rms}{many x y z:Int}(h:Bi r1 r2 many x y)(h':Bi r2 r3 many y z):Bi r1 r3 many x z:=fun run hr=>(h run hr).trans (h' run hr)
def cl (ns:List Int)(ch:List Int):List Int:=ch.map (kn ns)
def ix (ns:List Int)(ch:List Int)(t:Int):Int:=((cl ns ch).idxOf (kn ns t):Int)
def minM (rs:Rms)(ns ch:List Int):Rms:=ch.map fun c=>(gd rs c,(nx rs c).map (ix ns ch))
def stepT (n:Option Nat)(t:Int):Option Nat:=n.bind fun n=>if t<(n:Int) then some n else if t=(n:Int) then some (n+1) else none
def rowN (n:Option Nat)(r:List Int):Option Nat:=r.foldl stepT n
def rowsN (rows:List (List Int)):Option Nat:=rows.foldl rowN (some 1)
theorem rowN_snoc (n:Option Nat)(r:List Int)(t:Int):rowN n (r++[t])=stepT (rowN n r) t:=by unfold rowN;rw[List.foldl_append];rfl
theorem rowsN_snoc (rows:List (List Int))(r:List Int):rowsN (rows++[r])=rowN (rowsN rows) r:=by unfold rowsN;rw[List.foldl_append];rfl
theorem ix_app {ns ch:List Int}{t x:Int}(h:kn ns t∈cl ns ch):ix ns (ch++[x]) t=ix ns ch t:=by
 unfold ix cl at *
 rw[List.map_append,List.idxOf_append,if_pos h]
theorem ix_lt {ns ch:List Int}{t:Int}(h:kn ns t∈cl ns ch):ix ns ch t<(ch.length:Int):=by
 unfold ix
 have:=List.idxOf_lt_length_of_mem h
 unfold cl at *
 rw[List.length_map] at this
 omega
theorem ix_at {ns ch:List Int}{t:Int}(h:kn ns t∈cl ns ch):∃c,ch[(ix ns ch t).toNat]?=some c/\kn ns c=kn ns t:=by
 have q:=List.idxOf_lt_length_of_mem h
 have hl:(cl ns ch).idxOf (kn ns t)<ch.length:=by unfold cl at q ⊢;rwa [List.length_map] at q
 refine⟨ch[(cl ns ch).idxOf (kn ns t)],?_,?_⟩
 ·unfold ix
  rw[Int.toNat_natCast]
  simp[hl]
 ·have e:(cl ns ch)[(cl ns ch).idxOf (kn ns t)]?=some (kn ns t):=by rw[List.getElem?_eq_getElem q,List.getElem_idxOf q]
  generalize (cl ns ch).idxOf (kn ns t)=k at e hl ⊢
  unfold cl at e
  rw[List.getElem?_map,List.getElem?_eq_getElem hl] at e
  exact Option.some.inj e
theorem ix_new {ns ch:List Int}{x:Int}(h:kn ns x∉cl ns ch):ix ns (ch++[x]) x=(ch.length:Int):=by
 unfold ix cl at *
 rw[List.map_append,List.idxOf_append,if_neg h,List.length_map]
 simp
structure LB (rs:Rms)(many:Int)(ns ch:List Int)(d:Nat):Prop where
 hd:ch[0]?=some 0
 nd:(cl ns ch).Nodup
 ok:∀c∈ch,Inr rs c
 dl:d<=ch.length
 cov:∀(i:Nat) (c:Int),i<d->ch[i]?=some c->∀t∈nx rs c,kn ns t∈cl ns ch
 ord:rowsN ((ch.take d).map fun c=>(nx rs c).map (ix ns ch))=some ch.length
 pre:∀i,i<d->∃n,rowsN ((ch.take i).map fun c=>(nx rs c).map (ix ns ch))=some n/\i<n
structure LV (rs:Rms)(many:Int)(ns ch:List Int)(d:Nat)(x0:Int)(j:Nat):Prop where
 pl:ch[d]?=some x0
 hd:ch[0]?=some 0
 nd:(cl ns ch).Nodup
 ok:∀c∈ch,Inr rs c
 cov:∀(i:Nat) (c:Int),i<d->ch[i]?=some c->∀t∈nx rs c,kn ns t∈cl ns ch
 cov2:∀t∈(nx rs x0).take j,kn ns t∈cl ns ch
 ord:rowN (rowsN ((ch.take d).map fun c=>(nx rs c).map (ix ns ch))) (((nx rs x0).take j).map (ix ns ch))=some ch.length
 pre:∀i,i<=d->∃n,rowsN ((ch.take i).map fun c=>(nx rs c).map (ix ns ch))=some n/\i<n
theorem LB.start {rs:Rms}{many:Int}{ns ch:List Int}{d:Nat}{x0:Int}(B:LB rs many ns ch d)(h:ch[d]?=some x0):LV rs many ns ch d x0 0:=by
 have hd:d<ch.length:=(List.getElem?_eq_some_iff.mp h).1
 refine⟨h,B.hd,B.nd,B.ok,B.cov,fun t ht=>by simp at ht,?_,fun i hi=>?_⟩
 ·exact B.ord
 ·by_cases e:i=d
  ·subst e
   exact⟨_,B.ord,hd⟩
  ·exact B.pre i (by omega)
theorem LV.done {rs:Rms}{many:Int}{ns ch:List Int}{d:Nat}{x0:Int}{j:Nat}(V:LV rs many ns ch d x0 j)(h:(nx rs x0).length<=j):LB rs many ns ch (d+1):=by
 have hd:d<ch.length:=(List.getElem?_eq_some_iff.mp V.pl).1
 have c2:=V.cov2
 have o2:=V.ord
 rw[List.take_of_length_le h] at c2 o2
 refine⟨V.hd,V.nd,V.ok,hd,fun i c hi hc=>?_,?_,fun i hi=>V.pre i (by omega)⟩
 ·by_cases e:i=d
  ·subst e
   rw[V.pl] at hc
   cases hc
   exact c2
  ·exact V.cov i c (by omega) hc
 ·rw[List.take_add_one,V.pl,List.map_append,Option.toList_some,List.map_singleton,rowsN_snoc]
  exact o2
theorem LV.old {rs:Rms}{many:Int}{ns ch:List Int}{d:Nat}{x0 t:Int}{j:Nat}(V:LV rs many ns ch d x0 j)(h:(nx rs x0)[j]?=some t)(m:kn ns t∈cl ns ch):LV rs many ns ch d x0 (j+1):=by
 refine⟨V.pl,V.hd,V.nd,V.ok,V.cov,fun u hu=>?_,?_,V.pre⟩
 ·rw[List.take_add_one,h,Option.toList_some,List.mem_append,List.mem_singleton] at hu
  rcases hu with hu|rfl
  ·exact V.cov2 u hu
  ·exact m
 ·rw[List.take_add_one,h,Option.toList_some,List.map_append,List.map_singleton,rowN_snoc,V.ord]
  unfold stepT
  rw[Option.bind_some,if_pos (ix_lt m)]
theorem rows_app {rs:Rms}{ns ch:List Int}{x:Int}{d:Nat}(dl:d<=ch.length)(cov:∀(i:Nat) (c:Int),i<d->ch[i]?=some c->∀t∈nx rs c,kn ns t∈cl ns ch):
  (((ch++[x]).take d).map fun c=>(nx rs c).map (ix ns (ch++[x])))=(ch.take d).map fun c=>(nx rs c).map (ix ns ch):=by
 rw[List.take_append_of_le_length dl]
 refine List.map_congr_left fun c hc=>List.map_congr_left fun t ht=>ix_app ?_
 obtain⟨i,hi,e⟩:=List.getElem_of_mem hc
 rw[List.length_take] at hi
 rw[List.getElem_take] at e
 exact cov i c (by omega) (by rw[<- e];simp) t ht
theorem LV.new {rs:Rms}{many:Int}{ns ch:List Int}{d:Nat}{x0 t:Int}{j:Nat}(G:Good many rs)(V:LV rs many ns ch d x0 j)(h:(nx rs x0)[j]?=some t)(m:kn ns t∉cl ns ch):LV rs many ns (ch++[t]) d x0 (j+1):=by
 have hd:d<ch.length:=(List.getElem?_eq_some_iff.mp V.pl).1
 have lt:∀{i:Nat} {e:Int},ch[i]?=some e->(ch++[t])[i]?=some e:=fun {i e} h=>by
  rw[List.getElem?_append_left (List.getElem?_eq_some_iff.mp h).1]
  exact h
 have mem:∀{v:Int},v∈cl ns ch->v∈cl ns (ch++[t]):=fun {v} hv=>by unfold cl at *;rw[List.map_append];exact List.mem_append_left _ hv
 have x0r:=V.ok x0 (List.mem_of_getElem? V.pl)
 have tr:=nx_in G x0r (List.mem_of_getElem? h)
 refine⟨lt V.pl,lt V.hd,?_,fun c hc=>?_,fun i c hi hc u hu=>?_,fun u hu=>?_,?_,fun i hi=>?_⟩
 ·unfold cl at *
  rw[List.map_append,List.nodup_append]
  refine⟨V.nd,by simp,fun a ha b hb=>?_⟩
  have:b=kn ns t:=by simpa using hb
  subst this
  intro z
  subst z
  exact m ha
 ·rcases List.mem_append.mp hc with hc|hc
  ·exact V.ok c hc
  ·rw[List.mem_singleton] at hc
   subst hc
   exact tr
 ·rw[List.getElem?_append_left (by omega)] at hc
  exact mem (V.cov i c hi hc u hu)
 ·rw[List.take_add_one,h,Option.toList_some,List.mem_append,List.mem_singleton] at hu
  rcases hu with hu|rfl
  ·exact mem (V.cov2 u hu)
  ·unfold cl
   rw[List.map_append]
   exact List.mem_append_right _ (by simp)
 ·rw[rows_app (by omega) V.cov,List.take_add_one,h,Option.toList_some,List.map_append,List.map_singleton,rowN_snoc,ix_new m]
  have e:((nx rs x0).take j).map (ix ns (ch++[t]))=((nx rs x0).take j).map (ix ns ch):=List.map_congr_left fun u hu=>ix_app (V.cov2 u hu)
  rw[e,V.ord]
  unfold stepT
  rw[Option.bind_some,if_neg (by omega),if_pos rfl,List.length_append]
  rfl
 ·rw[rows_app (by omega) fun i' c hi' hc=>V.cov i' c (by omega) hc]
  exact V.pre i hi
theorem LB.init {rs:Rms}{many:Int}{ns:List Int}(G:Good many rs):LB rs many ns [0] 0:=by
 have:=G.pos
 refine⟨rfl,by simp[cl],fun c hc=>?_,by simp,fun i c hi=>by omega,rfl,fun i hi=>by omega⟩
 rw[List.mem_singleton] at hc
 subst hc
 exact⟨Int.le_refl 0,by omega⟩
theorem ch_len {rs:Rms}{ns ch:List Int}(nd:(cl ns ch).Nodup)(ok:∀c∈ch,Inr rs c):ch.length<=rs.length:=by
 have n2:ch.Nodup:=by
  unfold cl at nd
  exact List.Pairwise.of_map (kn ns) (fun a b h z=>h (by rw[z])) nd
 exact nodup_le rs.length ch n2 fun x hx=>ok x hx
section
variable {rs:Rms} {many:Int} {ns ch:List Int}
theorem min_at {i:Nat}{c:Int}(h:ch[i]?=some c):(minM rs ns ch)[i]?=some (gd rs c,(nx rs c).map (ix ns ch)):=by
 unfold minM
 rw[List.getElem?_map,h]
 rfl
theorem min_good (G:Good many rs)(B:LB rs many ns ch ch.length):Good many (minM rs ns ch):=by
 have l0:0<ch.length:=(List.getElem?_eq_some_iff.mp B.hd).1
 have hl:(minM rs ns ch).length=ch.length:=by unfold minM;rw[List.length_map]
 have l1:=ch_len B.nd B.ok
 have gle:=G.le
 refine⟨G.mn,by omega,by omega,fun r hr=>?_⟩
 unfold minM at hr
 obtain⟨c,hc,e⟩:=List.mem_map.mp hr
 subst e
 have cr:=B.ok c hc
 refine⟨by rw[List.length_map];exact nx_len G cr,fun n hn=>?_⟩
 obtain⟨t,ht,e⟩:=List.mem_map.mp hn
 subst e
 obtain⟨i,hi,ei⟩:=List.getElem_of_mem hc
 have q:=B.cov i c hi (by rw[<- ei];simp[hi]) t ht
 rw[hl]
 exact⟨by unfold ix;omega,ix_lt q⟩
theorem min_bi (G:Good many rs)(C:Cls rs many ns)(B:LB rs many ns ch ch.length):∀(run:List Int) (x:Int) (i:Nat) (c:Int),Inr rs x->ch[i]?=some c->kn ns x=kn ns c->Lts many run->gd rs (walkM rs x run)=gd (minM rs ns ch) (walkM (minM rs ns ch) i run)
 | [],x,i,c,hx,hc,e,_=>by
  have cr:=B.ok c (List.mem_of_getElem? hc)
  have q:=(C.iff x c hx cr).mp e [] Lts.nil
  show gd rs x=gd (minM rs ns ch) (i:Int)
  unfold gd
  rw[Int.toNat_natCast,getD_of (min_at hc)]
  exact q
 |l::run,x,i,c,hx,hc,e,hl=>by
  have cr:=B.ok c (List.mem_of_getElem? hc)
  have l0:=hl.head.1
  have l1:=hl.head.2
  have nxl:=nx_len G cr
  have q:=((C.iff x c hx cr).mp e).next l0 l1
  have hx':=next_in G hx.1 hx.2 l0 l1
  have hc':=next_in G cr.1 cr.2 l0 l1
  have e':kn ns (nextOf rs x l)=kn ns (nextOf rs c l):=(C.iff _ _ hx' hc').mpr q
  have hin:i<ch.length:=(List.getElem?_eq_some_iff.mp hc).1
  obtain⟨t,et⟩:=some_at (nx rs c) l l0 (by omega)
  have ent:nextOf rs c l=t:=by rw[nextOf_nx,getD_of et]
  have hm:=B.cov i c hin hc t (List.mem_of_getElem? et)
  have en:nextOf (minM rs ns ch) i l=ix ns ch t:=by
   rw[nextOf_nx]
   unfold nx
   rw[Int.toNat_natCast,getD_of (min_at hc)]
   exact getD_of (by rw[List.getElem?_map,et];rfl)
  obtain⟨c2,g1,g2⟩:=ix_at hm
  have ih:=min_bi G C B run (nextOf rs x l) (ix ns ch t).toNat c2 hx' g1 (by rw[e',ent,g2]) hl.tail
  show gd rs (walkM rs (nextOf rs x l) run)=gd (minM rs ns ch) (walkM (minM rs ns ch) (nextOf (minM rs ns ch) i l) run)
  rw[en,ih]
  have:(((ix ns ch t).toNat:Nat):Int)=ix ns ch t:=by unfold ix;omega
  rw[this]
theorem min_whole (G:Good many rs)(C:Cls rs many ns)(B:LB rs many ns ch ch.length):Bi rs (minM rs ns ch) many 0 0:=fun run hr=>by
 have:=G.pos
 exact min_bi G C B run 0 0 0 ⟨Int.le_refl 0,by omega⟩ B.hd rfl hr
theorem min_parts (G:Good many rs)(C:Cls rs many ns)(B:LB rs many ns ch ch.length){i j:Nat}(hi:i<ch.length)(hj:j<ch.length)(h:Bi (minM rs ns ch) (minM rs ns ch) many i j):i=j:=by
 have ci:ch[i]?=some ch[i]:=by simp[hi]
 have cj:ch[j]?=some ch[j]:=by simp[hj]
 have ri:=B.ok _ (List.mem_of_getElem? ci)
 have rj:=B.ok _ (List.mem_of_getElem? cj)
 have q1:Bi rs (minM rs ns ch) many ch[i] i:=fun run hr=>min_bi G C B run _ i _ ri ci rfl hr
 have q2:Bi rs (minM rs ns ch) many ch[j] j:=fun run hr=>min_bi G C B run _ j _ rj cj rfl hr
 have e:kn ns ch[i]=kn ns ch[j]:=(C.iff _ _ ri rj).mpr ((q1.trans h).trans q2.symm)
 refine(List.getElem_inj (xs:=cl ns ch) (h₀:=by unfold cl;rw[List.length_map];exact hi) (h₁:=by unfold cl;rw[List.length_map];exact hj) B.nd).mp ?_
 unfold cl
 rw[List.getElem_map,List.getElem_map]
 exact e
end
end K23
namespace K23
open PySem L2 K20 K21 K60
abbrev Pr:=Int×Int
def sc (r1 r2:Rms)(p:Pr)(l:Int):Pr:=(nextOf r1 p.1 l,nextOf r2 p.2 l)
def PIn (r1 r2:Rms)(p:Pr):Prop:=Inr r1 p.1/\Inr r2 p.2
section
variable {r1 r2:Rms} {many:Int} {p0:Pr} {met wt:List Pr}
theorem pairs_le (nd:met.Nodup)(ok:∀p∈met,PIn r1 r2 p):met.length<=r1.length*r2.length:=by
 have h:=nodup_le (r1.length*r2.length) (met.map fun p=>p.1*(r2.length:Int)+p.2) ?_ ?_
 ·rwa [List.length_map] at h
 ·unfold List.Nodup
  rw[List.pairwise_map]
  refine List.Pairwise.imp_of_mem (fun {a b} ha hb hne z=>hne ?_) nd
  have oa:=ok a ha
  have ob:=ok b hb
  have hl:(0:Int)<r2.length:=by have:=oa.2.1;have:=oa.2.2;omega
  have m1:(a.1*(r2.length:Int)+a.2)%(r2.length:Int)=a.2:=by rw[Int.add_comm,Int.add_mul_emod_self_right];exact Int.emod_eq_of_lt oa.2.1 oa.2.2
  have m2:(b.1*(r2.length:Int)+b.2)%(r2.length:Int)=b.2:=by rw[Int.add_comm,Int.add_mul_emod_self_right];exact Int.emod_eq_of_lt ob.2.1 ob.2.2
  have e2:a.2=b.2:=by rw[<- m1,<- m2,z]
  have e1:a.1=b.1:=by
   have:a.1*(r2.length:Int)=b.1*(r2.length:Int):=by omega
   exact Int.eq_of_mul_eq_mul_right (by omega) this
  exact Prod.ext e1 e2
 ·intro x hx
  obtain⟨p,hp,e⟩:=List.mem_map.mp hx
  subst e
  have o:=ok p hp
  have a0:=o.1.1
  have a1:=o.1.2
  have b0:=o.2.1
  have b1:=o.2.2
  have h1:0<=p.1*(r2.length:Int):=Int.mul_nonneg a0 (by omega)
  have h2:p.1*(r2.length:Int)<=((r1.length:Int)-1)*(r2.length:Int):=Int.mul_le_mul_of_nonneg_right (by omega) (by omega)
  have h3:((r1.length:Int)-1)*(r2.length:Int)=(r1.length:Int)*(r2.length:Int)-(r2.length:Int):=by rw[Int.sub_mul,Int.one_mul]
  rw[Int.natCast_mul]
  exact⟨by show 0<=p.1*(r2.length:Int)+p.2;omega,by show p.1*(r2.length:Int)+p.2<_;omega⟩
end
def keyP (p:Pr):List Key:=[Sum.inl p.1,Sum.inl p.2]
def metK (met:List Pr):List (List Key×V):=met.map fun p=>(keyP p,V.bl true)
theorem keyP_inj {p q:Pr}(h:keyP p=keyP q):p=q:=by
 unfold keyP at h
 injection h with h1 h2
 injection h2 with h2 _
 exact Prod.ext (Sum.inl.inj h1) (Sum.inl.inj h2)
theorem metK_some (p:Pr):∀met:List Pr,(valV (metK met) (keyP p)).isSome=decide (p∈met)
 | []=>rfl
 |q::met=>by
  show(valV ((keyP q,V.bl true)::metK met) (keyP p)).isSome=_
  by_cases h:q=p
  ·subst h
   rw[valV_pos rfl]
   simp
  ·rw[valV_neg (fun z=>h (keyP_inj z)),metK_some p met]
   have:p∈q::met↔p∈met:=by
    rw[List.mem_cons]
    exact⟨fun z=>z.elim (fun z=>absurd z.symm h) id,.inr⟩
   exact(decide_eq_decide.mpr this).symm
theorem metK_put {p:Pr}{met:List Pr}(h:p∉met):putK (metK met) (keyP p) (V.bl true)=metK (met++[p]):=by
 rw[putK_new]
 ·unfold metK
  rw[List.map_append]
  rfl
 ·have:=metK_some p met
  rw[decide_eq_false h] at this
  cases e:valV (metK met) (keyP p) with
  |none=>rfl
  |some v=>rw[e] at this;cases this
end K23
namespace K23
open PySem L2 K20 K21 K60
theorem rowN_none:∀r:List Int,rowN none r=none
 | []=>rfl
 |t::r=>rowN_none r
structure Ordy (rs:Rms):Prop where
 pre:∀d,d<rs.length->∃n,rowsN ((rs.take d).map (·.2))=some n/\d<n
 all:∃n,rowsN (rs.map (·.2))=some n
theorem Ordy.row {rs:Rms}(O:Ordy rs){d:Nat}{r:Bool×List Int}(h:rs[d]?=some r):∃n n',rowsN ((rs.take d).map (·.2))=some n/\d<n/\rowN (some n) r.2=some n':=by
 have hd:=(List.getElem?_eq_some_iff.mp h).1
 obtain⟨n,e,hl⟩:=O.pre d hd
 have e2:rowsN ((rs.take (d+1)).map (·.2))=rowN (some n) r.2:=by
  rw[List.take_add_one,h,Option.toList_some,List.map_append,List.map_singleton,rowsN_snoc,e]
 by_cases hn:d+1<rs.length
 ·obtain⟨n',e',_⟩:=O.pre (d+1) hn
  exact⟨n,n',e,hl,by rw[<- e2,e']⟩
 ·obtain⟨n',e'⟩:=O.all
  rw[List.take_of_length_le (by omega)] at e2
  exact⟨n,n',e,hl,by rw[<- e2,e']⟩
theorem LB.ordy {rs:Rms}{many:Int}{ns ch:List Int}(B:LB rs many ns ch ch.length):Ordy (minM rs ns ch):=by
 have hl:(minM rs ns ch).length=ch.length:=by unfold minM;rw[List.length_map]
 have e:∀d,((minM rs ns ch).take d).map (·.2)=(ch.take d).map fun c=>(nx rs c).map (ix ns ch):=fun d=>by
  unfold minM
  rw[<- List.map_take,List.map_map]
  rfl
 refine⟨fun d hd=>?_,ch.length,?_⟩
 ·rw[e]
  exact B.pre d (by omega)
 ·have q:=e ch.length
  rw[List.take_of_length_le (by omega)] at q
  rw[q]
  exact B.ord
end K23
namespace K24
open PySem L2 K20 K21 K60 K23
structure Can (many:Int)(M:Rms):Prop where
 good:Good many M
 ord:Ordy M
 all:rowsN (M.map (·.2))=some M.length
 red:∀i j:Nat,i<M.length->j<M.length->Bi M M many i j->i=j
theorem can_of {rs:Rms}{many:Int}{ns ch:List Int}(G:Good many rs)(C:Cls rs many ns)(B:LB rs many ns ch ch.length):Can many (minM rs ns ch):=by
 have hl:(minM rs ns ch).length=ch.length:=by unfold minM;rw[List.length_map]
 refine⟨min_good G B,B.ordy,?_,fun i j hi hj h=>min_parts G C B (by omega) (by omega) h⟩
 rw[hl,<- B.ord]
 unfold minM
 rw[List.map_map,List.take_of_length_le (Nat.le_refl _)]
 rfl
structure Sync (M1 M2:Rms)(many:Int)(m:Nat):Prop where
 l1:m<=M1.length
 l2:m<=M2.length
 bi:∀k:Nat,k<m->Bi M1 M2 many k k
section
variable {M1 M2:Rms} {many:Int}
theorem sync_step (C1:Can many M1)(C2:Can many M2){m m1 m2:Nat}{t1 t2:Int}(S:Sync M1 M2 many m)(i1:Inr M1 t1)(i2:Inr M2 t2)(h:Bi M1 M2 many t1 t2)(e1:stepT (some m) t1=some m1)(e2:stepT (some m) t2=some m2):t1=t2/\m1=m2/\Sync M1 M2 many m1:=by
 unfold stepT at e1 e2
 rw[Option.bind_some] at e1 e2
 have a0:=i1.1
 have a1:=i1.2
 have b0:=i2.1
 have b1:=i2.2
 have n1:((t1.toNat:Nat):Int)=t1:=by omega
 have n2:((t2.toNat:Nat):Int)=t2:=by omega
 have s1:=S.l1
 have s2:=S.l2
 by_cases c1:t1<(m:Int)
 ·rw[if_pos c1] at e1
  cases e1
  have q:=S.bi t1.toNat (by omega)
  rw[n1] at q
  have z:Bi M2 M2 many t1 t2:=q.symm.trans h
  rw[<- n1,<- n2] at z
  have e:=C2.red _ _ (by omega) (by omega) z
  have e':t1=t2:=by omega
  rw[<- e',if_pos c1] at e2
  cases e2
  exact⟨e',rfl,S⟩
 ·rw[if_neg c1] at e1
  by_cases d1:t1=(m:Int)
  ·rw[if_pos d1] at e1
   cases e1
   by_cases c2:t2<(m:Int)
   ·have q:=S.bi t2.toNat (by omega)
    rw[n2] at q
    have z:Bi M1 M1 many t1 t2:=h.trans q.symm
    rw[<- n1,<- n2] at z
    have e:=C1.red _ _ (by omega) (by omega) z
    omega
   ·rw[if_neg c2] at e2
    by_cases d2:t2=(m:Int)
    ·rw[if_pos d2] at e2
     cases e2
     refine⟨by omega,rfl,by omega,by omega,fun k hk=>?_⟩
     by_cases hkm:k<m
     ·exact S.bi k hkm
     ·have:k=m:=by omega
      subst this
      rw[d1,d2] at h
      exact h
    ·rw[if_neg d2] at e2
     cases e2
  ·rw[if_neg d1] at e1
   cases e1
theorem sync_row (C1:Can many M1)(C2:Can many M2):∀(r1 r2:List Int) (m m1 m2:Nat),r1.length=r2.length->(∀t∈r1,Inr M1 t)->(∀t∈r2,Inr M2 t)->(∀i:Nat,i<r1.length->Bi M1 M2 many (r1.getD i 0) (r2.getD i 0))->Sync M1 M2 many m->rowN (some m) r1=some m1->rowN (some m) r2=some m2->r1=r2/\m1=m2/\Sync M1 M2 many m1
 | [],[],m,m1,m2,_,_,_,_,S,e1,e2=>by
  cases e1
  cases e2
  exact⟨rfl,rfl,S⟩
 | [],_::_,_,_,_,h,_,_,_,_,_,_=>by simp at h
 |_::_,[],_,_,_,h,_,_,_,_,_,_=>by simp at h
 |t1::r1,t2::r2,m,m1,m2,hl,h1,h2,hb,S,e1,e2=>by
  have e1':rowN (stepT (some m) t1) r1=some m1:=e1
  have e2':rowN (stepT (some m) t2) r2=some m2:=e2
  cases q1:stepT (some m) t1 with
  |none=>rw[q1,rowN_none] at e1';cases e1'
  |some n1=>
   cases q2:stepT (some m) t2 with
   |none=>rw[q2,rowN_none] at e2';cases e2'
   |some n2=>
    rw[q1] at e1'
    rw[q2] at e2'
    obtain⟨et,en,S'⟩:=sync_step C1 C2 S (h1 _ List.mem_cons_self) (h2 _ List.mem_cons_self) (hb 0 (by simp)) q1 q2
    subst en
    obtain⟨er,em,S''⟩:=sync_row C1 C2 r1 r2 n1 m1 m2 (by simpa using hl) (fun t ht=>h1 t (List.mem_cons_of_mem _ ht)) (fun t ht=>h2 t (List.mem_cons_of_mem _ ht)) (fun i hi=>hb (i+1) (by simpa using hi)) S' e1' e2'
    exact⟨by rw[et,er],em,S''⟩
theorem sync_rows (C1:Can many M1)(C2:Can many M2)(h:Bi M1 M2 many 0 0):∀d:Nat,d<=M1.length->d<=M2.length/\M1.take d=M2.take d/\∃n,rowsN ((M1.take d).map (·.2))=some n/\Sync M1 M2 many n
 |0,_=>⟨Nat.zero_le _,rfl,1,rfl,C1.good.pos,C2.good.pos,fun k hk=>by
  have:k=0:=by omega
  subst this
  exact h⟩
 |d+1,hd=>by
  obtain⟨d2,et,n,en,S⟩:=sync_rows C1 C2 h d (by omega)
  obtain⟨r1,er1⟩:∃r,M1[d]?=some r:=⟨M1[d],by simp[hd]⟩
  obtain⟨n0,n1,f1,f2,f3⟩:=C1.ord.row er1
  rw[en] at f1
  cases f1
  have hd2:d<M2.length:=Nat.lt_of_lt_of_le f2 S.l2
  obtain⟨r2,er2⟩:∃r,M2[d]?=some r:=⟨M2[d],by simp[hd2]⟩
  obtain⟨k0,k1,g1,g2,g3⟩:=C2.ord.row er2
  rw[<- et,en] at g1
  cases g1
  have b:=S.bi d f2
  have w1:=C1.good.row r1 (List.mem_of_getElem? er1)
  have w2:=C2.good.row r2 (List.mem_of_getElem? er2)
  have x1:nx M1 d=r1.2:=by unfold nx;rw[Int.toNat_natCast,getD_of er1]
  have x2:nx M2 d=r2.2:=by unfold nx;rw[Int.toNat_natCast,getD_of er2]
  obtain⟨e1,e2,S'⟩:=sync_row C1 C2 r1.2 r2.2 n n1 k1 (by omega) w1.2 w2.2 (fun i hi=>by
   have q:=b.next (l:=(i:Int)) (by omega) (by omega)
   rw[nextOf_nx,nextOf_nx,x1,x2,Int.toNat_natCast] at q
   exact q) S f3 g3
  have eg:r1.1=r2.1:=by
   have q:=b [] Lts.nil
   have q':gd M1 (d:Int)=gd M2 (d:Int):=q
   unfold gd at q'
   rw[Int.toNat_natCast,getD_of er1,getD_of er2] at q'
   exact q'
  refine⟨hd2,?_,n1,?_,S'⟩
  ·rw[List.take_add_one,List.take_add_one,et,er1,er2]
   rw[show r1=r2 from Prod.ext eg e1]
  ·rw[List.take_add_one,er1,Option.toList_some,List.map_append,List.map_singleton,rowsN_snoc,en]
   exact f3
theorem canon (C1:Can many M1)(C2:Can many M2)(h:Bi M1 M2 many 0 0):M1=M2:=by
 obtain⟨h2,et,n,en,S⟩:=sync_rows C1 C2 h M1.length (Nat.le_refl _)
 rw[List.take_of_length_le (Nat.le_refl _),C1.all] at en
 cases en
 have hl:M2.length<=M1.length:=by
  refine Nat.le_of_not_lt fun hlt=>?_
  obtain⟨n',e',hn'⟩:=C2.ord.pre M1.length hlt
  rw[<- et,List.take_of_length_le (Nat.le_refl _),C1.all] at e'
  cases e'
  omega
 rw[List.take_of_length_le (Nat.le_refl _),List.take_of_length_le hl] at et
 exact et
end
def dR (r:Bool×List Int):PyData:=.tuple [.bool r.1,.tuple (r.2.map PyData.int)]
def dM (many:Int)(rs:Rms):PyData:=.tuple [.int many,.tuple (rs.map dR)]
theorem ints_lay':∀ns:List Int,PyData.canLayAll0 (ns.map PyData.int)=true
 | []=>rfl
 |n::ns=>by
  rw[List.map_cons,PyData.canLayAll0,ints_lay' ns]
  rfl
theorem ints_dep:∀ns:List Int,PyData.depthAll (ns.map PyData.int)=0
 | []=>by rw[List.map_nil,PyData.depthAll]
 |n::ns=>by
  rw[List.map_cons,PyData.depthAll,ints_dep ns,PyData.depth]
  rfl
theorem dR_lay (r:Bool×List Int):(dR r).canLay0=true:=by
 show(PyData.canLay0 (.bool r.1)&&(PyData.canLayAll0 (r.2.map PyData.int)&&PyData.canLayAll0 []))=true
 rw[ints_lay']
 rfl
theorem dRs_lay:∀rs:Rms,PyData.canLayAll0 (rs.map dR)=true
 | []=>rfl
 |r::rs=>by
  rw[List.map_cons,PyData.canLayAll0,dR_lay,dRs_lay rs]
  rfl
theorem dR_dep (r:Bool×List Int):(dR r).depth<=2:=by
 unfold dR
 rw[PyData.depth,PyData.depthAll,PyData.depthAll,PyData.depthAll,PyData.depth,PyData.depth,ints_dep]
 decide
theorem dRs_dep:∀rs:Rms,PyData.depthAll (rs.map dR)<=2
 | []=>Nat.zero_le _
 |r::rs=>by
  rw[List.map_cons,PyData.depthAll]
  have h1:=dR_dep r
  have h2:=dRs_dep rs
  omega
theorem dM_ok (many:Int)(rs:Rms):DOk (dM many rs):=by
 constructor
 ·show(PyData.canLay0 (.int many)&&(PyData.canLayAll0 (rs.map dR)&&PyData.canLayAll0 []))=true
  rw[dRs_lay]
  rfl
 ·unfold dM
  rw[PyData.depth,PyData.depthAll,PyData.depthAll,PyData.depthAll,PyData.depth,PyData.depth]
  have:=dRs_dep rs
  omega
theorem ints_dat {K:W.Frag}{H:Hp}:∀ns:List Int,DsAt K H (ns.map V.int) (ns.map PyData.int)
 | []=>.nil
 |n::ns=>.cons (.int n) (ints_dat ns)
theorem rows_dat {K:W.Frag}{H:Hp}:∀(rs:Rms) (qs:List Addr),RowsAt H qs rs->DsAt K H (qs.map V.ref) (rs.map dR)
 | [],[],_=>.nil
 | [],_::_,h=>by have:=h.1;simp at this
 |_::_,[],h=>by have:=h.1;simp at this
 |r::rs,q::qs,h=>by
  obtain⟨q',z,e1,e2,e3⟩:=h.2 0 r rfl
  cases e1
  refine .cons (.tup (SqT.of e2) (.cons (.bl _) (.cons (.tup (SqT.of e3) (ints_dat _)) .nil))) (rows_dat rs qs ⟨by have:=h.1;simpa using this,fun i r' e=>?_⟩)
  obtain⟨q'',z',g1,g2,g3⟩:=h.2 (i+1) r' (by simpa using e)
  exact⟨q'',z',by simpa using g1,g2,g3⟩
theorem m_dat {K:W.Frag}{H:Hp}{a:Addr}{many:Int}{rs:Rms}(h:MAt H a many rs):DAt K H (.ref a) (dM many rs):=by
 obtain⟨p,qs,h1,h2,h3⟩:=h
 exact .tup (SqT.of h1) (.cons (.int _) (.cons (.tup (SqT.of h2) (rows_dat rs qs h3)) .nil))
end K24
namespace LN
open K20 K21 K60 K23 K24
def mks (T:List Int->Bool)(tl:List (List Int))(h:List Int):List Bool:=tl.map fun t=>T (h++t)
theorem mks_iff {T:List Int->Bool}{tl:List (List Int)}{a b:List Int}:mks T tl a=mks T tl b↔∀t∈tl,T (a++t)=T (b++t):=by
 unfold mks
 exact List.map_inj_left
def lsI (many:Int):List Int:=(List.range many.toNat).map fun(i:Nat)=>(i:Int)
theorem lsI_len (many:Int)(h:0<=many):((lsI many).length:Int)=many:=by
 unfold lsI
 rw[List.length_map,List.length_range]
 omega
theorem lsI_at {many l:Int}(h0:0<=l)(h1:l<many):(lsI many)[l.toNat]?=some l:=by
 unfold lsI
 rw[List.getElem?_map,List.getElem?_range (by omega)]
 show some ((l.toNat:Nat):Int)=some l
 congr 1
 omega
theorem lsI_mem {many l:Int}:l∈lsI many↔0<=l/\l<many:=by
 unfold lsI
 rw[List.mem_map]
 constructor
 ·rintro⟨i,hi,rfl⟩
  have:=List.mem_range.mp hi
  omega
 ·rintro⟨h0,h1⟩
  exact⟨l.toNat,List.mem_range.mpr (by omega),by omega⟩
structure Hd (many:Int)(hs:List (List Int)):Prop where
 z:hs[0]?=some []
 up:∀(i:Nat) (h:List Int),hs[i]?=some h->i=0\/∃(j:Nat) (g:List Int) (l:Int),j<i/\hs[j]?=some g/\h=g++[l]/\0<=l/\l<many
structure Tl (many:Int)(tl:List (List Int)):Prop where
 z:[]∈tl
 cl:∀(l:Int) (r:List Int),l::r∈tl->r∈tl
 lt:∀t∈tl,Lts many t
abbrev Nd (T:List Int->Bool)(hs tl:List (List Int)):Prop:=(hs.map (mks T tl)).Nodup
def Cl (T:List Int->Bool)(many:Int)(hs tl:List (List Int))(n:Nat):Prop:=∀(i:Nat) (h:List Int),i<n->hs[i]?=some h->∀l,0<=l->l<many->mks T tl (h++[l])∈hs.map (mks T tl)
def ixM (T:List Int->Bool)(hs tl:List (List Int))(r:List Int):Int:=(((hs.map (mks T tl)).idxOf (mks T tl r):Nat):Int)
def rowM (T:List Int->Bool)(many:Int)(hs tl:List (List Int))(h:List Int):Bool×List Int:=(T h,(lsI many).map fun l=>ixM T hs tl (h++[l]))
def rsM (T:List Int->Bool)(many:Int)(hs tl:List (List Int)):Rms:=hs.map (rowM T many hs tl)
section
variable {T:List Int->Bool} {many:Int} {hs tl:List (List Int)}
theorem Hd.lts (D:Hd many hs):∀(i:Nat) (h:List Int),hs[i]?=some h->Lts many h:=by
 intro i
 induction i using Nat.strongRecOn with
 |_ i ih=>
  intro h e
  rcases D.up i h e with rfl|⟨j,g,l,hj,eg,rfl,l0,l1⟩
  ·rw[D.z] at e
   cases e
   exact Lts.nil
  ·exact(ih j hj g eg).app (Lts.nil.cons l0 l1)
theorem Hd.ltm (D:Hd many hs){h:List Int}(m:h∈hs):Lts many h:=by
 obtain⟨i,hi⟩:=List.mem_iff_getElem?.mp m
 exact D.lts i h hi
theorem ix_some {r:List Int}(m:mks T tl r∈hs.map (mks T tl)):∃(j:Nat) (g:List Int),ixM T hs tl r=(j:Int)/\hs[j]?=some g/\mks T tl g=mks T tl r:=by
 have hl:=List.idxOf_lt_length_of_mem m
 have e:=List.getElem_idxOf hl
 refine⟨(hs.map (mks T tl)).idxOf (mks T tl r),hs[(hs.map (mks T tl)).idxOf (mks T tl r)]'(by rw[List.length_map] at hl;exact hl),rfl,by simp,?_⟩
 rw[List.getElem_map] at e
 exact e
theorem nd_ix (N:Nd T hs tl){i j:Nat}{g h:List Int}(e1:hs[i]?=some g)(e2:hs[j]?=some h)(e:mks T tl g=mks T tl h):i=j:=by
 obtain⟨h1,z1⟩:=List.getElem?_eq_some_iff.mp e1
 obtain⟨h2,z2⟩:=List.getElem?_eq_some_iff.mp e2
 refine(List.getElem_inj (xs:=hs.map (mks T tl)) (h₀:=by rw[List.length_map];exact h1) (h₁:=by rw[List.length_map];exact h2) N).mp ?_
 rw[List.getElem_map,List.getElem_map,z1,z2,e]
theorem rs_len:(rsM T many hs tl).length=hs.length:=List.length_map _
theorem rs_at {i:Nat}{h:List Int}(e:hs[i]?=some h):(rsM T many hs tl)[i]?=some (rowM T many hs tl h):=by
 unfold rsM
 rw[List.getElem?_map,e]
 rfl
theorem rs_gd {i:Nat}{h:List Int}(e:hs[i]?=some h):gd (rsM T many hs tl) (i:Int)=T h:=by
 unfold gd
 rw[Int.toNat_natCast,getD_of (rs_at e)]
 rfl
theorem rs_next {i:Nat}{h:List Int}{l:Int}(e:hs[i]?=some h)(l0:0<=l)(l1:l<many):nextOf (rsM T many hs tl) (i:Int) l=ixM T hs tl (h++[l]):=by
 unfold nextOf
 rw[Int.toNat_natCast,getD_of (rs_at e)]
 unfold rowM
 exact getD_of (by rw[List.getElem?_map,lsI_at l0 l1];rfl)
theorem rs_good (D:Hd many hs)(C:Cl T many hs tl hs.length)(m0:0<=many)(m8:many<=8)(hl:hs.length<=100):Good many (rsM T many hs tl):=by
 refine⟨⟨m0,m8⟩,by rw[rs_len];exact(List.getElem?_eq_some_iff.mp D.z).1,by rw[rs_len];exact hl,fun r hr=>?_⟩
 unfold rsM at hr
 obtain⟨h,hm,rfl⟩:=List.mem_map.mp hr
 obtain⟨i,hi⟩:=List.mem_iff_getElem?.mp hm
 unfold rowM
 refine⟨by rw[List.length_map];exact lsI_len many m0,fun n hn=>?_⟩
 obtain⟨l,hl',rfl⟩:=List.mem_map.mp hn
 obtain⟨l0,l1⟩:=lsI_mem.mp hl'
 obtain⟨j,g,e1,e2,_⟩:=ix_some (C i h (List.getElem?_eq_some_iff.mp hi).1 hi l l0 l1)
 rw[e1,rs_len]
 have:=(List.getElem?_eq_some_iff.mp e2).1
 omega
theorem rs_tail (Q:Tl many tl)(C:Cl T many hs tl hs.length):∀(t:List Int) (i:Nat) (h:List Int),t∈tl->hs[i]?=some h->gd (rsM T many hs tl) (walkM (rsM T many hs tl) i t)=T (h++t)
 | [],i,h,_,e=>by
  rw[List.append_nil]
  exact rs_gd e
 |l::r,i,h,m,e=>by
  have lt:=Q.lt _ m
  obtain⟨j,g,e1,e2,e3⟩:=ix_some (C i h (List.getElem?_eq_some_iff.mp e).1 e l lt.head.1 lt.head.2)
  have mr:=Q.cl l r m
  show gd _ (walkM _ (nextOf _ _ l) r)=_
  rw[rs_next e lt.head.1 lt.head.2,e1,rs_tail Q C r j g mr e2,mks_iff.mp e3 r mr,List.append_assoc]
  rfl
theorem rs_head (D:Hd many hs)(N:Nd T hs tl)(C:Cl T many hs tl hs.length):∀(i:Nat) (h:List Int),hs[i]?=some h->walkM (rsM T many hs tl) 0 h=(i:Int):=by
 intro i
 induction i using Nat.strongRecOn with
 |_ i ih=>
  intro h e
  rcases D.up i h e with rfl|⟨j,g,l,hj,eg,rfl,l0,l1⟩
  ·rw[D.z] at e
   cases e
   rfl
  ·have e0:=ih j hj g eg
   obtain⟨k,g',e1,e2,e3⟩:=ix_some (C j g (List.getElem?_eq_some_iff.mp eg).1 eg l l0 l1)
   have:k=i:=nd_ix N e2 e e3
   subst this
   unfold walkM at e0 ⊢
   rw[List.foldl_append,e0]
   show nextOf _ _ l=_
   rw[rs_next eg l0 l1,e1]
def Cv (many:Int)(hs tl:List (List Int))(r:List Int):Prop:=∃h∈hs,∃t∈tl,r=h++t\/∃l,0<=l/\l<many/\r=h++[l]++t
theorem Cv.mono {hs' tl':List (List Int)}{r:List Int}(c:Cv many hs tl r)(h1:∀h∈hs,h∈hs')(h2:∀t∈tl,t∈tl'):Cv many hs' tl' r:=by
 obtain⟨h,a,t,b,c⟩:=c
 exact⟨h,h1 h a,t,h2 t b,c⟩
theorem Cv.lts {r:List Int}(D:Hd many hs)(Q:Tl many tl)(c:Cv many hs tl r):Lts many r:=by
 obtain⟨h,a,t,b,c⟩:=c
 rcases c with rfl|⟨l,l0,l1,rfl⟩
 ·exact(D.ltm a).app (Q.lt t b)
 ·exact((D.ltm a).app (Lts.nil.cons l0 l1)).app (Q.lt t b)
theorem rs_cov (D:Hd many hs)(Q:Tl many tl)(N:Nd T hs tl)(C:Cl T many hs tl hs.length){r:List Int}(c:Cv many hs tl r):gd (rsM T many hs tl) (walkM (rsM T many hs tl) 0 r)=T r:=by
 obtain⟨h,a,t,b,c⟩:=c
 obtain⟨i,hi⟩:=List.mem_iff_getElem?.mp a
 have e0:=rs_head D N C i h hi
 rcases c with rfl|⟨l,l0,l1,rfl⟩
 ·have:=rs_tail Q C t i h b hi
  unfold walkM at this e0 ⊢
  rw[List.foldl_append,e0]
  exact this
 ·obtain⟨j,g,e1,e2,e3⟩:=ix_some (C i h (List.getElem?_eq_some_iff.mp hi).1 hi l l0 l1)
  have:=rs_tail Q C t j g b e2
  rw[mks_iff.mp e3 t b] at this
  unfold walkM at this e0 ⊢
  rw[List.foldl_append,List.foldl_append,e0]
  show gd _ (List.foldl _ (nextOf _ _ l) t)=_
  rw[rs_next hi l0 l1,e1]
  exact this
theorem rs_size (D:Hd many hs)(Q:Tl many tl)(N:Nd T hs tl)(C:Cl T many hs tl hs.length){M:Rms}(G:Good many M)(B:Bi (rsM T many hs tl) M many 0 0):hs.length<=M.length:=by
 have gp:=G.pos
 have q:(hs.map (walkM M 0)).Nodup:=by
  have N':=N
  unfold Nd at N'
  rw[List.Nodup,List.pairwise_map] at N' ⊢
  refine(List.pairwise_iff_getElem.mpr fun i j hi hj hij z=>?_)
  have z2:=(List.pairwise_iff_getElem.mp N') i j hi hj hij
  refine z2 (mks_iff.mpr fun t ht=>?_)
  have c:∀h∈hs,T (h++t)=gd M (walkM M (walkM M 0 h) t):=fun h hm=>by
   rw[<- rs_cov D Q N C ⟨h,hm,t,ht,.inl rfl⟩,B (h++t) ((D.ltm hm).app (Q.lt t ht))]
   unfold walkM
   rw[List.foldl_append]
  rw[c _ (List.getElem_mem hi),c _ (List.getElem_mem hj),z]
 have:=nodup_le M.length _ q fun x hx=>by
  obtain⟨h,hm,rfl⟩:=List.mem_map.mp hx
  exact walk_in G h 0 (Int.le_refl 0) (by omega) (D.ltm hm)
 rwa [List.length_map] at this
theorem rs_same {tl':List (List Int)}(sub:∀t∈tl,t∈tl')(N:Nd T hs tl)(C':Cl T many hs tl' hs.length)(N':Nd T hs tl'):rsM T many hs tl=rsM T many hs tl':=by
 unfold rsM
 refine List.map_congr_left fun h hm=>?_
 obtain⟨i,hi⟩:=List.mem_iff_getElem?.mp hm
 unfold rowM
 congr 1
 refine List.map_congr_left fun l hl=>?_
 obtain⟨l0,l1⟩:=lsI_mem.mp hl
 obtain⟨j,g,e1,e2,e3⟩:=ix_some (C' i h (List.getElem?_eq_some_iff.mp hi).1 hi l l0 l1)
 have e4:mks T tl g=mks T tl (h++[l]):=mks_iff.mpr fun t ht=>mks_iff.mp e3 t (sub t ht)
 obtain⟨k,g',f1,f2,f3⟩:=ix_some (hs:=hs) (T:=T) (tl:=tl) (r:=h++[l]) (by rw[<- e4];exact List.mem_map_of_mem (List.mem_of_getElem? e2))
 rw[f1,e1,nd_ix N f2 e2 (f3.trans e4.symm)]
structure FV (T:List Int->Bool)(many:Int)(tl hs:List (List Int))(d:Nat)(h:List Int)(j:Nat):Prop where
 hd:Hd many hs
 nd:Nd T hs tl
 cl:Cl T many hs tl d
 pl:hs[d]?=some h
 cv:∀l:Int,0<=l->l<(j:Int)->mks T tl (h++[l])∈hs.map (mks T tl)
theorem FV.start {h:List Int}{d:Nat}(D:Hd many hs)(N:Nd T hs tl)(C:Cl T many hs tl d)(e:hs[d]?=some h):FV T many tl hs d h 0:=⟨D,N,C,e,fun l h0 h1=>by omega⟩
theorem FV.old {h:List Int}{d j:Nat}(F:FV T many tl hs d h j)(m:mks T tl (h++[(j:Int)])∈hs.map (mks T tl)):FV T many tl hs d h (j+1):=
 ⟨F.hd,F.nd,F.cl,F.pl,fun l h0 h1=>by
  by_cases e:l=(j:Int)
  ·rw[e];exact m
  ·exact F.cv l h0 (by omega)⟩
theorem FV.new {h:List Int}{d j:Nat}(F:FV T many tl hs d h j)(hj:(j:Int)<many)(m:mks T tl (h++[(j:Int)])∉hs.map (mks T tl)):FV T many tl (hs++[h++[(j:Int)]]) d h (j+1):=by
 have dl:=(List.getElem?_eq_some_iff.mp F.pl).1
 have zl:=(List.getElem?_eq_some_iff.mp F.hd.z).1
 refine⟨⟨by rw[List.getElem?_append_left zl];exact F.hd.z,fun i g e=>?_⟩,?_,fun i g hi e l l0 l1=>?_,by rw[List.getElem?_append_left dl];exact F.pl,fun l h0 h1=>?_⟩
 ·by_cases hi:i<hs.length
  ·rw[List.getElem?_append_left hi] at e
   rcases F.hd.up i g e with z|⟨k,g',l,hk,e1,e2,l0,l1⟩
   ·exact .inl z
   ·exact .inr ⟨k,g',l,hk,by rw[List.getElem?_append_left (by omega)];exact e1,e2,l0,l1⟩
  ·rw[List.getElem?_append_right (by omega)] at e
   have hl:=(List.getElem?_eq_some_iff.mp e).1
   rw[List.length_singleton] at hl
   have hi':i-hs.length=0:=by omega
   rw[hi'] at e
   cases e
   exact .inr ⟨d,h,j,by omega,by rw[List.getElem?_append_left dl];exact F.pl,rfl,by omega,hj⟩
 ·show((hs++[h++[(j:Int)]]).map (mks T tl)).Nodup
  rw[List.map_append,List.nodup_append]
  refine⟨F.nd,by simp,fun a ha b hb=>?_⟩
  rw[List.map_singleton,List.mem_singleton] at hb
  subst hb
  intro z
  subst z
  exact m ha
 ·rw[List.getElem?_append_left (by omega)] at e
  rw[List.map_append]
  exact List.mem_append_left _ (F.cl i g hi e l l0 l1)
 ·rw[List.map_append]
  by_cases e:l=(j:Int)
  ·rw[e]
   exact List.mem_append_right _ (by simp)
  ·exact List.mem_append_left _ (F.cv l h0 (by omega))
theorem FV.done {h:List Int}{d j:Nat}(F:FV T many tl hs d h j)(hj:many<=(j:Int)):Cl T many hs tl (d+1):=fun i g hi e l l0 l1=>by
 by_cases z:i=d
 ·subst z
  rw[F.pl] at e
  cases e
  exact F.cv l l0 (by omega)
 ·exact F.cl i g (by omega) e l l0 l1
theorem nd_more {tl':List (List Int)}(sub:∀t∈tl,t∈tl')(N:Nd T hs tl):Nd T hs tl':=by
 unfold Nd at N ⊢
 rw[List.Nodup,List.pairwise_map] at N ⊢
 exact N.imp fun {a b} h z=>h (mks_iff.mpr fun t ht=>mks_iff.mp z t (sub t ht))
def adT (tl:List (List Int))(r:List Int)(n:Nat):List (List Int):=(List.range n).foldl (fun ts i=>if r.drop i∈ts then ts else ts++[r.drop i]) tl
theorem adT_succ (tl:List (List Int))(r:List Int)(n:Nat):adT tl r (n+1)=if r.drop n∈adT tl r n then adT tl r n else adT tl r n++[r.drop n]:=by
 unfold adT
 rw[List.range_succ,List.foldl_append]
 rfl
theorem adT_mem (tl:List (List Int))(r:List Int):∀(n:Nat) (t:List Int),t∈adT tl r n↔t∈tl\/∃i,i<n/\t=r.drop i
 |0,t=>by simp[adT]
 |n+1,t=>by
  rw[adT_succ]
  have ih:=adT_mem tl r n
  have key:(t∈tl\/∃i,i<n+1/\t=r.drop i)↔(t∈adT tl r n\/t=r.drop n):=by
   rw[ih t]
   constructor
   ·rintro(h|⟨i,hi,e⟩)
    ·exact .inl (.inl h)
    ·by_cases z:i=n
     ·subst z;exact .inr e
     ·exact .inl (.inr ⟨i,by omega,e⟩)
   ·rintro((h|⟨i,hi,e⟩)|e)
    ·exact .inl h
    ·exact .inr ⟨i,by omega,e⟩
    ·exact .inr ⟨n,by omega,e⟩
  rw[key]
  split
  ·rename_i hm
   constructor
   ·exact .inl
   ·rintro(h|rfl)
    ·exact h
    ·exact hm
  ·rw[List.mem_append,List.mem_singleton]
theorem adT_len (tl:List (List Int))(r:List Int):∀n:Nat,(adT tl r n).length<=tl.length+n
 |0=>Nat.le_refl _
 |n+1=>by
  have ih:=adT_len tl r n
  rw[adT_succ]
  split
  ·omega
  ·rw[List.length_append,List.length_singleton];omega
theorem adT_tl {r:List Int}(Q:Tl many tl)(lr:Lts many r):Tl many (adT tl r r.length):=by
 refine⟨(adT_mem tl r _ []).mpr (.inl Q.z),fun l t h=>(adT_mem tl r _ t).mpr ?_,fun t h=>?_⟩
 ·rcases(adT_mem tl r _ _).mp h with h|⟨i,hi,e⟩
  ·exact .inl (Q.cl l t h)
  ·have e2:t=r.drop (i+1):=by
    rw[<- List.drop_drop,<- e]
    rfl
   by_cases z:i+1<r.length
   ·exact .inr ⟨i+1,z,e2⟩
   ·rw[List.drop_eq_nil_of_le (by omega)] at e2
    rw[e2]
    exact .inl Q.z
 ·rcases(adT_mem tl r _ _).mp h with h|⟨i,hi,e⟩
  ·exact Q.lt t h
  ·rw[e]
   exact fun x hx=>lr x (List.mem_of_mem_drop hx)
theorem adT_self {r:List Int}(Q:Tl many tl):r∈adT tl r r.length:=by
 cases r with
 |nil=>exact(adT_mem tl _ _ _).mpr (.inl Q.z)
 |cons a r=>exact(adT_mem tl _ _ _).mpr (.inr ⟨0,by simp,rfl⟩)
end
end LN
namespace HT
open PySem PySem.Spec PyProof.Rows
section
variable {prog:Program} {w:World} {A:Around} {E:Value->Shared->Prop} {s:Shared}
theorem getItem_tuple_whole {t sl:Addr}{items:Array Value}{vl vu:Value}{lo hi:Option Int}{Q:Value->Shared->Prop}(ht:IsTup s.heap t items)(hs:s.heap.IsSliceOf sl vl vu .none)(pl:IsPart vl lo)(pu:IsPart vu hi)
  (h1:sIx items.size 0 lo=0) (h2:sIx items.size items.size hi=items.size) (h:Q (.ref t) s):wpAny (model prog w) A (getItem (.ref t) (.ref sl)) Q E s:=by
 obtain⟨os,hos,hcs,hds⟩:=id hs
 have hTs:s.TypeIs (.ref sl) "slice":=⟨os,hos,hcs⟩
 unfold getItem
 try with_reducible refine wpAny_holding ?_
 first|refine wpAny_bind (wpAny_pure ?_)|skip
 refine wpAny_bind (wpAny_sequenceKey ht.typeIs (by decide) ?_)
 refine wpAny_bind (wpAny_callSpecial?_slot (name:=Str.ofString "__getitem__") ht.typeIs PyProof.Rows.slot_tuple_getitem
  (wpAny_call_entry PyProof.Rows.slot_tuple_getitem ht.typeIs entry_tuple_getitem ?_ (args_tuple_getitem _ _)))
 show wpAny _ _ (Builtin.Tuple.tupleItemsOf (.ref t) >>= _) _ _ s
 refine wpAny_bind (tupleItemsOf_ ht ?_)
 refine wpAny_bind (wpAny_typeOf hTs ?_)
 rw[if_pos (by decide)]
 refine wpAny_bind (sliceApplied_gen hs pl pu ?_)
 have hyes:(((sIx items.size 0 lo:Nat):Int)==0&&(1:Int)==1&&(sIx items.size items.size hi-sIx items.size 0 lo)==items.size)=true:=by
  rw[h1,h2]
  simp
 show wpAny _ _ (if (((sIx items.size 0 lo:Nat):Int)==0&&(1:Int)==1&&(sIx items.size items.size hi-sIx items.size 0 lo)==items.size)=true then _ else _) _ _ s
 rw[if_pos hyes]
 show wpAny _ _ (Builtin.Tuple.tupleIsExact (.ref t) >>= _) _ _ s
 refine wpAny_bind (wpAny_bind (wpAny_typeOf ht.typeIs (wpAny_pure ?_)))
 rw[if_pos (by decide)]
 refine wpAny_bind (wpAny_rule (wpAny_bind (wpAny_pure (wpAny_pure ⟨_,rfl,wpAny_pure h⟩))))
end
end HT
namespace L2
open PySem PySem.Spec PyProof.Rows
def rSlA:V->Option Int->Option Int->Hp->VK->Prop:=fun x lo hi H Q=>∃a xs,x=.ref a/\H a=some (.tup xs)/\∀p H',Same H H'->H' p=some (.tup (cutV xs lo hi))->Q (.ref p) H'
theorem sl_tupA {X:Cx}:SlR X rSlA:=by
 intro pins s σ H x v vl vu lo hi sl Q I rx hs pl pu h
 obtain⟨a,xs,rfl,hx,q⟩:=h
 by_cases hw:HT.sIx xs.length 0 lo=0/\HT.sIx xs.length xs.length hi=xs.length
 ·cases rx
  obtain⟨its,r,ht,hz⟩:=I.tuple (SqT.of hx)
  have hlen:its.toArray.size=xs.length:=by rw[List.size_toArray];exact r.length.symm
  refine⟨"tuple",_,PyProof.Rows.slot_tuple_getitem.lookup,ht.typeIs,?_⟩
  refine HT.getItem_tuple_whole ht hs pl pu (by rw[hlen];exact hw.1) (by rw[hlen];exact hw.2) ⟨.ref a,H,I,rfl,q a H (Same.refl H) ?_⟩
  have e:cutV xs lo hi=xs:=by
   unfold cutV
   rw[hw.1,hw.2,List.drop_zero,Nat.sub_zero,List.take_length]
  rw[e]
  exact hx
 ·exact sl_tup pins s σ H _ v vl vu lo hi sl Q I rx hs pl pu ⟨a,xs,rfl,SqT.of hx,hw,fun p hp=>q p _ ((Same.refl H).upd_free hp) upd_same⟩
end L2
namespace L2
open PySem PySem.Spec PyProof.Rows
structure FunD (K:W.Frag)(x qual:Str)(st:Stmt)(f:Addr)(fd:FuncData)(its:Array Value):Prop where
 ex:∃(oc:Value) (od:Option Addr) (dT:Addr) (kV doc pm:Value) (an:Option Addr) (cdv ct:Value) (osl:Array (Option Value)),
  fd=W.fnOf x qual (defArgs st) (defBody st) (defScope st) (.ref dT) kV doc pm an cdv ct/\K.lookup f=some ⟨oc,od,.func fd,osl⟩/\W.codeIn K cdv qual=true/\∃(o:Obj) (n:Nat),K.lookup dT=some o/\o.data=.seq its n
 kp:W.keepIn K (.ref f)=true
section
variable {P:Program} {w:World} {K:W.Frag} {mg:Str->Option Value} {base:Heap}
theorem FunD.binds {x qual:Str}{st:Stmt}{f:Addr}{fd:FuncData}{its:Array Value}{ps:List Str}{ds:List Value}(F:FunD K x qual st f fd its)
  (h:∀(dT:Addr) (kV doc pm:Value) (an:Option Addr) (cdv ct:Value) (us:List Value),(us++ds).length=ps.length→
   ∃k,bindArgs (W.fnOf x qual (defArgs st) (defBody st) (defScope st) (.ref dT) kV doc pm an cdv ct) ⟨us,[]⟩=seqItems? (.ref dT) >>= k/\k (some its)=pure (ps.zip (us++ds))):Binds K fd ps ds:=by
 obtain⟨oc,od,dT,kV,doc,pm,an,cdv,ct,osl,rfl,lk,hcd,o,n,ho,hs⟩:=F.ex
 intro s us X hl
 obtain⟨k,h1,h2⟩:=h dT kV doc pm an cdv ct us hl
 exact BindsTo.of_defaults rfl (X _ _ ho) hs h1 h2
theorem funD_mk {x qual:Str}{st:Stmt}{f dT:Addr}{oc dc:Value}{od an dod:Option Addr}{osl dsl:Array (Option Value)}{its:Array Value}{n:Nat}{kV doc pm cdv ct:Value}(l:K.lookup f=some ⟨oc,od,.func (W.fnOf x qual (defArgs st) (defBody st) (defScope st) (.ref dT) kV doc pm an cdv ct),osl⟩)
  (d:K.lookup dT=some ⟨dc,dod,.seq its n,dsl⟩) (c:W.codeIn K cdv qual=true) (k:W.keepIn K (.ref f)=true):FunD K x qual st f (W.fnOf x qual (defArgs st) (defBody st) (defScope st) (.ref dT) kV doc pm an cdv ct) its:=⟨⟨oc,od,dT,kV,doc,pm,an,cdv,ct,osl,rfl,l,c,_,n,d,rfl⟩,k⟩
end
end L2
namespace L2
open PySem PySem.Spec PyProof.Rows
def Itel (K:W.Frag)(a:Addr):It:=
 ⟨fun i H=>∃xs x,SqL K H a xs/\xs[i]?=some x,fun i H v H'=>∃p x,v=.ref p/\H p=none/\H'=upd H p (.tup [.int i,x])/\∀xs,SqL K H a xs->xs[i]?=some x,fun i H=>∃xs,SqL K H a xs/\xs.length<=i⟩
theorem turn_enumL {P:Program}{w:World}{K:W.Frag}{elts:List Expr}{k:Nat}{pos:Pos}(a e it:Addr)(hei:e≠it)(hae:a≠e)(hai:a≠it):
  Turn P w K (.Tuple elts k pos) (Itel K a) [e,it] e (fun i h=>(∃old,IsEnum h e it i old)/\h.IsListIter it a i) where
 mem:=by simp
 obj:=fun i h st b hb=>by
  obtain⟨⟨old,h1⟩,o,h2,h3,h4⟩:=st
  rcases List.mem_cons.mp hb with z|z
  ·subst z
   exact⟨_,h1,fun v z=>by cases z⟩
  ·have z':b=it:=by simpa using z
   subst z'
   exact⟨o,h2,fun v z=>by rw[h4] at z;cases z⟩
 keep:=fun i h h' st kk=>by
  obtain⟨⟨old,h1⟩,h2⟩:=st
  exact⟨⟨old,kk e (by simp) _ h1⟩,h2.at fun o ho=>kk it (by simp) o ho⟩
 item:=by
  intro X hP hw hK hc i pins s σ H E I hf st hg
  subst hP hw hK
  obtain⟨xs,x,hq,hx⟩:=hg
  obtain⟨its,rv,p,hz⟩:=I.list hq
  obtain⟨u,hu,ru⟩:=rv.get hx
  obtain⟨⟨old,h1⟩,h2⟩:=st
  have D:=Draws.list (prog:=X.prog) (w:=X.w) (A:=X.A.in1) (I.ok.hd hc) it a hai its.toArray
  have hlt:i<its.toArray.size:=by
   have:=(List.getElem?_eq_some_iff.mp hu).1
   simpa using this
  refine wpAny_pyNext_enum_itemD D h1 ⟨h2,p.isList⟩ hlt hei (by simp[Ne.symm hae,hei]) fun y h' tk hy ho hs' hT hsz hk=>?_
  have hyu:y=u:=by
   have e1:its.toArray[i]?=some u:=by simpa using hu
   exact Option.some.inj (hy.symm.trans e1)
  subst hyu
  refine⟨_,rfl,wpAny_letOwnedTupleGo_enum ho fun h'' he'' hsb=>?_⟩
  have helt:e<s.heap.objs.size:=Heap.lt_size h1
  have kk:∀b o,b∉[e,it]->s.heap.get? b=some o->h''.get? b=some o:=fun b o hb q=>by
   have b1:b≠e:=fun z=>hb (by simp[z])
   have b2:b≠it:=fun z=>hb (by simp[z])
   exact(hsb.2 b b1).trans (hk b o b1 b2 q)
  have hT'':h''.get? s.heap.objs.size=some { cls:=.type "tuple",data:=.seq #[.int i tk,y] }:=(hsb.2 _ (Nat.ne_of_gt helt)).trans hT
  have hno:H s.heap.objs.size=none:=I.hok.fresh (Nat.le_refl _)
  have I1:Inv X pins σ (upd H s.heap.objs.size (.tup [.int i,x])) { s with heap:=h'',toks:=tk+1 }:=by
   refine I.turnedT (ch:=[e,it]) hf kk (Nat.le_refl _) ⟨(by show 2<=sizeLine;decide),[.int i tk,y],?_,⟨_,hT'',rfl,_,rfl⟩⟩
   exact .cons ⟨tk,rfl⟩ (.cons ru .nil)
  refine⟨.ref s.heap.objs.size,_,I1,rfl,⟨_,x,rfl,hno,rfl,fun ys hy'=>by rw[I.list_inj hy' hq];exact hx⟩,⟨⟨y,?_⟩,?_⟩,fun b hb=>?_⟩
  ·simpa using he''
  ·exact hs'.1.at fun o z=>(hsb.2 it (Ne.symm hei)).trans z
  ·have hb':=(hf b hb).1
   rw[upd_ne]
   ·exact hb'
   ·intro z
    subst z
    obtain⟨ob,eb,_⟩:∃o,s.heap.get? s.heap.objs.size=some o/\True:=by
     rcases List.mem_cons.mp hb with q|q
     ·rw[q];exact⟨_,h1,trivial⟩
     ·have q':s.heap.objs.size=it:=by simpa using q
      obtain⟨o,ho',_⟩:=h2
      rw[q'];exact⟨o,ho',trivial⟩
    exact absurd (Heap.lt_size eb) (Nat.lt_irrefl _)
 done:=by
  intro X hP hw hK hc i pins s σ H E I hf st hg
  subst hP hw hK
  obtain⟨xs,hq,hx⟩:=hg
  obtain⟨its,rv,p,hz⟩:=I.list hq
  obtain⟨⟨old,h1⟩,h2⟩:=st
  have hl:=rv.length
  have hT:s.TypeIs (.ref e) "enumerate":=⟨_,h1,rfl⟩
  unfold pyNext
  refine wpAny_bind (wpAny_attempt (wpAny_callSpecial?_slot (name:=Str.ofString "__next__") hT F.slot_enumerate_next (wpAny_call_entry F.slot_enumerate_next hT F.entry_enumerate_next ?_ (F.args_enumerate_next_1 _))))
  show wpAny _ _ (field (.ref e) 2 >>= _) _ _ _
  refine wpAny_bind (wpAny_field h1 rfl (x:=.ref it) rfl ?_)
  refine wpAny_bind (wpAny_nextOf_list_end (items:=its.toArray) (by exact I.ok.hd hc) h2 p.isList (by simp;omega) fun h' x he' hx'=>?_)
  obtain⟨o,ho,hc'⟩:=hx'
  refine wpAny_bind (wpAny_isInstance (T:="StopIteration") (b:=true) ⟨o,ho,hc'⟩ isSubtype_stop ?_)
  obtain⟨f0,f1,f2,f3,f4,f5⟩:=hf it (by simp)
  exact wpAny_pure ⟨rfl,I.turned (t':=s.toks) (fun b o hb q=>he' b o hb q) f0 f1 f3 f4 f5⟩
 self:=fun A i s Q E st h=>by
  obtain⟨⟨old,h1⟩,_⟩:=st
  exact wpAny_pyIter_enum h1 h
def iEnumL (K:W.Frag)(ta:TA):TI:=fun σ H R=>ta σ H fun vs H1=>∃a,vs=[.ref a]/\(∃xs,SqL K H1 a xs)/\R (Itel K a) H1
theorem pi_enumL {X:Cx}{elts:List Expr}{k:Nat}{tpos:Pos}{a:Expr}{ta:TA}{p pos:Pos}(hg:Gl X "enumerate")(hm:X.mg "enumerate"=none)(ha:PA X [a] ta)(hs:starEach [a] X.env=[(false,eval a X.env)]:=by rfl):
  PI X (.Tuple elts k tpos) (.Call (.Name "enumerate" p) [a] [] pos) (iEnumL X.K ta):=by
 intro pins s σ H R I h
 refine Call_ (ld_blt I hg hm boot_enum (PyProof.Rows.callWith_type1 (thn (ha pos pins s σ H _ I h) fun us s1 ⟨vs,H1,I1,r1,q1⟩=>?_) hs rfl))
 obtain⟨b,e,⟨xs,hq⟩,q⟩:=q1
 subst e
 obtain⟨u,rfl,ru⟩:=r1.one
 cases ru
 obtain⟨its,rv,pl,hz⟩:=I1.list hq
 have hb:b<s1.heap.objs.size:=by
  obtain⟨o,ho,_⟩:=pl.isList
  exact Heap.lt_size ho
 refine call_enumerate_list pl.isList fun h' he hi hsz hk=>?_
 refine wpAny_pyIter_enum (s:={ s1 with heap:=h' }) he ?_
 have I2:=I1.kept (h':=h') (t':=s1.toks) hk
 refine⟨s1.heap.objs.size+1,[s1.heap.objs.size+1,s1.heap.objs.size],_,Itel X.K b,H1,rfl,I2,turn_enumL b _ _ (Nat.succ_ne_self _) (Nat.ne_of_lt (Nat.lt_succ_of_lt hb)) (Nat.ne_of_lt hb),⟨⟨_,he⟩,hi⟩,fun c hc'=>?_,q⟩
 have hle:s1.heap.objs.size<=c:=by
  rcases List.mem_cons.mp hc' with z|z
  ·rw[z]
   exact Nat.le_succ _
  ·have z':c=s1.heap.objs.size:=by simpa using z
   exact Nat.le_of_eq z'.symm
 exact I1.fpOk hle (I1.hok.fresh hle)
theorem for_enumL {K:W.Frag}{a:Addr}{xs:List V}{g:TG}{tb:TS}{D:Ends}{σ:St}{H:Hp}(Pv:Nat->St->Hp->Prop)(h0:Pv 0 σ H)(hl:∀i σ H,i<=xs.length->Pv i σ H->SqL K H a xs)
  (hs:∀i x σ H p,xs[i]?=some x->Pv i σ H->H p=none->g (.ref p) σ (upd H p (.tup [.int (i:Nat),x])) fun σ2 H2=>tb { D with nx:=Pv (i+1),ct:=Pv (i+1),bk:=D.nx } σ2 H2) (hd:∀σ H,Pv xs.length σ H->D.nx σ H):
  ∃W:Nat->Nat->St->Hp->Prop,(∃m,W 0 m σ H)/\∀i m σ H,W i m σ H→
   ((Itel K a).stop i H/\D.nx σ H)\/((Itel K a).go i H/\∃N:St->Hp->Prop,(∀σ' H',N σ' H'->∃m',m'<m/\W (i+1) m' σ' H')/\∀x H',(Itel K a).yld i H x H'->g x σ H' fun σ2 H2=>tb { D with nx:=N,ct:=N,bk:=D.nx } σ2 H2):=by
 refine⟨fun i m σ H=>m=xs.length-i/\i<=xs.length/\Pv i σ H,⟨xs.length,by simp,Nat.zero_le _,h0⟩,?_⟩
 rintro i m σ H ⟨rfl,hi,p⟩
 have q:=hl i σ H hi p
 by_cases hlt:i<xs.length
 ·refine .inr ⟨⟨xs,xs[i],q,by simp[hlt]⟩,Pv (i+1),fun σ' H' p'=>⟨xs.length-(i+1),by omega,rfl,hlt,p'⟩,fun x H' y=>?_⟩
  obtain⟨c,z,e1,e2,e3,e4⟩:=y
  subst e1 e3
  exact hs i z σ H c (e4 xs q) p e2
 ·have e:i=xs.length:=by omega
  subst e
  exact .inl ⟨⟨xs,q,Nat.le_refl _⟩,hd σ H p⟩
end L2
namespace L2
open PySem PySem.Spec PyProof.Rows
section
variable {X:Cx}
def rIdx (K:W.Frag):V->List V->Hp->VK->Prop:=fun x args H Q=>∃l xs y dx ds j,x=.ref l/\args=[y]/\SqL K H l xs/\DsAt K H xs ds/\DAt K H y dx/\DOk dx/\PyData.canLayAll0 ds=true/\(ds.findIdx? fun d=>PyData.eqv d dx)=some j/\ds.length<=10000/\Q (.int (j:Int)) H
theorem mt_index (hu:X.A.units+64<cLine):MtR X "list.index" (rIdx X.K):=by
 intro pins s σ H x xs v us Q I rx rs h
 obtain⟨l,xs,y,dx,ds,j,rfl,rfl,hl,hds,hy,okx,okd,hj,hsz,q⟩:=h
 obtain⟨u,rfl,ru⟩:=rs.one
 obtain⟨bs,r2⟩:=hy.reads I ru
 cases rx
 obtain⟨as,r1⟩:=(DAt.lst hl hds).reads I (u:=.ref l) rfl
 cases r1 with
 |list h1 h2 h3 h4=>
  rename_i o its n as1
  obtain⟨cls,dd,data,sl⟩:=o
  simp only at h2 h3
  subst h2 h3
  have hm:=SeqAt.readsAll_map ds _ _ okd h4
  obtain⟨hjl,hje,hjn⟩:=List.findIdx?_eq_some_iff_getElem.mp hj
  have hlen:its.toList.length=ds.length:=by rw[<- hm,List.length_map]
  have at_:∀(i:Nat) (h:i<its.size),PyData.eqv (SeqAt.readOf s.heap its[i]) dx=PyData.eqv (ds[i]'(by rw[<- hlen];simpa using h)) dx:=fun i h=>by
   have e:(its.toList.map (SeqAt.readOf s.heap))[i]?=ds[i]?:=by rw[hm]
   rw[List.getElem?_map,List.getElem?_eq_getElem (by simpa using h),List.getElem?_eq_getElem (by rw[<- hlen];simpa using h)] at e
   have e':=Option.some.inj e
   have:SeqAt.readOf s.heap its[i]=ds[i]'(by rw[<- hlen];simpa using h):=by simpa using e'
   rw[this]
  have hji:j<its.size:=by have:=hlen;simp at this;omega
  refine call_meets PySem.F.slot_list_index ⟨_,h1,rfl⟩ PySem.F.entry_list_index (PySem.F.args_list_index_2 _ _)
   (SeqAt.list_indexAt l its n dd sl u (fun y=>PyData.eqv (SeqAt.readOf s.heap y) dx) j hji (by omega) ?_ ?_) ⟨h1,SeqAt.items_eqAt h4 r2 okd okx.1 (in_room hu okx.2 _),?_⟩
  ·show PyData.eqv (SeqAt.readOf s.heap its[j]) dx=true
   rw[at_ j hji]
   exact hje
  ·intro m hm' hlt
   show PyData.eqv (SeqAt.readOf s.heap its[m]) dx=false
   rw[at_ m hm']
   have:=hjn m hlt
   simpa using this
  ·exact⟨.int _,H,I.tok _,⟨_,rfl⟩,q⟩
theorem pe_bmK {K:W.Frag}(hK:X.K=K){o e:Expr}{es:List Expr}{to:TE}{t:TA}{name:Str}{apos cpos:Pos}{T id:String}{r:V->List V->Hp->VK->Prop}(pa:PlainAttrs T)(slot:Slot T name id)(hty:typeOf (.builtin id)=pure (.type "method_descriptor"))(hm:MtR X id r)(ho:PE X o to)(ha:PA X (e::es) t)
  (hbase:attributeBase o name X.env (eval o X.env)=eval o X.env:=by rfl)
  (hfew:((backTo cpos (starEach (e::es) X.env)).all (fun x=>!x.1)&&(backToKw cpos (keywordEach [] X.env)).all (fun x=>x.1.isSome)
   &&decide ((e::es).length+([]:List Keyword).length+(if ([]:List Keyword).isEmpty then 0 else 1)<30))=true:=by rfl)
  (hline:(apos.endLine==cpos.line)=true:=by rfl) (hs:starEach (e::es) X.env=(false,eval e X.env)::starEach es X.env:=by rfl) (hplain:(backTo cpos (starEach es X.env)).any (·.1)=false:=by rfl):
  PE X (.Call (.Attribute o name apos) (e::es) [] cpos) (tBM K T r to t):=by subst hK;exact pe_bm pa slot hty hm ho ha hbase hfew hline hs hplain
end
end L2
namespace K22
open PySem L2 K20 K21 K60 K23
structure First (r1 r2:Rms)(many x y:Int)(run:List Int):Prop where
 lts:Lts many run
 ne:gd r1 (walkM r1 x run)≠gd r2 (walkM r2 y run)
 min:∀run',Lts many run'->gd r1 (walkM r1 x run')≠gd r2 (walkM r2 y run')->bef run' run=false
theorem bef_total:∀{a b:List Int},bef a b=false->bef b a=false->a=b:=by
 have lex:∀(a b:List Int),a.length=b.length->HT.lexLt a b=false->HT.lexLt b a=false->a=b:=by
  intro a
  induction a with
  |nil=>intro b h _ _;exact(List.length_eq_zero_iff.mp h.symm).symm
  |cons x a ih=>
   intro b h h1 h2
   cases b with
   |nil=>simp at h
   |cons y b=>
    rw[HT.lexLt_cons] at h1 h2
    by_cases e:x=y
    ·subst e
     rw[if_pos rfl] at h1 h2
     rw[ih b (by simpa using h) h1 h2]
    ·rw[if_neg e] at h1
     rw[if_neg (Ne.symm e)] at h2
     have:=of_decide_eq_false h1
     have:=of_decide_eq_false h2
     omega
 intro a b h1 h2
 unfold bef at h1 h2
 by_cases e:a.length=b.length
 ·rw[if_pos e] at h1
  rw[if_pos e.symm] at h2
  exact lex a b e h1 h2
 ·rw[if_neg e] at h1
  rw[if_neg (Ne.symm e)] at h2
  have:=of_decide_eq_false h1
  have:=of_decide_eq_false h2
  omega
theorem First.unique {r1 r2:Rms}{many x y:Int}{a b:List Int}(h:First r1 r2 many x y a)(h':First r1 r2 many x y b):a=b:=
 bef_total (h'.min a h.lts h.ne) (h.min b h'.lts h'.ne)
end K22
namespace K22
open PySem L2 K20 K21 K60 K23
abbrev EnP:=Pr×List Int
structure BI (r1 r2:Rms)(many:Int)(p0:Pr)(fs:List EnP)(d:Nat):Prop where
 hd:fs[0]?=some (p0,[])
 nd:(fs.map (·.1)).Nodup
 ok:∀e∈fs,PIn r1 r2 e.1/\(∀l∈e.2,0<=l/\l<many)/\(walkM r1 p0.1 e.2,walkM r2 p0.2 e.2)=e.1
 inc:fs.Pairwise fun a b=>bef a.2 b.2=true
 src:∀e∈fs,e.2=[]\/∃(i:Nat) (e':EnP) (l:Int),i<d/\fs[i]?=some e'/\e.2=e'.2++[l]
 cov:∀(i:Nat) (e:EnP),i<d->fs[i]?=some e->∀l:Int,0<=l->l<many->∃e'∈fs,e'.1=sc r1 r2 e.1 l/\bef (e.2++[l]) e'.2=false
 ln:∀(i:Nat) (e:EnP),fs[i]?=some e->e.2.length<=i
structure VI (r1 r2:Rms)(many:Int)(p0:Pr)(fs:List EnP)(d:Nat)(e0:EnP)(j:Nat):Prop where
 pl:fs[d]?=some e0
 hd:fs[0]?=some (p0,[])
 nd:(fs.map (·.1)).Nodup
 ok:∀e∈fs,PIn r1 r2 e.1/\(∀l∈e.2,0<=l/\l<many)/\(walkM r1 p0.1 e.2,walkM r2 p0.2 e.2)=e.1
 inc:fs.Pairwise fun a b=>bef a.2 b.2=true
 src:∀e∈fs,e.2=[]\/(∃(i:Nat) (e':EnP) (l:Int),i<d/\fs[i]?=some e'/\e.2=e'.2++[l])\/∃l:Int,l<j/\e.2=e0.2++[l]
 cov:∀(i:Nat) (e:EnP),i<d->fs[i]?=some e->∀l:Int,0<=l->l<many->∃e'∈fs,e'.1=sc r1 r2 e.1 l/\bef (e.2++[l]) e'.2=false
 cov2:∀l:Int,0<=l->l<j->∃e'∈fs,e'.1=sc r1 r2 e0.1 l/\bef (e0.2++[l]) e'.2=false
 ln:∀(i:Nat) (e:EnP),fs[i]?=some e->e.2.length<=i
theorem VI.start {r1 r2:Rms}{many:Int}{p0:Pr}{fs:List EnP}{d:Nat}{e0:EnP}(B:BI r1 r2 many p0 fs d)(h:fs[d]?=some e0):VI r1 r2 many p0 fs d e0 0:=
 ⟨h,B.hd,B.nd,B.ok,B.inc,fun e he=>(B.src e he).imp id .inl,B.cov,fun l h0 h1=>by omega,B.ln⟩
theorem VI.bound {r1 r2:Rms}{many:Int}{p0:Pr}{fs:List EnP}{d:Nat}{e0:EnP}{j:Nat}(I:VI r1 r2 many p0 fs d e0 j):∀e∈fs,bef e.2 (e0.2++[(j:Int)])=true:=fun e he=>by
 rcases I.src e he with q|⟨i,e',l,hi,hg,q⟩|⟨l,hl,q⟩
 ·rw[q]
  exact bef_nil _ _
 ·rw[q]
  refine bef_app _ _ ?_
  obtain⟨h1,g1⟩:=List.getElem?_eq_some_iff.mp hg
  obtain⟨h2,g2⟩:=List.getElem?_eq_some_iff.mp I.pl
  have:=List.pairwise_iff_getElem.mp I.inc i d h1 h2 hi
  rw[g1,g2] at this
  exact this
 ·rw[q]
  exact bef_last _ (by omega)
theorem VI.old {r1 r2:Rms}{many:Int}{p0:Pr}{fs:List EnP}{d:Nat}{e0:EnP}{j:Nat}(I:VI r1 r2 many p0 fs d e0 j)(hm:sc r1 r2 e0.1 j∈fs.map (·.1)):VI r1 r2 many p0 fs d e0 (j+1):=by
 refine⟨I.pl,I.hd,I.nd,I.ok,I.inc,fun e he=>?_,I.cov,fun l h0 h1=>?_,I.ln⟩
 ·rcases I.src e he with q|q|⟨l,hl,q⟩
  ·exact .inl q
  ·exact .inr (.inl q)
  ·exact .inr (.inr ⟨l,by omega,q⟩)
 ·by_cases hl:l<j
  ·exact I.cov2 l h0 hl
  ·have e:l=j:=by omega
   subst e
   obtain⟨e',he',q⟩:=List.mem_map.mp hm
   exact⟨e',he',q,bef_asym (I.bound e' he')⟩
theorem VI.new {r1 r2:Rms}{many:Int}{p0:Pr}{fs:List EnP}{d:Nat}{e0:EnP}{j:Nat}(G1:Good many r1)(G2:Good many r2)(I:VI r1 r2 many p0 fs d e0 j)(hj:(j:Int)<many)(hm:sc r1 r2 e0.1 j∉fs.map (·.1)):
  VI r1 r2 many p0 (fs++[(sc r1 r2 e0.1 j,e0.2++[(j:Int)])]) d e0 (j+1):=by
 have lt:∀{i:Nat} {e:EnP},fs[i]?=some e->(fs++[(sc r1 r2 e0.1 j,e0.2++[(j:Int)])])[i]?=some e:=fun {i e} h=>by
  rw[List.getElem?_append_left (List.getElem?_eq_some_iff.mp h).1]
  exact h
 have mem:∀{e:EnP},e∈fs->e∈fs++[(sc r1 r2 e0.1 j,e0.2++[(j:Int)])]:=fun h=>List.mem_append_left _ h
 have h0:=I.ok e0 (List.mem_of_getElem? I.pl)
 have dl:d<fs.length:=(List.getElem?_eq_some_iff.mp I.pl).1
 refine⟨lt I.pl,lt I.hd,?_,fun e he=>?_,?_,fun e he=>?_,fun i e hi hg l l0 l1=>?_,fun l l0 l1=>?_,fun i e hg=>?_⟩
 ·rw[List.map_append,List.nodup_append]
  refine⟨I.nd,by simp,fun a ha b hb=>?_⟩
  have:b=sc r1 r2 e0.1 j:=by simpa using hb
  subst this
  intro z
  subst z
  exact hm ha
 ·rcases List.mem_append.mp he with he|he
  ·exact I.ok e he
  ·rw[List.mem_singleton] at he
   subst he
   refine⟨⟨next_in G1 h0.1.1.1 h0.1.1.2 (by omega) hj,next_in G2 h0.1.2.1 h0.1.2.2 (by omega) hj⟩,fun l hl=>?_,?_⟩
   ·rcases List.mem_append.mp hl with hl|hl
    ·exact h0.2.1 l hl
    ·rw[List.mem_singleton] at hl
     omega
   ·have q:=h0.2.2
    show(walkM r1 p0.1 (e0.2++[(j:Int)]),walkM r2 p0.2 (e0.2++[(j:Int)]))=sc r1 r2 e0.1 j
    rw[walk_app,walk_app,<- q]
    rfl
 ·rw[List.pairwise_append]
  refine⟨I.inc,by simp,fun a ha b hb=>?_⟩
  rw[List.mem_singleton] at hb
  subst hb
  exact I.bound a ha
 ·rcases List.mem_append.mp he with he|he
  ·rcases I.src e he with q|⟨i,e',l,hi,hg,q⟩|⟨l,hl,q⟩
   ·exact .inl q
   ·exact .inr (.inl ⟨i,e',l,hi,lt hg,q⟩)
   ·exact .inr (.inr ⟨l,by omega,q⟩)
  ·rw[List.mem_singleton] at he
   subst he
   exact .inr (.inr ⟨j,by omega,rfl⟩)
 ·rw[List.getElem?_append_left (by omega)] at hg
  obtain⟨e',he',q⟩:=I.cov i e hi hg l l0 l1
  exact⟨e',mem he',q⟩
 ·by_cases hl:l<j
  ·obtain⟨e',he',q⟩:=I.cov2 l l0 hl
   exact⟨e',mem he',q⟩
  ·have e:l=j:=by omega
   subst e
   exact⟨_,List.mem_append_right _ (List.mem_singleton.mpr rfl),rfl,bef_self _⟩
 ·by_cases hlt:i<fs.length
  ·rw[List.getElem?_append_left hlt] at hg
   exact I.ln i e hg
  ·rw[List.getElem?_append_right (by omega)] at hg
   have hi:i-fs.length=0:=by
    cases g:i-fs.length with
    |zero=>rfl
    |succ n=>rw[g] at hg;simp at hg
   rw[hi] at hg
   cases hg
   have q:=I.ln d e0 I.pl
   show(e0.2++[(j:Int)]).length<=i
   rw[List.length_append,List.length_singleton]
   omega
theorem VI.done {r1 r2:Rms}{many:Int}{p0:Pr}{fs:List EnP}{d:Nat}{e0:EnP}{j:Nat}(I:VI r1 r2 many p0 fs d e0 j)(hj:(j:Int)=many):BI r1 r2 many p0 fs (d+1):=by
 refine⟨I.hd,I.nd,I.ok,I.inc,fun e he=>?_,fun i e hi hg l l0 l1=>?_,I.ln⟩
 ·rcases I.src e he with q|⟨i,e',l,hi,hg,q⟩|⟨l,hl,q⟩
  ·exact .inl q
  ·exact .inr ⟨i,e',l,by omega,hg,q⟩
  ·exact .inr ⟨d,e0,l,by omega,I.pl,q⟩
 ·by_cases h:i<d
  ·exact I.cov i e h hg l l0 l1
  ·have z:i=d:=by omega
   subst z
   rw[I.pl] at hg
   cases hg
   exact I.cov2 l l0 (by omega)
theorem BI.init {r1 r2:Rms}{many:Int}{p0:Pr}(h:PIn r1 r2 p0):BI r1 r2 many p0 [(p0,[])] 0:=by
 refine⟨rfl,by simp,fun e he=>?_,by simp,fun e he=>?_,fun i e hi=>by omega,fun i e hg=>?_⟩
 ·rw[List.mem_singleton] at he
  subst he
  exact⟨h,fun l hl=>by simp at hl,rfl⟩
 ·rw[List.mem_singleton] at he
  subst he
  exact .inl rfl
 ·cases i with
  |zero=>cases hg;exact Nat.le_refl _
  |succ i=>simp at hg
theorem lex_trans:∀(a b c:List Int),a.length=b.length->b.length=c.length->HT.lexLt a b=true->HT.lexLt b c=true->HT.lexLt a c=true
 | [],b,c,h1,h2,h,_=>by
  have:b=[]:=List.length_eq_zero_iff.mp h1.symm
  subst this
  rw[HT.lexLt_nil_nil] at h
  cases h
 |x::a,[],_,h1,_,_,_=>by simp at h1
 |x::a,y::b,[],_,h2,_,_=>by simp at h2
 |x::a,y::b,z::c,h1,h2,h,h'=>by
  rw[HT.lexLt_cons] at h h' ⊢
  by_cases e:x=y
  ·rw[if_pos e] at h
   by_cases e':y=z
   ·rw[if_pos e'] at h'
    rw[if_pos (e.trans e')]
    exact lex_trans a b c (by simpa using h1) (by simpa using h2) h h'
   ·rw[if_neg e'] at h'
    rw[if_neg (by rw[e];exact e'),e]
    exact h'
  ·rw[if_neg e] at h
   have q:=of_decide_eq_true h
   by_cases e':y=z
   ·rw[if_neg (by rw[<- e'];exact e),<- e']
    exact h
   ·rw[if_neg e'] at h'
    have q':=of_decide_eq_true h'
    rw[if_neg (by omega)]
    exact decide_eq_true (by omega)
theorem bef_trans {a b c:List Int}(h:bef a b=true)(h':bef b c=true):bef a c=true:=by
 unfold bef at h h' ⊢
 by_cases e:a.length=b.length
 ·rw[if_pos e] at h
  by_cases e':b.length=c.length
  ·rw[if_pos e'] at h'
   rw[if_pos (e.trans e')]
   exact lex_trans a b c e e' h h'
  ·rw[if_neg e'] at h'
   rw[if_neg (by omega)]
   have:=of_decide_eq_true h'
   exact decide_eq_true (by omega)
 ·rw[if_neg e] at h
  have q:=of_decide_eq_true h
  by_cases e':b.length=c.length
  ·rw[if_neg (by omega)]
   exact decide_eq_true (by omega)
  ·rw[if_neg e'] at h'
   have q':=of_decide_eq_true h'
   rw[if_neg (by omega)]
   exact decide_eq_true (by omega)
theorem bef_le_lt {a b c:List Int}(h:bef b a=false)(h':bef b c=true):bef a c=true:=by
 by_cases e:a=b
 ·rw[e];exact h'
 ·have:bef a b=true:=by
   cases q:bef a b with
   |true=>rfl
   |false=>exact absurd (bef_total q h) e
  exact bef_trans this h'
theorem bef_le_app {a b:List Int}(l:Int)(h:bef b a=false):bef (b++[l]) (a++[l])=false:=by
 by_cases e:a=b
 ·rw[e];exact bef_self _
 ·have:bef a b=true:=by
   cases q:bef a b with
   |true=>rfl
   |false=>exact absurd (bef_total q h) e
  exact bef_asym (bef_app l l this)
theorem bef_pre (r:List Int)(l:Int):bef r (r++[l])=true:=by
 unfold bef
 rw[if_neg (by simp)]
 exact decide_eq_true (by simp)
theorem bef_le_trans {a b c:List Int}(h:bef b a=false)(h':bef c b=false):bef c a=false:=by
 cases q:bef c a with
 |false=>rfl
 |true=>
  have:=bef_trans_le q h
  rw[this] at h'
  cases h'
where
 bef_trans_le {a b c:List Int} (h:bef c a=true) (h':bef b a=false):bef c b=true:=by
  by_cases e:a=b
  ·rw[<- e];exact h
  ·have:bef a b=true:=by
    cases q:bef a b with
    |true=>rfl
    |false=>exact absurd (bef_total q h') e
   exact bef_trans h this
section
variable {r1 r2:Rms} {many:Int} {p0:Pr} {fs:List EnP} {d:Nat}
theorem BI.ahead (B:BI r1 r2 many p0 fs d){e:EnP}(he:fs[d]?=some e):∀(n:Nat) (run:List Int),run.length=n->Lts many run->bef run e.2=true->∃(i:Nat) (e':EnP),i<d/\fs[i]?=some e'/\e'.1=(walkM r1 p0.1 run,walkM r2 p0.2 run)/\bef run e'.2=false:=by
 have idx:∀{e':EnP},e'∈fs->bef e'.2 e.2=true->∃i,i<d/\fs[i]?=some e':=fun {e'} hm hb=>by
  obtain⟨i,hi,q⟩:=List.getElem_of_mem hm
  have gi:fs[i]?=some e':=by rw[<- q];simp[hi]
  refine⟨i,?_,gi⟩
  obtain⟨hd,qd⟩:=List.getElem?_eq_some_iff.mp he
  refine Nat.lt_of_not_le fun hle=>?_
  by_cases ei:i=d
  ·subst ei
   rw[gi] at he
   cases he
   rw[bef_self] at hb
   cases hb
  ·have:=List.pairwise_iff_getElem.mp B.inc d i hd hi (by omega)
   rw[q,qd] at this
   rw[bef_asym this] at hb
   cases hb
 intro n
 induction n with
 |zero=>
  intro run hl _ hb
  have:run=[]:=List.length_eq_zero_iff.mp hl
  subst this
  obtain⟨i,hi,gi⟩:=idx (List.mem_of_getElem? B.hd) hb
  exact⟨i,_,hi,gi,rfl,bef_self _⟩
 |succ n ih=>
  intro run hl hr hb
  obtain⟨r,l,rfl⟩:∃r l,run=r++[l]:=by
   rcases List.eq_nil_or_concat run with z|⟨r,l,z⟩
   ·rw[z] at hl;simp at hl
   ·exact⟨r,l,by rw[z];simp⟩
  have hll:=hr l (by simp)
  have hrr:Lts many r:=fun x hx=>hr x (List.mem_append_left _ hx)
  obtain⟨i,e1,hi,g1,q1,q2⟩:=ih r (by simpa using hl) hrr (bef_trans (bef_pre r l) hb)
  obtain⟨e2,m2,c1,c2⟩:=B.cov i e1 hi g1 l hll.1 hll.2
  have nl:bef (r++[l]) e2.2=false:=bef_le_trans c2 (bef_le_app l q2)
  obtain⟨i2,hi2,g2⟩:=idx m2 (bef_le_lt nl hb)
  refine⟨i2,e2,hi2,g2,?_,nl⟩
  rw[c1,q1,walk_app,walk_app]
  rfl
theorem BI.first (B:BI r1 r2 many p0 fs d){e:EnP}(he:fs[d]?=some e)(hn:gd r1 e.1.1≠gd r2 e.1.2)(like:∀(i:Nat) (e':EnP),i<d->fs[i]?=some e'->gd r1 e'.1.1=gd r2 e'.1.2):First r1 r2 many p0.1 p0.2 e.2:=by
 have ok:=B.ok e (List.mem_of_getElem? he)
 have w1:walkM r1 p0.1 e.2=e.1.1:=congrArg Prod.fst ok.2.2
 have w2:walkM r2 p0.2 e.2=e.1.2:=congrArg Prod.snd ok.2.2
 refine⟨ok.2.1,by rw[w1,w2];exact hn,fun run' hr hd=>?_⟩
 cases q:bef run' e.2 with
 |false=>rfl
 |true=>
  obtain⟨i,e',hi,g,q1,_⟩:=B.ahead he run'.length run' rfl hr q
  have:=like i e' hi g
  rw[q1] at this
  exact absurd this hd
theorem BI.alike (B:BI r1 r2 many p0 fs d)(hd:fs.length<=d)(like:∀(i:Nat) (e':EnP),i<d->fs[i]?=some e'->gd r1 e'.1.1=gd r2 e'.1.2):Bi r1 r2 many p0.1 p0.2:=by
 have all:∀(run:List Int) (e:EnP),e∈fs->Lts many run->gd r1 (walkM r1 e.1.1 run)=gd r2 (walkM r2 e.1.2 run):=by
  intro run
  induction run with
  |nil=>
   intro e he _
   obtain⟨i,hi,q⟩:=List.getElem_of_mem he
   exact like i e (by omega) (by rw[<- q];simp[hi])
  |cons l run ih=>
   intro e he hl
   obtain⟨i,hi,q⟩:=List.getElem_of_mem he
   obtain⟨e2,m2,c1,_⟩:=B.cov i e (by omega) (by rw[<- q];simp[hi]) l hl.head.1 hl.head.2
   have:=ih e2 m2 hl.tail
   rw[c1] at this
   exact this
 exact fun run hr=>all run (p0,[]) (List.mem_of_getElem? B.hd) hr
end
end K22
namespace L2
open PySem PySem.Spec PyProof.Rows
def tDispT (ty tv:TE):TE:=fun σ H Q=>∀p,H p=none->tPairs [(ty,tv)] σ (upd H p (.dT [])) fun ps H2=>H2 p=some (.dT [])/\∃b v k,ps=[(.ref b,v)]/\H2 b=some (.tup (k.map kV))/\Q (.ref p) (upd H2 p (.dT [(k,v)]))
theorem pe_dispT {X:Cx}{ke ve:Expr}{pos:Pos}{ty tv:TE}(hu:X.A.units<cLine)(h:PE X ke ty)(hv:PE X ve tv):PE X (.Dict [some ke] [ve] pos) (tDispT ty tv):=by
 intro pins s σ H Q I q
 have hn:=I.hok.fresh (Nat.le_refl s.heap.objs.size)
 have I1:=I.laid (a:=s.heap.objs.size) (o:=.dT []) (h':=s.heap.push { cls:=.type "dict",data:=.dict #[] }) (t':=s.toks) (fun _ _ q=>Heap.get?_push_of_some _ q) (Nat.le_refl _) (dt_empty s.heap I.big)
 refine wpAny_Dict_any rfl rfl (by simp) (by simp) (thn ((pps_cons h hv pps_nil) pins _ σ _ _ I1 (q _ hn)) fun ws s2 ⟨ps,H2,I2,rel,e,b,v,k,ep,eb,q2⟩=>?_)
 subst ep
 cases rel with
 |@cons p1 w1 ps1 ws1 h1 t=>
  cases t
  obtain⟨u,r⟩:=w1
  obtain rfl:u=Value.ref b:=h1.1
  obtain⟨z,hd,xs0,r0,dd⟩:=dt_of I2.hok e
  cases r0
  unfold storeAll
  rw[List.forIn_cons]
  refine wpAny_bind (wpAny_bind (wpAny_dictSet_heap (hsz:=Nat.zero_le _) (knd:=tupleKind (mixKind X.prog X.w)) hu (key_of I2.hok eb) dd fun h' dd' hs=>wpAny_pure ?_))
  simp only[List.forIn_nil]
  refine wpAny_pure ⟨.ref s.heap.objs.size,_,?_,rfl,q2⟩
  obtain⟨o,es,ep,hq,g2,g3,g4,_,g5⟩:=dd'
  refine d_write I2 (by rw[e];exact True.intro) hs ⟨o,hq⟩ ⟨(by show 1<=sizeLine;decide),hd,[(k,b,r)],.cons ⟨rfl,?_,h1.2⟩ .nil,o,es,ep,hq,g2,g3,g4,g5⟩
  rw[upd_ne (ne_of eb e (fun z=>nomatch z))]
  exact eb
end L2
namespace L2
open PySem PySem.Spec PyProof.Rows
section
variable {X:Cx} {P:Program} {w:World}
theorem cut_drop (xs:List V)(k:Nat):cutV xs (some (k:Int)) none=xs.drop k:=by
 unfold cutV
 rw[HT.sIx_nat,HT.sIx_none]
 by_cases h:k<=xs.length
 ·rw[Nat.min_eq_left h,List.take_of_length_le (by rw[List.length_drop];omega)]
 ·rw[Nat.min_eq_right (by omega),List.drop_eq_nil_of_le (Nat.le_refl _),List.drop_eq_nil_of_le (by omega),List.take_nil]
end
end L2
namespace LN
open PySem L2 SO K20 K21 K60 K23 K24
abbrev Told:=List (Option (List Int))
theorem Ex.sub {n:Nat}{U:List Int->Prop}{a b:List (List Int)}(x:Ex n U a b){r:List Int}(h:r∈a):r∈b:=by
 obtain⟨u,rfl,_⟩:=x
 exact List.mem_append_left _ h
def Gl (T:List Int->Bool)(tl hs:List (List Int))(h:List Int):Nat->List (List Int)
 |0=>hs
 |i+1=>if mks T tl (h++[(i:Int)])∈(Gl T tl hs h i).map (mks T tl) then Gl T tl hs h i else Gl T tl hs h i++[h++[(i:Int)]]
def Gh (T:List Int->Bool)(many:Int)(tl hs:List (List Int)):Nat->List (List Int)
 |0=>hs
 |d+1=>Gl T tl (Gh T many tl hs d) ((Gh T many tl hs d).getD d []) many.toNat
def Gr (T:List Int->Bool)(many:Int)(tl hs hs':List (List Int)):Prop:=hs'=Gh T many tl hs hs'.length/\∀d,d<hs'.length->d<(Gh T many tl hs d).length
theorem Gr.unique {T:List Int->Bool}{many:Int}{tl hs a b:List (List Int)}(h1:Gr T many tl hs a)(h2:Gr T many tl hs b):a=b:=by
 have q:a.length=b.length:=by
  rcases Nat.lt_trichotomy a.length b.length with z|z|z
  ·have:=h2.2 _ z
   rw[<- h1.1] at this
   omega
  ·exact z
  ·have:=h1.2 _ z
   rw[<- h2.1] at this
   omega
 rw[h1.1,h2.1,q]
def Mach (T:List Int->Bool)(many:Int)(hs tl:List (List Int))(m:Rms):Prop:=Can many m/\Good many (rsM T many hs tl)/\Bi (rsM T many hs tl) m many 0 0
theorem Mach.unique {T:List Int->Bool}{many:Int}{hs tl:List (List Int)}{a b:Rms}(h1:Mach T many hs tl a)(h2:Mach T many hs tl b):a=b:=canon h1.1 h2.1 (h1.2.2.symm.trans h2.2.2)
inductive Hi (T:List Int->Bool) (many:Int):List Rms->Told->List (List Int)->List (List Int)->Prop
 |nil:Hi T many [] [] [[]] [[]]
 |step {ms:List Rms} {ts:Told} {hs tl hs':List (List Int)} {m:Rms} {r:List Int}:Hi T many ms ts hs tl->Gr T many tl hs hs'->Mach T many hs' tl m->Hi T many (ms++[m]) (ts++[some r]) hs' (adT tl r r.length)
theorem Hi.len {T:List Int->Bool}{many:Int}{ms:List Rms}{ts:Told}{hs tl:List (List Int)}(h:Hi T many ms ts hs tl):ms.length=ts.length:=by
 induction h with
 |nil=>rfl
 |step _ _ _ ih=>rw[List.length_append,List.length_append,ih];rfl
def Fu (TC:Nat->Rms->Option (List Int)->Prop):Prop:=∀i m a b,TC i m a->TC i m b->a=b
def Tc2 (TC:Nat->Rms->Option (List Int)->Prop)(ms:List Rms)(ts:Told):Prop:=∀(i:Nat) (m:Rms) (o:Option (List Int)),ms[i]?=some m->ts[i]?=some o->TC i m o
theorem Tc2.snoc {TC:Nat->Rms->Option (List Int)->Prop}{ms:List Rms}{ts:Told}{m:Rms}{o:Option (List Int)}(l:ms.length=ts.length)(h:Tc2 TC (ms++[m]) (ts++[o])):Tc2 TC ms ts/\TC ms.length m o:=by
 refine⟨fun i m' o' e1 e2=>?_,h ms.length m o (by simp) (by rw[l];simp)⟩
 have h1:=(List.getElem?_eq_some_iff.mp e1).1
 have h2:=(List.getElem?_eq_some_iff.mp e2).1
 exact h i m' o' (by rw[List.getElem?_append_left h1];exact e1) (by rw[List.getElem?_append_left h2];exact e2)
theorem Tc2.add {TC:Nat->Rms->Option (List Int)->Prop}{ms:List Rms}{ts:Told}{m:Rms}{o:Option (List Int)}(l:ms.length=ts.length)(h:Tc2 TC ms ts)(g:TC ms.length m o):Tc2 TC (ms++[m]) (ts++[o]):=fun i m' o' e1 e2=>by
 by_cases hi:i<ms.length
 ·rw[List.getElem?_append_left hi] at e1
  rw[List.getElem?_append_left (by rw[<- l];exact hi)] at e2
  exact h i m' o' e1 e2
 ·have hl:=(List.getElem?_eq_some_iff.mp e1).1
  rw[List.length_append,List.length_singleton] at hl
  have hi':i-ms.length=0:=by omega
  have ei:i=ms.length:=by omega
  rw[List.getElem?_append_right (by omega),hi'] at e1
  rw[List.getElem?_append_right (by rw[<- l];omega),<- l,hi'] at e2
  cases e1
  cases e2
  rw[ei]
  exact g
theorem Hi.same {T:List Int->Bool}{many:Int}{TC:Nat->Rms->Option (List Int)->Prop}(F:Fu TC){ms1:List Rms}{ts1:Told}{hs1 tl1:List (List Int)}(h1:Hi T many ms1 ts1 hs1 tl1):
  ∀{ms2:List Rms} {ts2:Told} {hs2 tl2:List (List Int)},Hi T many ms2 ts2 hs2 tl2->ms1.length=ms2.length->Tc2 TC ms1 ts1->Tc2 TC ms2 ts2->hs1=hs2/\tl1=tl2/\ms1=ms2/\ts1=ts2:=by
 induction h1 with
 |nil=>
  intro ms2 ts2 hs2 tl2 h2 l _ _
  cases h2 with
  |nil=>exact⟨rfl,rfl,rfl,rfl⟩
  |step=>simp at l
 |@step ms ts hs tl hs' m r h g k ih=>
  intro ms2 ts2 hs2 tl2 h2 l c1 c2
  cases h2 with
  |nil=>simp at l
  |@step ms' ts' hsb tlb hsc m' r' h' g' k'=>
   rw[List.length_append,List.length_append,List.length_singleton,List.length_singleton] at l
   obtain⟨d1,e1⟩:=c1.snoc h.len
   obtain⟨d2,e2⟩:=c2.snoc h'.len
   obtain⟨rfl,rfl,rfl,rfl⟩:=ih h' (by omega) d1 d2
   have eh:=g.unique g'
   subst eh
   have em:=k.unique k'
   subst em
   have er:=F _ _ _ _ e1 e2
   cases er
   exact⟨rfl,rfl,rfl,rfl⟩
theorem Hi.cut {T:List Int->Bool}{many:Int}{ms:List Rms}{ts:Told}{hs tl:List (List Int)}(h:Hi T many ms ts hs tl):∀n,n<ms.length->∃ms0 ts0 hs0 tl0 hs1 m r,Hi T many ms0 ts0 hs0 tl0/\ms0.length=n/\Gr T many tl0 hs0 hs1/\Mach T many hs1 tl0 m/\(∀TC,Tc2 TC ms ts->Tc2 TC ms0 ts0/\TC n m (some r)):=by
 induction h with
 |nil=>intro n hn;simp at hn
 |@step ms ts hs tl hs' m r h g k ih=>
  intro n hn
  rw[List.length_append,List.length_singleton] at hn
  by_cases e:n=ms.length
  ·refine⟨ms,ts,hs,tl,hs',m,r,h,e.symm,g,k,fun TC c=>?_⟩
   rw[e]
   exact c.snoc h.len
  ·obtain⟨ms0,ts0,hs0,tl0,hs1,m',r',a1,a2,a3,a4,a5⟩:=ih n (by omega)
   exact⟨ms0,ts0,hs0,tl0,hs1,m',r',a1,a2,a3,a4,fun TC c=>a5 TC (c.snoc h.len).1⟩
structure Fin (T:List Int->Bool)(many:Int)(as:List (List Int))(ms:List Rms)(m:Rms)(ts:Told):Prop where
 nd:as.Nodup
 ex:∃hs tl hs',Hi T many ms ts hs tl/\Gr T many tl hs hs'/\Mach T many hs' tl m/\∀r,r∈as↔Cv many hs' tl r
theorem nd_len {α:Type}[DecidableEq α]{a b:List α}(h1:a.Nodup)(h2:b.Nodup)(h:∀x,x∈a↔x∈b):a.length=b.length:=
 Nat.le_antisymm (nd_sub' a b h1 fun x hx=>(h x).mp hx) (nd_sub' b a h2 fun x hx=>(h x).mpr hx)
where nd_sub':∀(b c:List α),b.Nodup->(∀x∈b,x∈c)->b.length<=c.length
 | [],_,_,_=>Nat.zero_le _
 |x::b,c,nd,h=>by
  obtain⟨n1,n2⟩:=List.nodup_cons.mp nd
  have hx:=h x List.mem_cons_self
  have ih:=nd_sub' b (c.erase x) n2 fun y hy=>(List.mem_erase_of_ne (fun e=>n1 (by rw[<- e];exact hy))).mpr (h y (List.mem_cons_of_mem _ hy))
  rw[List.length_erase_of_mem hx] at ih
  have:=List.length_pos_of_mem hx
  rw[List.length_cons]
  omega
theorem Fin.same {T:List Int->Bool}{many:Int}{TC:Nat->Rms->Option (List Int)->Prop}(F:Fu TC){as1 as2:List (List Int)}{ms1 ms2:List Rms}{m1 m2:Rms}{ts1 ts2:Told}(h1:Fin T many as1 ms1 m1 ts1)(h2:Fin T many as2 ms2 m2 ts2)
  (c1:Tc2 TC (ms1++[m1]) (ts1++[none])) (c2:Tc2 TC (ms2++[m2]) (ts2++[none])):as1.length=as2.length:=by
 obtain⟨n1,hs,tl,hs',H1,G1,M1,A1⟩:=h1
 obtain⟨n2,hsb,tlb,hsb',H2,G2,M2,A2⟩:=h2
 obtain⟨d1,e1⟩:=c1.snoc H1.len
 obtain⟨d2,e2⟩:=c2.snoc H2.len
 rcases Nat.lt_trichotomy ms1.length ms2.length with z|z|z
 ·obtain⟨ms0,ts0,hs0,tl0,hsx,m,r,b1,b2,b3,b4,b5⟩:=H2.cut _ z
  obtain⟨f1,f2⟩:=b5 TC d2
  obtain⟨rfl,rfl,rfl,rfl⟩:=H1.same F b1 b2.symm d1 f1
  have eh:=G1.unique b3
  subst eh
  have em:=M1.unique b4
  subst em
  have:=F _ _ _ _ e1 f2
  cases this
 ·obtain⟨rfl,rfl,rfl,rfl⟩:=H1.same F H2 z d1 d2
  have eh:=G1.unique G2
  subst eh
  exact nd_len n1 n2 fun x=>(A1 x).trans (A2 x).symm
 ·obtain⟨ms0,ts0,hs0,tl0,hsx,m,r,b1,b2,b3,b4,b5⟩:=H1.cut _ z
  obtain⟨f1,f2⟩:=b5 TC d1
  obtain⟨rfl,rfl,rfl,rfl⟩:=H2.same F b1 b2.symm d2 f1
  have eh:=G2.unique b3
  subst eh
  have em:=M2.unique b4
  subst em
  have:=F _ _ _ _ e2 f2
  cases this
end LN
namespace L2
open PySem PySem.Spec PyProof.Rows
theorem below_go (xs:Array Nat)(j:Nat)(hr:xs.toList.Pairwise (· < ·)):∀(fuel lo hi:Nat),lo<=hi->hi<=xs.size->hi-lo<=fuel->(∀i x,i<lo->xs[i]?=some x->x<j)->(∀i x,hi<=i->xs[i]?=some x->j<=x)→
  SetTable.below.go xs j fuel lo hi<=xs.size/\(∀i x,i<SetTable.below.go xs j fuel lo hi->xs[i]?=some x->x<j)/\∀i x,SetTable.below.go xs j fuel lo hi<=i->xs[i]?=some x->j<=x:=by
 have up:∀{i k x y:Nat},i<=k->xs[i]?=some x->xs[k]?=some y->x<=y:=fun {i k x y} h hx hy=>by
  by_cases e:i=k
  ·subst e
   rw[hx] at hy
   cases hy
   exact Nat.le_refl _
  ·obtain⟨h1,g1⟩:=Array.getElem?_eq_some_iff.mp hx
   obtain⟨h2,g2⟩:=Array.getElem?_eq_some_iff.mp hy
   have:=List.pairwise_iff_getElem.mp hr i k (by simpa using h1) (by simpa using h2) (by omega)
   rw[Array.getElem_toList,Array.getElem_toList,g1,g2] at this
   exact Nat.le_of_lt this
 intro fuel
 induction fuel with
 |zero=>
  intro lo hi h1 h2 h3 ha hb
  have:hi=lo:=by omega
  subst this
  unfold SetTable.below.go
  exact⟨h2,ha,hb⟩
 |succ fuel ih=>
  intro lo hi h1 h2 h3 ha hb
  unfold SetTable.below.go
  by_cases hl:lo<hi
  ·rw[if_pos hl]
   dsimp only
   have hm:(lo+hi) / 2<xs.size:=by omega
   obtain⟨x,hx⟩:∃x,xs[(lo+hi) / 2]?=some x:=⟨xs[(lo+hi) / 2],by simp[hm]⟩
   have eg:xs.getD ((lo+hi) / 2) j=x:=by simp[Array.getD_eq_getD_getElem?,hx]
   rw[eg]
   by_cases hc:x<j
   ·rw[if_pos hc]
    refine ih _ _ (by omega) h2 (by omega) (fun i y hi' hy=>?_) hb
    exact Nat.lt_of_le_of_lt (up (by omega) hy hx) hc
   ·rw[if_neg hc]
    refine ih _ _ (by omega) (by omega) (by omega) ha fun i y hi' hy=>?_
    exact Nat.le_trans (Nat.le_of_not_lt hc) (up hi' hx hy)
  ·rw[if_neg hl]
   have:hi=lo:=by omega
   subst this
   exact⟨h2,ha,hb⟩
theorem below_ok (xs:Array Nat)(j:Nat)(hr:xs.toList.Pairwise (· < ·)):SetTable.below xs j<=xs.size/\(∀i x,i<SetTable.below xs j->xs[i]?=some x->x<j)/\∀i x,SetTable.below xs j<=i->xs[i]?=some x->j<=x:=
 below_go xs j hr xs.size 0 xs.size (Nat.zero_le _) (Nat.le_refl _) (by omega) (fun i x h=>by omega) (fun i x h e=>by
  have:=(Array.getElem?_eq_some_iff.mp e).1
  omega)
theorem put_rise {xs:Array Nat}{j:Nat}(hr:xs.toList.Pairwise (· < ·))(hn:xs[SetTable.below xs j]?≠some j):(SetTable.insertAt xs (SetTable.below xs j) j).toList.Pairwise (· < ·):=by
 obtain⟨h1,h2,h3⟩:=below_ok xs j hr
 rw[SetTable.toList_insertAt]
 generalize hp:SetTable.below xs j=p at *
 rw[List.pairwise_append,List.pairwise_cons]
 refine⟨hr.sublist (List.take_sublist _ _),⟨fun y hy=>?_,hr.sublist (List.drop_sublist _ _)⟩,fun x hx y hy=>?_⟩
 ·obtain⟨i,hi⟩:=List.getElem?_of_mem hy
  rw[List.getElem?_drop,Array.getElem?_toList] at hi
  have hle:=h3 _ _ (Nat.le_add_right p i) hi
  by_cases e:j=y
  ·subst e
   exfalso
   have hps:p<xs.size:=by
    have:=(Array.getElem?_eq_some_iff.mp hi).1
    omega
   obtain⟨z,hz⟩:∃z,xs[p]?=some z:=⟨xs[p],by simp[hps]⟩
   have hz1:=h3 p z (Nat.le_refl _) hz
   by_cases e0:i=0
   ·subst e0
    exact hn hi
   ·obtain⟨g1,k1⟩:=Array.getElem?_eq_some_iff.mp hz
    obtain⟨g2,k2⟩:=Array.getElem?_eq_some_iff.mp hi
    have:=List.pairwise_iff_getElem.mp hr p (p+i) (by simpa using g1) (by simpa using g2) (by omega)
    rw[Array.getElem_toList,Array.getElem_toList,k1,k2] at this
    omega
  ·omega
 ·obtain⟨i,hi⟩:=List.getElem?_of_mem hx
  have hil:=(List.getElem?_eq_some_iff.mp hi).1
  rw[List.length_take] at hil
  rw[List.getElem?_take_of_lt (by omega),Array.getElem?_toList] at hi
  have hlt:=h2 i x (by omega) hi
  rcases List.mem_cons.mp hy with e|hy
  ·subst e
   exact hlt
  ·obtain⟨k,hk⟩:=List.getElem?_of_mem hy
   rw[List.getElem?_drop,Array.getElem?_toList] at hk
   have:=h3 _ _ (Nat.le_add_right p k) hk
   omega
structure Rise (t:SetTable):Prop where
 pl:t.place.toList.Pairwise (· < ·)
 du:t.dummies=#[]
theorem has_nil (j:Nat):SetTable.has #[] j=false:=by
 unfold SetTable.has
 simp
theorem slot_free {t:SetTable}(h:t.dummies=#[])(j:Nat):(t.slot j=.empty/\t.place[SetTable.below t.place j]?≠some j)\/∃i,t.slot j=.live i:=by
 unfold SetTable.slot
 dsimp only
 by_cases e:t.place[SetTable.below t.place j]?=some j
 ·rw[if_pos (by rw[e];simp)]
  exact .inr ⟨_,rfl⟩
 ·rw[if_neg (by simpa using e),h,has_nil]
  exact .inl ⟨rfl,e⟩
theorem laid_rise {mask fi mo:Nat}{led plain:Bool}{hs:Array Int}{t:SetTable}{o:Array Nat}(e:SetTable.laid mask fi mo led plain hs=some (t,o)):Rise t/\t.led=led:=by
 unfold SetTable.laid at e
 cases ho:SetTable.layClean mask hs with
 |none=>rw[ho] at e;cases e
 |some owner=>
  rw[ho] at e
  cases e
  refine⟨⟨?_,rfl⟩,rfl⟩
  show((((List.range (mask+1)).filterMap fun j=>(owner.getD j none).map (j,·)).map (·.1)).toArray).toList.Pairwise (· < ·)
  rw[List.map_filterMap]
  have q:∀l:List Nat,List.Sublist (l.filterMap fun j=>((owner.getD j none).map (j,·)).map (·.1)) l:=fun l=>by
   induction l with
   |nil=>exact .slnil
   |cons a l ih=>
    rw[List.filterMap_cons]
    cases hz:owner.getD a none with
    |none=>exact ih.cons a
    |some v=>exact ih.cons_cons a
  exact List.pairwise_lt_range.sublist (q _)
end L2
namespace L2
open PySem PySem.Spec PyProof.Rows
namespace ST
def S5:Nat->Nat
 |0=>0
 |n+1=>5*S5 n+1
theorem pow5:∀n:Nat,5 ^ n=4*S5 n+1
 |0=>rfl
 |n+1=>by rw[Nat.pow_succ,pow5 n,S5];omega
theorem s5_add (a:Nat):∀b:Nat,S5 (a+b)=5 ^ b*S5 a+S5 b
 |0=>by simp[S5]
 |b+1=>by
  rw[<- Nat.add_assoc,S5,s5_add a b,S5,Nat.pow_succ]
  have:5 ^ b*5*S5 a=5*(5 ^ b*S5 a):=by rw[Nat.mul_comm (5 ^ b) 5,Nat.mul_assoc]
  omega
theorem s5_two:∀k:Nat,∃o,S5 (2 ^ k)=2 ^ k*o/\o%2=1
 |0=>⟨1,rfl,rfl⟩
 |k+1=>by
  obtain⟨o,e,ho⟩:=s5_two k
  have h:S5 (2 ^ (k+1))=S5 (2 ^ k)*(5 ^ (2 ^ k)+1):=by
   rw[Nat.pow_succ,Nat.mul_two,s5_add,Nat.mul_add,Nat.mul_comm (5 ^ 2 ^ k)]
   omega
  refine⟨o*(2*S5 (2 ^ k)+1),?_,?_⟩
  ·rw[h,pow5,e,Nat.pow_succ]
   have:4*(2 ^ k*o)+1+1=2*(2*(2 ^ k*o)+1):=by omega
   rw[this]
   generalize 2*(2 ^ k*o)+1=z
   rw[Nat.mul_assoc (2 ^ k) 2,Nat.mul_assoc (2 ^ k),Nat.mul_left_comm o 2]
  ·rw[Nat.mul_mod,ho,show(2*S5 (2 ^ k)+1)%2=1 by omega]
theorem odd_mul {a b:Nat}(h:a%2=1)(g:b%2=1):a*b%2=1:=by rw[Nat.mul_mod,h,g]
theorem cyc:∀(k x y:Nat),∃n,n<2 ^ k/\(5 ^ n*x+S5 n)%2 ^ k=y%2 ^ k
 |0,x,y=>⟨0,by decide,by simp[Nat.mod_one]⟩
 |k+1,x,y=>by
  obtain⟨n,hn,e⟩:=cyc k x y
  obtain⟨o,es,ho⟩:=s5_two k
  have pos:0<2 ^ k:=Nat.two_pow_pos k
  have up:2 ^ (k+1)=2 ^ k*2:=Nat.pow_succ _ _
  have h5:5 ^ n%2=1:=by rw[pow5];omega
  have hu:5 ^ n*o*(4*x+1)%2=1:=odd_mul (odd_mul h5 ho) (by omega)
  have hB:5 ^ (n+2 ^ k)*x+S5 (n+2 ^ k)=(5 ^ n*x+S5 n)+2 ^ k*(5 ^ n*o*(4*x+1)):=by
   rw[Nat.add_comm n,s5_add,Nat.add_comm (2 ^ k),Nat.pow_add,pow5 (2 ^ k),es]
   have a1:5 ^ n*(4*(2 ^ k*o)+1)*x=5 ^ n*x+5 ^ n*(4*(2 ^ k*o))*x:=by
    rw[Nat.mul_add,Nat.add_mul,Nat.mul_one,Nat.add_comm]
   have a2:2 ^ k*(5 ^ n*o*(4*x+1))=5 ^ n*(4*(2 ^ k*o))*x+5 ^ n*(2 ^ k*o):=by
    rw[Nat.mul_add,Nat.mul_one,Nat.mul_add]
    have b1:2 ^ k*(5 ^ n*o*(4*x))=5 ^ n*(4*(2 ^ k*o))*x:=by
     simp only[Nat.mul_comm,Nat.mul_left_comm,Nat.mul_assoc]
    have b2:2 ^ k*(5 ^ n*o)=5 ^ n*(2 ^ k*o):=Nat.mul_left_comm _ _ _
    rw[b1,b2]
   rw[a1,a2]
   omega
  generalize hA:5 ^ n*x+S5 n=A at e hB
  generalize 5 ^ n*o*(4*x+1)=u at hu hB
  by_cases hp:A / 2 ^ k%2=y / 2 ^ k%2
  ·refine⟨n,by omega,?_⟩
   rw[up,Nat.mod_mul,Nat.mod_mul,hA,e,hp]
  ·refine⟨n+2 ^ k,by omega,?_⟩
   rw[up,Nat.mod_mul,Nat.mod_mul,hB,Nat.add_mul_mod_self_left,Nat.add_mul_div_left _ _ pos,e]
   have:(A / 2 ^ k+u)%2=y / 2 ^ k%2:=by omega
   rw[this]
def lp (mask:Nat)(i p:Nat):Nat->Nat×Nat
 |0=>(i,p)
 |n+1=>SetTable.leap mask (lp mask i p n).1 (lp mask i p n).2
theorem lp_p {mask i p:Nat}:∀n:Nat,(lp mask i p n).2=p / 32 ^ n
 |0=>by simp[lp]
 |n+1=>by
  rw[lp]
  show(lp mask i p n).2 / 32=_
  rw[lp_p n,Nat.div_div_eq_div_mul,Nat.pow_succ]
theorem lp_lt {mask i p:Nat}(h:i<=mask):∀n:Nat,(lp mask i p n).1<=mask
 |0=>h
 |n+1=>by
  rw[lp]
  exact Nat.le_of_lt_succ (Nat.mod_lt _ (Nat.succ_pos _))
theorem lp_all {k mask i p:Nat}(hm:mask+1=2 ^ k)(hi:i<=mask)(hp:p<2 ^ 64){e:Nat}(he:e<=mask):∃n,n<=mask+13/\(lp mask i p n).1=e:=by
 have hz:∀n,(lp mask i p (13+n)).2=0:=fun n=>by
  rw[lp_p]
  refine Nat.div_eq_of_lt (Nat.lt_of_lt_of_le hp ?_)
  calc 2 ^ 64<=32 ^ 13:=by decide
   _<=32 ^ (13+n):=Nat.pow_le_pow_right (by decide) (by omega)
 have hf:∀n,(lp mask i p (13+n)).1=(5 ^ n*(lp mask i p 13).1+S5 n)%(mask+1):=fun n=>by
  induction n with
  |zero=>
   have:=lp_lt (p:=p) hi 13
   show(lp mask i p 13).1=_
   rw[show 5 ^ 0*(lp mask i p 13).1+S5 0=(lp mask i p 13).1 by simp[S5],Nat.mod_eq_of_lt (by omega)]
  |succ n ih=>
   rw[<- Nat.add_assoc,lp]
   show((lp mask i p (13+n)).1*5+1+(lp mask i p (13+n)).2 / 32)%(mask+1)=_
   rw[hz n,ih,Nat.zero_div,Nat.add_zero,S5,Nat.pow_succ]
   generalize (lp mask i p 13).1=x
   rw[Nat.add_mod,Nat.mul_mod,Nat.mod_mod,<- Nat.mul_mod,<- Nat.add_mod]
   congr 1
   rw[Nat.add_mul,Nat.mul_assoc (5 ^ n) 5 x,Nat.mul_left_comm (5 ^ n) 5 x,Nat.mul_comm (5 ^ n*x) 5]
   omega
 obtain⟨n,hn,en⟩:=cyc k (lp mask i p 13).1 e
 refine⟨13+n,by omega,?_⟩
 rw[hf n,hm,en,<- hm,Nat.mod_eq_of_lt (by omega)]
def Pa (t:SetTable)(h:Int):Nat->SetTable.Probe
 |0=>t.probeStart h
 |n+1=>t.advance (Pa t h n)
theorem adv_dummy (t:SetTable)(p:SetTable.Probe):(t.advance p).dummy=p.dummy:=by
 unfold SetTable.advance
 split
 ·rfl
 ·rfl
theorem pa_dummy (t:SetTable)(h:Int):∀n,(Pa t h n).dummy=none
 |0=>rfl
 |n+1=>by rw[Pa,adv_dummy,pa_dummy t h n]
theorem adv_more {t:SetTable}{h:Int}{n:Nat}:∀c,(Pa t h n).more=c->(Pa t h (n+c)).more=0/\(Pa t h (n+c)).i=(Pa t h n).i/\(Pa t h (n+c)).perturb=(Pa t h n).perturb:=by
 have q:∀c d,(Pa t h n).more=c+d->(Pa t h (n+c)).more=d/\(Pa t h (n+c)).i=(Pa t h n).i/\(Pa t h (n+c)).perturb=(Pa t h n).perturb:=fun c=>by
  induction c with
  |zero=>intro d hd;exact⟨by rw[Nat.add_zero];omega,rfl,rfl⟩
  |succ c ih=>
   intro d hd
   obtain⟨h1,h2,h3⟩:=ih (d+1) (by omega)
   rw[<- Nat.add_assoc,Pa]
   unfold SetTable.advance
   rw[if_pos (by omega)]
   exact⟨by show(Pa t h (n+c)).more-1=d;omega,h2,h3⟩
 intro c hc
 exact q c 0 hc
theorem runEnd_le (mask i:Nat):SetTable.runEnd mask i-i<=9:=by
 unfold SetTable.runEnd
 split<;>omega
theorem pa_lp (t:SetTable)(h:Int):∀m:Nat,∃n,n<=10*m/\(Pa t h n).j=(lp t.mask (SetTable.bits h%(t.mask+1)) (SetTable.bits h) m).1/\(Pa t h n).i=(Pa t h n).j/\(Pa t h n).perturb=(lp t.mask (SetTable.bits h%(t.mask+1)) (SetTable.bits h) m).2/\(Pa t h n).more=SetTable.runEnd t.mask (Pa t h n).i-(Pa t h n).i
 |0=>⟨0,Nat.le_refl _,rfl,rfl,rfl,rfl⟩
 |m+1=>by
  obtain⟨n,hn,h1,h2,h3,h4⟩:=pa_lp t h m
  obtain⟨g1,g2,g3⟩:=adv_more _ h4
  have b:=runEnd_le t.mask (Pa t h n).i
  generalize SetTable.runEnd t.mask (Pa t h n).i-(Pa t h n).i=c at g1 g2 g3 b
  refine⟨n+c+1,by omega,?_⟩
  rw[Pa]
  unfold SetTable.advance
  rw[if_neg (by omega),lp,g2,g3,h3,h2,h1]
  exact⟨rfl,rfl,rfl,rfl⟩
theorem bits_lt (h:Int):SetTable.bits h<2 ^ 64:=by
 unfold SetTable.bits
 omega
theorem pa_all {t:SetTable}{k:Nat}(hm:t.mask+1=2 ^ k)(h:Int){e:Nat}(he:e<=t.mask):∃n,n<=10*(t.mask+13)/\(Pa t h n).j=e:=by
 obtain⟨m,m1,m2⟩:=lp_all hm (i:=SetTable.bits h%(t.mask+1)) (Nat.le_of_lt_succ (Nat.mod_lt _ (Nat.succ_pos _))) (bits_lt h) he
 obtain⟨n,n1,n2,_⟩:=pa_lp t h m
 exact⟨n,Nat.le_trans n1 (Nat.mul_le_mul_left _ m1),n2.trans m2⟩
theorem go_ok {t:SetTable}(du:t.dummies=#[]){f:Nat->Int}{h:Int}{N:Nat}(hN:t.slot (Pa t h N).j=.empty):∀(fuel n:Nat),n<=N->N-n<fuel→
  (∃j,t.slot j=.empty/\SetTable.probe.go t f h fuel (Pa t h n)=some (.empty j none))\/∃m i,n<=m/\m<N/\t.slot (Pa t h m).j=.live i/\SetTable.probe.go t f h fuel (Pa t h n)=some (.candidate (Pa t h m).j i (Pa t h (m+1)))
 |0,n,_,hf=>by omega
 |fuel+1,n,hn,hf=>by
  rw[SetTable.probe.go]
  rcases slot_free du (Pa t h n).j with⟨e1,_⟩|⟨i,e1⟩
  ·rw[e1]
   dsimp only
   rw[pa_dummy]
   exact .inl ⟨_,e1,rfl⟩
  ·have hlt:n<N:=by
    rcases Nat.lt_or_eq_of_le hn with z|z
    ·exact z
    ·rw[z,hN] at e1;cases e1
   rw[e1]
   dsimp only
   by_cases q:(f i==h)=true
   ·rw[if_pos q]
    exact .inr ⟨n,i,Nat.le_refl _,hlt,e1,rfl⟩
   ·rw[if_neg q]
    rcases go_ok du (f:=f) hN fuel (n+1) hlt (by omega) with⟨j,h1,h2⟩|⟨m,i',h1,h2,h3,h4⟩
    ·exact .inl ⟨j,h1,h2⟩
    ·exact .inr ⟨m,i',by omega,h2,h3,h4⟩
theorem sub_len:∀(l l':List Nat),l.Nodup->(∀x∈l,x∈l')->l.length<=l'.length
 | [],l',_,_=>Nat.zero_le _
 |a::l,l',nd,hs=>by
  rw[List.nodup_cons] at nd
  have ha:a∈l':=hs a List.mem_cons_self
  have:=sub_len l (l'.erase a) nd.2 fun x hx=>by
   have hne:x≠a:=fun z=>nd.1 (by rw[<- z];exact hx)
   exact(List.mem_erase_of_ne hne).mpr (hs x (List.mem_cons_of_mem _ hx))
  rw[List.length_erase_of_mem ha] at this
  have:0<l'.length:=List.length_pos_of_mem ha
  rw[List.length_cons]
  omega
theorem slot_live {t:SetTable}{j i:Nat}(h:t.slot j=.live i):t.place[i]?=some j:=by
 unfold SetTable.slot at h
 dsimp only at h
 by_cases e:t.place[SetTable.below t.place j]?=some j
 ·rw[if_pos (by rw[e];simp)] at h
  cases h
  exact e
 ·rw[if_neg (by simpa using e)] at h
  split at h<;>cases h
theorem empty_at {t:SetTable}(du:t.dummies=#[])(hs:t.place.size<=t.mask):∃e,e<=t.mask/\t.slot e=.empty:=by
 refine Classical.byContradiction fun hc=>?_
 have hall:∀x∈List.range (t.mask+1),x∈t.place.toList:=fun x hx=>by
  rw[List.mem_range] at hx
  rcases slot_free du x with⟨e1,_⟩|⟨i,e1⟩
  ·exact absurd ⟨x,by omega,e1⟩ hc
  ·have:=slot_live e1
   exact Array.mem_toList_iff.mpr (Array.mem_of_getElem? this)
 have:=sub_len _ _ List.nodup_range hall
 rw[List.length_range,Array.length_toList] at this
 omega
end ST
end L2
namespace L2
open PySem PySem.Spec PyProof.Rows
namespace ST
theorem free_ok {k mask:Nat}(hm:mask+1=2 ^ k){owner:Array (Option Nat)}(hs:owner.size=mask+1){i p:Nat}(hi:i<=mask)(hp:p<2 ^ 64){e:Nat}(he:e<=mask)(hn:owner[e]?=some none):
  ∃j,SetTable.layClean.free mask owner (SetTable.turns mask) i p=some j/\owner[j]?=some none:=by
 obtain⟨m,m1,m2⟩:=lp_all hm hi hp he
 have q:∀(d n fuel:Nat),n+d=m->d<fuel->∃j,SetTable.layClean.free mask owner fuel (lp mask i p n).1 (lp mask i p n).2=some j/\owner[j]?=some none:=fun d=>by
  induction d with
  |zero=>
   intro n fuel hd hf
   obtain⟨f,rfl⟩:∃f,fuel=f+1:=⟨fuel-1,by omega⟩
   rw[SetTable.layClean.free]
   cases hq:(List.range (SetTable.runEnd mask (lp mask i p n).1+1-(lp mask i p n).1)).find? fun k=>(owner.getD ((lp mask i p n).1+k) (some 0)).isNone with
   |some c=>
    have:=List.find?_some hq
    refine⟨_,rfl,?_⟩
    rw[Array.getD_eq_getD_getElem?] at this
    cases h:owner[(lp mask i p n).1+c]? with
    |none=>rw[h] at this;cases this
    |some v=>
     rw[h] at this
     cases v with
     |none=>rfl
     |some _=>cases this
   |none=>
    exfalso
    rw[List.find?_eq_none] at hq
    have h0:0∈List.range (SetTable.runEnd mask (lp mask i p n).1+1-(lp mask i p n).1):=by
     rw[List.mem_range]
     unfold SetTable.runEnd
     split<;>omega
    have h1:=hq 0 h0
    rw[Nat.add_zero,show n=m by omega,m2,Array.getD_eq_getD_getElem?,hn] at h1
    exact h1 rfl
  |succ d ih=>
   intro n fuel hd hf
   obtain⟨f,rfl⟩:∃f,fuel=f+1:=⟨fuel-1,by omega⟩
   rw[SetTable.layClean.free]
   cases hq:(List.range (SetTable.runEnd mask (lp mask i p n).1+1-(lp mask i p n).1)).find? fun k=>(owner.getD ((lp mask i p n).1+k) (some 0)).isNone with
   |some c=>
    have:=List.find?_some hq
    refine⟨_,rfl,?_⟩
    rw[Array.getD_eq_getD_getElem?] at this
    cases h:owner[(lp mask i p n).1+c]? with
    |none=>rw[h] at this;cases this
    |some v=>
     rw[h] at this
     cases v with
     |none=>rfl
     |some _=>cases this
   |none=>exact ih (n+1) f (by omega) (by omega)
 exact q m 0 _ (by omega) (by unfold SetTable.turns;omega)
def cnt (m:Nat)(f:Nat->Bool):Nat:=(List.range m).countP f
theorem cnt_put {f g:Nat->Bool}{j:Nat}(hf:f j=false)(hg:g j=true)(h:∀i,i≠j->g i=f i):∀m,cnt m g=cnt m f+(if j<m then 1 else 0)
 |0=>rfl
 |m+1=>by
  have ih:=cnt_put hf hg h m
  unfold cnt at ih ⊢
  rw[List.range_succ,List.countP_append,List.countP_append,ih,List.countP_singleton,List.countP_singleton]
  by_cases e:m=j
  ·subst e
   simp[hf,hg]
  ·rw[h m e]
   by_cases l:j<m
   ·simp only[if_pos l,if_pos (show j<m+1 by omega)];omega
   ·simp only[if_neg l,if_neg (show ¬j<m+1 by omega)];omega
theorem cnt_free {f:Nat->Bool}{m:Nat}(h:cnt m f<m):∃e,e<m/\f e=false:=by
 refine Classical.byContradiction fun hc=>?_
 have:cnt m f=m:=by
  unfold cnt
  have:(List.range m).countP f=(List.range m).length:=List.countP_eq_length.mpr fun x hx=>by
   rw[List.mem_range] at hx
   cases e:f x with
   |true=>rfl
   |false=>exact absurd ⟨x,hx,e⟩ hc
  rw[this,List.length_range]
 omega
structure Ow (mask:Nat)(owner:Array (Option Nat))(r:Nat):Prop where
 sz:owner.size=mask+1
 ct:cnt (mask+1) (fun j=>(owner.getD j none).isSome)=r
 lt:∀(j k:Nat),owner[j]?=some (some k)->k<r
def stepO (mask:Nat)(acc:Option (Array (Option Nat)×Nat))(h:Int):Option (Array (Option Nat)×Nat):=do
 let (owner,k) ← acc
 let j ← SetTable.layClean.free mask owner (SetTable.turns mask) (SetTable.bits h%(mask+1)) (SetTable.bits h)
 pure (owner.setIfInBounds j (some k),k+1)
theorem ow_step {k mask:Nat}(hm:mask+1=2 ^ k){owner:Array (Option Nat)}{r:Nat}(O:Ow mask owner r)(hr:r<=mask)(h:Int):∃o',stepO mask (some (owner,r)) h=some (o',r+1)/\Ow mask o' (r+1):=by
 obtain⟨e,e1,e2⟩:=cnt_free (m:=mask+1) (f:=fun j=>(owner.getD j none).isSome) (by rw[O.ct];omega)
 have he:owner[e]?=some none:=by
  rw[Array.getElem?_eq_getElem (by rw[O.sz];exact e1)]
  have:owner.getD e none=owner[e]'(by rw[O.sz];exact e1):=by rw[Array.getD_eq_getD_getElem?,Array.getElem?_eq_getElem (by rw[O.sz];exact e1)];rfl
  rw[this] at e2
  cases h:owner[e]'(by rw[O.sz];exact e1) with
  |none=>rfl
  |some v=>rw[h] at e2;cases e2
 obtain⟨j,j1,j2⟩:=free_ok hm O.sz (i:=SetTable.bits h%(mask+1)) (Nat.le_of_lt_succ (Nat.mod_lt _ (Nat.succ_pos _))) (bits_lt h) (Nat.le_of_lt_succ e1) he
 have jl:j<mask+1:=by rw[<- O.sz];exact(Array.getElem?_eq_some_iff.mp j2).1
 refine⟨owner.setIfInBounds j (some r),?_,?_,?_,?_⟩
 ·unfold stepO
  show(SetTable.layClean.free mask owner (SetTable.turns mask) (SetTable.bits h%(mask+1)) (SetTable.bits h)).bind _=_
  rw[j1]
  rfl
 ·rw[Array.size_setIfInBounds];exact O.sz
 ·rw[cnt_put (f:=fun j=>(owner.getD j none).isSome) (j:=j),O.ct,if_pos jl]
  ·show(owner.getD j none).isSome=false
   rw[Array.getD_eq_getD_getElem?,j2]
   rfl
  ·show((owner.setIfInBounds j (some r)).getD j none).isSome=true
   rw[Array.getD_eq_getD_getElem?,Array.getElem?_setIfInBounds,if_pos rfl,if_pos (by rw[O.sz];exact jl)]
   rfl
  ·intro i hi
   show((owner.setIfInBounds j (some r)).getD i none).isSome=(owner.getD i none).isSome
   rw[Array.getD_eq_getD_getElem?,Array.getD_eq_getD_getElem?,Array.getElem?_setIfInBounds,if_neg (fun z=>hi z.symm)]
 ·intro i c hc
  rw[Array.getElem?_setIfInBounds] at hc
  split at hc
  ·split at hc
   ·cases hc;omega
   ·cases hc
  ·have:=O.lt i c hc
   omega
theorem ow_all {k mask:Nat}(hm:mask+1=2 ^ k):∀(hs:List Int) (owner:Array (Option Nat)) (r:Nat),Ow mask owner r->r+hs.length<=mask+1->∃o',hs.foldl (stepO mask) (some (owner,r))=some (o',r+hs.length)/\Ow mask o' (r+hs.length)
 | [],owner,r,O,_=>⟨owner,rfl,O⟩
 |h::hs,owner,r,O,hl=>by
  rw[List.length_cons] at hl
  obtain⟨o1,e1,O1⟩:=ow_step hm O (by omega) h
  obtain⟨o2,e2,O2⟩:=ow_all hm hs o1 (r+1) O1 (by omega)
  refine⟨o2,?_,?_⟩
  ·rw[List.foldl_cons,e1,e2,List.length_cons]
   congr 2
   omega
  ·rw[List.length_cons,show r+(hs.length+1)=r+1+hs.length by omega]
   exact O2
theorem laid_ok {k mask fi mo:Nat}(hm:mask+1=2 ^ k){led plain:Bool}{hs:Array Int}(hl:hs.size<=mask):
  ∃t o,SetTable.laid mask fi mo led plain hs=some (t,o)/\t.mask=mask/\t.place.size=hs.size/\o.size=hs.size/\∀x∈o.toList,x<hs.size:=by
 have O0:Ow mask (Array.replicate (mask+1) none) 0:=by
  refine⟨Array.size_replicate,?_,?_⟩
  ·unfold cnt
   rw[List.countP_eq_zero]
   intro x hx
   rw[Array.getD_eq_getD_getElem?,Array.getElem?_replicate]
   split<;>simp
  ·intro j k h
   rw[Array.getElem?_replicate] at h
   split at h
   ·cases h
   ·cases h
 obtain⟨ow,e,O⟩:=ow_all hm hs.toList _ 0 O0 (by rw[Array.length_toList];omega)
 rw[Array.length_toList,Nat.zero_add] at e O
 have hc:SetTable.layClean mask hs=some ow:=by
  unfold SetTable.layClean
  rw[<- Array.foldl_toList]
  show Option.map (·.1) (hs.toList.foldl (stepO mask) (some (Array.replicate (mask+1) none,0)))=some ow
  rw[e]
  rfl
 have len:((List.range (mask+1)).filterMap fun j=>(ow.getD j none).map (j,·)).length=hs.size:=by
  rw[List.length_filterMap_eq_countP,<- O.ct]
  unfold cnt
  congr 1
  funext j
  rw[Option.isSome_map]
 unfold SetTable.laid
 rw[hc]
 refine⟨_,_,rfl,rfl,?_,?_,?_⟩
 ·show((((List.range (mask+1)).filterMap fun j=>(ow.getD j none).map (j,·)).map (·.1)).toArray).size=_
  rw[List.size_toArray,List.length_map,len]
 ·show((((List.range (mask+1)).filterMap fun j=>(ow.getD j none).map (j,·)).map (·.2)).toArray).size=_
  rw[List.size_toArray,List.length_map,len]
 ·intro x hx
  have hx':x∈((List.range (mask+1)).filterMap fun j=>(ow.getD j none).map (j,·)).map (·.2):=hx
  obtain⟨⟨a,b⟩,h1,rfl⟩:=List.mem_map.mp hx'
  obtain⟨j,_,h2⟩:=List.mem_filterMap.mp h1
  obtain⟨c,h3,h4⟩:=Option.map_eq_some_iff.mp h2
  cases h4
  refine O.lt a b ?_
  rw[Array.getD_eq_getD_getElem?] at h3
  cases h:ow[a]? with
  |none=>rw[h] at h3;cases h3
  |some v=>rw[h] at h3;exact congrArg some h3
def Okm (m:Nat):Prop:=m=7\/m=31\/m=127\/m=511\/m=2047\/m=8191
theorem Okm.two {m:Nat}(h:Okm m):∃k,m+1=2 ^ k:=by
 rcases h with h|h|h|h|h|h<;>subst h
 ·exact⟨3,rfl⟩
 ·exact⟨5,rfl⟩
 ·exact⟨7,rfl⟩
 ·exact⟨9,rfl⟩
 ·exact⟨11,rfl⟩
 ·exact⟨13,rfl⟩
theorem Okm.odd {m:Nat}(h:Okm m):m%2=1:=by rcases h with h|h|h|h|h|h<;>subst h<;>rfl
theorem Okm.le {m:Nat}(h:Okm m):m<=8191:=by unfold Okm at h;omega
theorem Okm.grow {m n:Nat}(h:Okm m)(h1:n*5<m*3)(h2:m*3<=(n+1)*5)(h3:n+1<=4900):Okm (SetTable.sizeAbove (SetTable.grown (n+1))-1)/\(n+1)*5<(SetTable.sizeAbove (SetTable.grown (n+1))-1)*3/\SetTable.sizeAbove (SetTable.grown (n+1))<=8192:=by
 unfold Okm at h ⊢
 have:n=4\/n=18\/n=76\/n=306\/n=1228:=by omega
 rcases this with h|h|h|h|h<;>subst h<;>decide
end ST
end L2
namespace L2
open PySem PySem.Spec PyProof.Rows
namespace ST
section
variable {prog:Program} {w:World} {A:Around} {E:Value->Shared->Prop} {s:Shared}
theorem hbv {n:Nat}{ks:List Int}{a:Addr}{Q:Bool->Shared->Prop}(hk:IsTupleKey (numKind prog w) s.heap ks a)(h:Q true s):wpAny (model prog w) A (hashByValue (n+2) (.ref a)) Q E s:=by
 have tT:=hk.typeIs
 obtain⟨o,items,m,g,_,d,hi⟩:=hk
 unfold hashByValue
 refine wpAny_bind (wpAny_specialOf tT PySem.F.slot_tuple_hash.lookup ?_)
 show wpAny _ _ (seqItems? (.ref a) >>= _) _ _ _
 refine wpAny_bind (wpAny_seqItems g d (wpAny_bind ?_))
 show wpAny _ _ (forIn items _ _) _ _ _
 rw[<- Array.forIn_toList]
 refine wpAny_forIn_list _ (fun rest r s'=>r.1=none/\s'=s/\∃ks',ItemsAre (numKind prog w) ks' rest) _ ?_ ?_ _ _ ⟨rfl,rfl,_,hi⟩
 ·rintro v rest r s' ⟨hr,rfl,ks',al⟩
  cases al with
  |cons h1 h2=>
   have e:hashByValue (n+1) v=pure true:=by
    rcases numIs_shape h1 with⟨t,rfl⟩|⟨b,rfl,_⟩<;>rfl
   rw[e]
   refine wpAny_bind (wpAny_pure ?_)
   simp only[Bool.not_true,Bool.false_eq_true,if_false]
   exact wpAny_pure ⟨rfl,rfl,_,h2⟩
 ·rintro⟨r1,r2⟩ s' ⟨hr,rfl,_⟩
  simp only at hr
  subst hr
  exact wpAny_pure h
theorem oac {n:Nat}{ks:List Int}{a:Addr}{Q:Bool->Shared->Prop}(hk:IsTupleKey (numKind prog w) s.heap ks a)(h:Q false s):wpAny (model prog w) A (ofAClassStatement (n+1) (.ref a)) Q E s:=by
 have tT:=hk.typeIs
 obtain⟨o,items,m,g,_,d,hi⟩:=hk
 unfold ofAClassStatement
 refine wpAny_bind (wpAny_typeOf tT ?_)
 dsimp only
 rw[if_pos (by decide)]
 refine wpAny_bind (wpAny_pure ?_)
 simp only[Bool.not_true,Bool.false_eq_true,if_false]
 refine wpAny_bind (wpAny_seqItems g d ?_)
 dsimp only
 refine wpAny_bind ?_
 rw[<- Array.forIn_toList]
 refine wpAny_forIn_list _ (fun rest r s'=>r.1=none/\s'=s/\∃ks',ItemsAre (numKind prog w) ks' rest) _ ?_ ?_ _ _ ⟨rfl,rfl,_,hi⟩
 ·rintro v rest r s' ⟨hr,rfl,ks',al⟩
  cases al with
  |cons h1 h2=>
   have e:ofAClassStatement n v=pure false:=by
    rcases numIs_shape h1 with⟨t,rfl⟩|⟨b,rfl,_⟩<;>(cases n<;>rfl)
   rw[e]
   refine wpAny_bind (wpAny_pure ?_)
   simp only[Bool.false_eq_true,if_false]
   exact wpAny_pure ⟨rfl,rfl,_,h2⟩
 ·rintro⟨r1,r2⟩ s' ⟨hr,rfl,_⟩
  simp only at hr
  subst hr
  exact wpAny_pure h
theorem seen_no {x:Addr}{kx:List Int}{ys:List Value}{Q:Bool->Shared->Prop}(hx:IsTupleKey (numKind prog w) s.heap kx x)(hy:∀y∈ys,∃k b,y=.ref b/\IsTupleKey (numKind prog w) s.heap k b)(h:Q false s):wpAny (model prog w) A (searchCouldBeSeen (.ref x) ys) Q E s:=by
 unfold searchCouldBeSeen
 refine wpAny_bind ?_
 refine wpAny_forIn_list _ (fun rest r s'=>r.1=none/\s'=s/\∀y∈rest,∃k b,y=Value.ref b/\IsTupleKey (numKind prog w) s.heap k b) _ ?_ ?_ _ _ ⟨rfl,rfl,hy⟩
 ·rintro v rest r s' ⟨hr,rfl,al⟩
  obtain⟨k,b,rfl,hb⟩:=al v List.mem_cons_self
  have al':∀y∈rest,∃k b,y=Value.ref b/\IsTupleKey (numKind prog w) s'.heap k b:=fun y hy=>al y (List.mem_cons_of_mem _ hy)
  dsimp only
  split
  ·exact wpAny_pure ⟨rfl,rfl,al'⟩
  ·refine wpAny_bind (flat_quiet (n:=7) hx ?_)
   simp only[Bool.not_true,Bool.false_eq_true,if_false]
   refine wpAny_bind (flat_quiet (n:=7) hb ?_)
   simp only[Bool.not_true,Bool.false_eq_true,if_false]
   refine wpAny_bind (oac (n:=7) hx ?_)
   simp only[Bool.false_eq_true,if_false]
   refine wpAny_bind (oac (n:=7) hb ?_)
   simp only[Bool.false_eq_true,if_false]
   exact wpAny_pure ⟨rfl,rfl,al'⟩
 ·rintro⟨r1,r2⟩ s' ⟨hr,rfl,_⟩
  simp only at hr
  subst hr
  exact wpAny_pure h
end
end ST
end L2
namespace L2
open PySem PySem.Spec PyProof.Rows
namespace ST
theorem probe_cases {t:SetTable}(du:t.dummies=#[]){h:Int}{N n:Nat}(hN:t.slot (Pa t h N).j=.empty)(hn:n<=N)(hb:N<=10*(t.mask+13)){f:Nat->Int}{met:Option SetTable.Met}(e:t.probe f h (Pa t h n)=met):
  (∃j,t.slot j=.empty/\met=some (.empty j none))\/∃m i,n<=m/\m<N/\t.slot (Pa t h m).j=.live i/\met=some (.candidate (Pa t h m).j i (Pa t h (m+1))):=by
 unfold SetTable.probe at e
 rcases go_ok du (f:=f) hN (10*SetTable.turns t.mask) n hn (by unfold SetTable.turns;omega) with⟨j,h1,h2⟩|⟨m,i,h1,h2,h3,h4⟩
 ·exact .inl ⟨j,h1,e.symm.trans h2⟩
 ·exact .inr ⟨m,i,h1,h2,h3,e.symm.trans h4⟩
section
variable {prog:Program} {w:World} {A:Around} {E:Value->Shared->Prop} {s:Shared}
theorem search_ok {a x:Addr}{o:Obj}{es:Array (Int×Value)}{ep:Nat}{t:SetTable}{h:Int}{kx:List Int}(ho:s.heap.get? a=some o)(hd:o.data=.set es ep t)(hsz:t.place.size=es.size)(R:Rise t)(hm:Okm t.mask)(hfl:t.place.size<=t.mask)
  (hx:IsTupleKey (numKind prog w) s.heap kx x) (hel:∀e∈es.toList,∃k b,k≠kx/\e.2=.ref b/\IsTupleKey (numKind prog w) s.heap k b) (hu:A.units<cLine) {N:Nat} (hN:t.slot (Pa t h N).j=.empty) (hb:N<=10*(t.mask+13)) {Q:SetFound->Shared->Prop} (hQ:∀j,t.slot j=.empty->Q (.free j false) s):
  ∀(fuel n:Nat) (stand:Option SetTable.Probe),n<=N->N-n<fuel->stand.getD (t.probeStart h)=Pa t h n->wpAny (model prog w) A (setSearchFrom a (.ref x) h true fuel stand) Q E s:=by
 have hf:t.fits es.size=true:=by
  unfold SetTable.fits SetTable.fill
  rw[R.du,hsz]
  simp
  rw[<- hsz]
  exact hfl
 have gw:t.gaveWay=false:=by
  unfold SetTable.gaveWay
  rw[hm.odd]
  rfl
 intro fuel
 induction fuel with
 |zero=>intro n stand hn hlt;omega
 |succ fuel ih=>
  intro n stand hn hlt hst
  unfold setSearchFrom
  refine wpAny_bind (wpAny_setState_of ho hd hf ?_)
  dsimp only
  rw[gw,hst]
  simp only[Bool.false_eq_true,if_false]
  generalize hmet:SetTable.probe t _ h (Pa t h n)=met
  rcases probe_cases R.du hN hn hb hmet with⟨j,h1,rfl⟩|⟨m,i,h1,h2,h3,rfl⟩
  ·dsimp only
   exact wpAny_pure (hQ j h1)
  ·dsimp only
   have hi:i<es.size:=by
    rw[<- hsz]
    exact(Array.getElem?_eq_some_iff.mp (slot_live h3)).1
   have ei:es[i]?=some es[i]:=Array.getElem?_eq_getElem hi
   obtain⟨k,b,hk,eb,hb'⟩:=hel es[i] (Array.mem_toList_iff.mpr (Array.getElem_mem hi))
   generalize es[i]=e at ei eb
   obtain⟨h',y⟩:=e
   dsimp only at eb
   subst eb
   have rest:wpAny (model prog w) A (do
     let some (_,y):=es[i]? | unsupported "internal:set-entry"
     let equal ← holding [y] (eqBool y (.ref x))
     let (es',_,t') ← setState a
     if true&&equal then return SetFound.there none
     let some same:=t'.sameMemory t.moves t.mask|unsupported "set.changed-during-lookup:is-the-new-block-at-the-old-address"
     let still ← match (if same then t'.slot (Pa t h m).j else .empty) with
      |.live i'=>match es'[i']? with
       |some (_,y')=>do pure (if ← isSame y' y then some i' else none)
       |none=>pure none
      |_=>pure none
     match still with
     |none=>rule "set.search.anew";setSearchFrom a (.ref x) h true fuel none
     |some i'=>if equal then return .there (some i') else setSearchFrom a (.ref x) h true fuel (some (Pa t h (m+1)))) Q E s:=by
    rw[ei]
    dsimp only
    refine wpAny_bind (wpAny_holding (wpAny_eqBool_tuple (knd:=numKind prog w) (x:=k) (y:=kx) hu hb' hx ?_))
    rw[decide_eq_false hk]
    refine wpAny_bind (wpAny_setState_of ho hd hf ?_)
    simp only[Bool.and_false,Bool.false_eq_true,if_false]
    have sm:t.sameMemory t.moves t.mask=some true:=by
     unfold SetTable.sameMemory
     rw[if_pos (beq_self_eq_true _)]
    rw[sm]
    dsimp only
    simp only[if_true]
    rw[h3]
    dsimp only
    rw[ei]
    dsimp only
    refine wpAny_bind (wpAny_isSame_ref_self (wpAny_bind (wpAny_pure ?_)))
    simp only[if_true]
    exact ih (m+1) (some (Pa t h (m+1))) (by omega) (by omega) rfl
   cases hled:t.led with
   |true=>
    simp only[Bool.not_true,Bool.false_eq_true,if_false]
    exact rest
   |false=>
    simp only[Bool.not_false,if_true]
    refine wpAny_bind (seen_no hx (fun y hy=>?_) ?_)
    ·obtain⟨e,he,rfl⟩:=List.mem_map.mp hy
     obtain⟨k,b,_,h2,h3⟩:=hel e (Array.mem_toList_iff.mpr (Array.mem_filter.mp (Array.mem_toList_iff.mp he)).1)
     exact⟨k,b,h2,h3⟩
    ·simp only[Bool.false_eq_true,if_false]
     exact rest
end
end ST
end L2
namespace L2
open PySem PySem.Spec PyProof.Rows
namespace ST
theorem ins_size {α:Type}(xs:Array α)(p:Nat)(x:α):(SetTable.insertAt xs p x).size=xs.size+1:=by
 rw[<- Array.length_toList,(SetTable.insertAt_perm xs p x).length_eq,Array.length_toList,Array.size_push]
theorem ins_mem {α:Type}{xs:Array α}{p:Nat}{x y:α}(h:y∈(SetTable.insertAt xs p x).toList):y∈xs.toList\/y=x:=by
 have:=(SetTable.insertAt_perm xs p x).mem_iff.mp h
 rw[Array.toList_push,List.mem_append,List.mem_singleton] at this
 exact this
theorem pick_len {α:Type}(es:Array α):∀l:List Nat,(∀x∈l,x<es.size)->(l.filterMap fun i=>es[i]?).length=l.length
 | [],_=>rfl
 |a::l,h=>by
  rw[List.filterMap_cons,Array.getElem?_eq_getElem (h a List.mem_cons_self),List.length_cons,List.length_cons,pick_len es l fun x hx=>h x (List.mem_cons_of_mem _ hx)]
section
variable {prog:Program} {w:World} {A:Around} {E:Value->Shared->Prop} {s:Shared}
def SX (prog:Program)(w:World)(h:Heap)(a:Addr)(n:Nat)(ks:List (List Int)):Prop:=
 ∃o es ep t,h.get? a=some o/\o.ExactSet/\o.data=.set es ep t/\es.size=n/\t.place.size=n/\Rise t/\Okm t.mask/\n*5<t.mask*3/\∀e∈es.toList,∃k b,k∈ks/\e.2=.ref b/\IsTupleKey (numKind prog w) h k b
theorem key_but {h h':Heap}{a b:Addr}{k:List Int}{o:Obj}{es:Array (Int×Value)}{ep:Nat}{t:SetTable}(hk:IsTupleKey (numKind prog w) h k b)(ho:h.get? a=some o)(hd:o.data=.set es ep t)(sb:Heap.SameBut a h h'):IsTupleKey (numKind prog w) h' k b:=by
 obtain⟨o',items,n,g,c,d,hi⟩:=hk
 have ne:b≠a:=by
  rintro rfl
  rw[ho] at g
  cases g
  rw[hd] at d
  cases d
 exact⟨o',items,n,(sb.2 b ne).trans g,c,d,hi⟩
theorem put_get {h:Heap}{a:Addr}{o:Obj}{es:Array (Int×Value)}{ep:Nat}{t:SetTable}(es':Array (Int×Value))(t':SetTable)(ho:h.get? a=some o)(hd:o.data=.set es ep t):(h.update a (Obj.putSet es' t')).get? a=some { o with data:=.set es' (ep+1) t' }:=by
 have:=Heap.get?_update_self (Obj.putSet es' t') ho (by rw[putSet_of es' t' hd];rfl)
 rw[putSet_of es' t' hd] at this
 exact this
theorem fits_of {t:SetTable}{n:Nat}(R:Rise t)(h1:t.place.size=n)(h2:n<=t.mask):t.fits n=true:=by
 unfold SetTable.fits SetTable.fill
 rw[R.du,h1]
 simp
 exact h2
theorem relay_ok {a:Addr}{o:Obj}{es:Array (Int×Value)}{ep:Nat}{t:SetTable}{ks:List (List Int)}{n:Nat}{Q:Unit->Shared->Prop}(ho:s.heap.get? a=some o)(hex:o.ExactSet)(hd:o.data=.set es ep t)(h1:es.size=n+1)(h2:t.place.size=n+1)(R:Rise t)(hm:Okm t.mask)(l1:n*5<t.mask*3)(l2:t.mask*3<=(n+1)*5)(hn:n+1<=4900)
  (hel:∀e∈es.toList,∃k b,k∈ks/\e.2=.ref b/\IsTupleKey (numKind prog w) s.heap k b)
  (hQ:∀h',Heap.SameBut a s.heap h'->SX prog w h' a (n+1) ks->Q () { s with heap:=h' }):wpAny (model prog w) A (setRelay a (SetTable.grown (n+1))) Q E s:=by
 have hml:=hm.le
 have fit:n+1<=t.mask:=by
  rcases hm with h|h|h|h|h|h<;>omega
 have hf:t.fits es.size=true:=by rw[h1];exact fits_of R h2 fit
 obtain⟨g1,g2,g3⟩:=hm.grow l1 l2 hn
 obtain⟨kk,ek⟩:=g1.two
 have hsz:(es.map (·.1)).size=n+1:=by rw[Array.size_map,h1]
 obtain⟨t2,od,e1,e2,e3,e4,e5⟩:=laid_ok (fi:=t.finger) (mo:=t.movedTo (SetTable.sizeAbove (SetTable.grown (n+1))-1)) ek (led:=t.led) (plain:=t.plain) (hs:=es.map (·.1)) (by rw[hsz];omega)
 obtain⟨R2,_⟩:=laid_rise e1
 rw[hsz] at e3 e4 e5
 have es2:(od.filterMap (es[·]?)).toList.length=n+1:=by
  rw[Array.toList_filterMap,pick_len es _ (by rw[h1];exact e5),Array.length_toList,e4]
 rw[Array.length_toList] at es2
 have er:setRelay a (SetTable.grown (n+1))=(do
   let (es,_,t) ← setState a
   if SetTable.sizeAbove (SetTable.grown (n+1)) > sizeLine then unsupported "set:memory"
   let (es,t) ← (do
    let some (t,order):=t.relaid (es.map (·.1)) (SetTable.grown (n+1))|unsupported "internal:set-table-without-room"
    let es':=order.filterMap (es[·]?)
    if es'.size !=es.size then unsupported "internal:set-table-lost-an-element"
    pure (es',t):Sem (Array (Int×Value)×SetTable))
   storeSet a es t):=rfl
 rw[er]
 refine wpAny_bind (wpAny_setState_of ho hd hf ?_)
 dsimp only
 rw[if_neg (by rw[sizeLine_eq];omega)]
 have rl:t.relaid (es.map (·.1)) (SetTable.grown (n+1))=some (t2,od):=e1
 rw[rl]
 dsimp only
 rw[es2,h1]
 simp only[bne_self_eq_false,Bool.false_eq_true,if_false]
 refine wpAny_bind (wpAny_bind (wpAny_pure (wpAny_bind (wpAny_pure (wpAny_pure ?_)))))
 refine wpAny_storeSet_of ho hd (hQ _ (Heap.SameBut.update s.heap a _) ?_) (by rw[es2,sizeLine_eq];omega)
 refine⟨_,_,_,t2,put_get _ _ ho hd,hex,rfl,es2,e3,R2,by rw[e2];exact g1,by rw[e2];exact g2,fun e he=>?_⟩
 rw[Array.toList_filterMap,List.mem_filterMap] at he
 obtain⟨i,_,hi⟩:=he
 obtain⟨k,b,hk,eb,hb⟩:=hel e (Array.mem_toList_iff.mpr (Array.mem_of_getElem? hi))
 exact⟨k,b,hk,eb,key_but hb ho hd (Heap.SameBut.update s.heap a _)⟩
theorem add_ok {a x:Addr}{n:Nat}{ks:List (List Int)}{kx:List Int}{h:Int}{Q:Bool->Shared->Prop}(S:SX prog w s.heap a n ks)(hn:n+1<=4900)(hx:IsTupleKey (numKind prog w) s.heap kx x)(hk:kx∉ks)(hu:A.units<cLine)
  (hQ:∀h',Heap.SameBut a s.heap h'->SX prog w h' a (n+1) (kx::ks)->Q true { s with heap:=h' }):wpAny (model prog w) A (setAddHashed a (.ref x) h) Q E s:=by
 obtain⟨o,es,ep,t,ho,hex,hd,h1,h2,R,hm,l1,hel⟩:=S
 have hml:=hm.le
 have fit:n+1<=t.mask:=by
  rcases hm with h|h|h|h|h|h<;>omega
 have hf:t.fits es.size=true:=by rw[h1];exact fits_of R h2 (by omega)
 unfold setAddHashed setAddHashedIn
 refine wpAny_holding (wpAny_bind (wpAny_setState_of ho hd hf ?_))
 dsimp only
 have bs:byScan (.ref x) es=false:=by unfold byScan;rfl
 rw[bs]
 simp only[Bool.false_eq_true,if_false]
 obtain⟨e,he,hse⟩:=empty_at R.du (t:=t) (by omega)
 obtain⟨kk,ek⟩:=hm.two
 obtain⟨N,hN,eN⟩:=pa_all ek h he
 unfold setSearch
 refine wpAny_bind (search_ok ho hd (by rw[h1,h2]) R hm (by omega) hx (fun e he=>?_) hu (N:=N) (by rw[eN];exact hse) hN (fun j hj=>?_) 100000 0 none (Nat.zero_le _) (by omega) rfl)
 ·obtain⟨k,b,k1,k2,k3⟩:=hel e he
  exact⟨k,b,fun z=>hk (by rw[<- z];exact k1),k2,k3⟩
 dsimp only
 refine wpAny_bind (wpAny_setState_of ho hd hf ?_)
 dsimp only
 have hfree:t.place[SetTable.below t.place j]?≠some j:=by
  rcases slot_free R.du j with⟨_,z⟩|⟨i,z⟩
  ·exact z
  ·rw[hj] at z;cases z
 have ep1:t.put j=({ t with place:=SetTable.insertAt t.place (SetTable.below t.place j) j },SetTable.below t.place j):=by
  unfold SetTable.put
  rw[R.du,has_nil]
  simp only[Bool.false_eq_true,if_false]
 rw[ep1]
 dsimp only
 obtain⟨t1,ht1⟩:∃t1:SetTable,t1={ t with place:=SetTable.insertAt t.place (SetTable.below t.place j) j }:=⟨_,rfl⟩
 have R1:Rise t1:=by rw[ht1];exact⟨put_rise R.pl hfree,R.du⟩
 have z1:(SetTable.insertAt t.place (SetTable.below t.place j) j).size=n+1:=by rw[ins_size,h2]
 have m1:t1.mask=t.mask:=by rw[ht1]
 have z1':t1.place.size=n+1:=by rw[ht1];exact z1
 have es1:(SetTable.insertAt es (SetTable.below t.place j) (h,Value.ref x)).size=n+1:=by rw[ins_size,h1]
 have el1:∀e∈(SetTable.insertAt es (SetTable.below t.place j) (h,Value.ref x)).toList,∃k b,k∈kx::ks/\e.2=.ref b/\IsTupleKey (numKind prog w) s.heap k b:=fun e he=>by
  rcases ins_mem he with z|z
  ·obtain⟨k,b,k1,k2,k3⟩:=hel e z
   exact⟨k,b,List.mem_cons_of_mem _ k1,k2,k3⟩
  ·exact⟨kx,x,List.mem_cons_self,by rw[z],hx⟩
 obtain⟨es',he'⟩:∃es',es'=SetTable.insertAt es (SetTable.below t.place j) (h,Value.ref x):=⟨_,rfl⟩
 rw[<- he'] at es1 el1
 have rest:wpAny (model prog w) A (do
   storeSet a es' t1
   if (!false&&t1.tooFull)=true then do
    setRelay a (SetTable.grown (es.size+1))
    pure true
   else pure true) Q E s:=by
  have sb:=Heap.SameBut.update s.heap a (Obj.putSet es' t1)
  refine wpAny_bind (wpAny_storeSet_of ho hd ?_ (by rw[es1,sizeLine_eq];omega))
  have g1:=put_get es' t1 ho hd
  have el2:∀e∈es'.toList,∃k b,k∈kx::ks/\e.2=.ref b/\IsTupleKey (numKind prog w) (s.heap.update a (Obj.putSet es' t1)) k b:=fun e he=>by
   obtain⟨k,b,k1,k2,k3⟩:=el1 e he
   exact⟨k,b,k1,k2,key_but k3 ho hd sb⟩
  have tf:t1.tooFull=decide (t.mask*3<=(n+1)*5):=by
   unfold SetTable.tooFull SetTable.fill
   rw[R1.du,z1',m1]
   rfl
  rw[tf]
  by_cases hfull:t.mask*3<=(n+1)*5
  ·rw[decide_eq_true hfull]
   simp only[Bool.not_false,Bool.and_self,if_true]
   rw[h1]
   refine wpAny_bind (relay_ok (s:={ s with heap:=s.heap.update a (Obj.putSet es' t1) }) (n:=n) g1 hex rfl es1 z1' R1 (by rw[m1];exact hm) (by rw[m1];exact l1) (by rw[m1];exact hfull) hn el2 fun h' sb' S'=>wpAny_pure (hQ h' (sb.trans sb') S'))
  ·rw[decide_eq_false hfull]
   simp only[Bool.and_false,Bool.false_eq_true,if_false]
   exact wpAny_pure (hQ _ sb ⟨_,_,_,t1,g1,hex,rfl,es1,z1',R1,by rw[m1];exact hm,by rw[m1];omega,el2⟩)
 rw[ht1,he'] at rest
 cases hp:t.plain with
 |true=>
  simp only[if_true]
  refine wpAny_bind (hbv (n:=6) hx ?_)
  simp only[if_true]
  rw[hp] at rest
  exact rest
 |false=>
  simp only[Bool.false_eq_true,if_false]
  refine wpAny_bind (wpAny_pure ?_)
  simp only[if_true]
  rw[hp] at rest
  exact rest
end
end ST
end L2
namespace L2
open PySem PySem.Spec PyProof.Rows
namespace ST
section
variable {prog:Program} {w:World} {A:Around} {R:Result->Shared->Prop} {I:Addr} {fp wr:List Addr} {G:Array GenState->Array GenState->Prop} {n:Nat} {P:Nat->Value->Prop} {Sx:Nat->Shared->Prop}
theorem key_kept {h h':Heap}{k:List Int}{b:Addr}(hk:IsTupleKey (numKind prog w) h k b)(hw:∀c∈wr,∀o,h.get? c=some o->o.cls≠.type "tuple")(kp:∀c o,c∉wr->h.get? c=some o->h'.get? c=some o):IsTupleKey (numKind prog w) h' k b:=by
 obtain⟨o,items,m,g,c,d,hi⟩:=hk
 exact⟨o,items,m,kp b o (fun z=>hw b z o g c) g,c,d,hi⟩
theorem SX.kept {h h':Heap}{a:Addr}{ks:List (List Int)}(S:SX prog w h a n ks)(ha:a∉wr)(hw:∀b∈wr,∀o,h.get? b=some o->o.cls≠.type "tuple")(kp:∀b o,b∉wr->h.get? b=some o->h'.get? b=some o):SX prog w h' a n ks:=by
 obtain⟨o,es,ep,t,ho,h1,h2,h3,h4,h5,h6,h7,hel⟩:=S
 refine⟨o,es,ep,t,kp a o ha ho,h1,h2,h3,h4,h5,h6,h7,fun e he=>?_⟩
 obtain⟨k,b,k1,k2,k3⟩:=hel e he
 exact⟨k,b,k1,k2,key_kept k3 hw kp⟩
theorem set_loopT (W:WalksS prog w A.in1 I fp wr G n P Sx)(S:Addr)(nf:S∉fp)(hu:A.in1.units<cLine)(hw:∀i s,Sx i s->∀b∈wr,∀o,s.heap.get? b=some o->o.cls≠.type "tuple")(ks:List (List Int))(nd:ks.Nodup)(hks:ks.length=n)(bs:List Addr)(hv:∀i v,P i v->∃b,bs[i]?=some b/\v=.ref b)(hb:n<=4900):
  ∀(k i:Nat) (s:Shared),n-i=k->i<=n->Sx i s->(∃ks',SX prog w s.heap S i ks'/\∀k∈ks',∃j,j<i/\ks[j]?=some k)->(∀(j:Nat) (b:Addr) (k:List Int),bs[j]?=some b->ks[j]?=some k->IsTupleKey (numKind prog w) s.heap k b)→
   (∀s',Moved (S::wr) G s s'->(∃ks',SX prog w s'.heap S n ks')->R (.ok (.ret .none)) s')→
   codeAny (model prog w) A (.builtin "set.update.loop" ⟨[.ref S,.ref I],[]⟩) R s:=by
 have nw:S∉wr:=fun h=>nf (W.sub _ h)
 have sub:∀b∈wr,b∈S::wr:=fun b hb=>List.mem_cons_of_mem _ hb
 intro k
 induction k with
 |zero=>
  intro i s hk hi hst hS hT hR
  have ein:i=n:=by omega
  subst ein
  refine codeAny_builtin PyProof.Rows.F.entry_set_update_loop ?_
  rw[Around.under_plainId PyProof.Rows.F.plain_set_update_loop _]
  show wpAny _ A.in1 (pyNext (.ref I) >>= _) _ _ _
  refine wpAny_bind (W.done s _ _ hst fun s' hm=>?_)
  show wpAny _ A.in1 (ret Value.none) _ _ _
  obtain⟨ks',S1,_⟩:=hS
  exact wpAny_pure (hR s' (hm.mono sub) ⟨ks',S1.kept nw (hw _ s hst) hm.heap⟩)
 |succ k ih=>
  intro i s hk hi hst hS hT hR
  have hlt:i<n:=by omega
  refine codeAny_builtin PyProof.Rows.F.entry_set_update_loop ?_
  rw[Around.under_plainId PyProof.Rows.F.plain_set_update_loop _]
  show wpAny _ A.in1 (pyNext (.ref I) >>= _) _ _ _
  refine wpAny_bind (W.item i s _ _ hlt hst fun v s' hP hst' hm=>?_)
  obtain⟨b,eb,rfl⟩:=hv i v hP
  have ek:ks[i]?=some (ks[i]'(by omega)):=List.getElem?_eq_getElem (by omega)
  generalize hki:ks[i]'(by omega)=kx at ek
  have hT':∀(j:Nat) (b:Addr) (k:List Int),bs[j]?=some b->ks[j]?=some k->IsTupleKey (numKind prog w) s'.heap k b:=fun j b k e1 e2=>key_kept (hT j b k e1 e2) (hw _ s hst) hm.heap
  have hx:=hT' i b kx eb ek
  obtain⟨ks',S0,hin⟩:=hS
  have S1:SX prog w s'.heap S i ks':=S0.kept nw (hw _ s hst) hm.heap
  have hnew:kx∉ks':=fun z=>by
   obtain⟨j,hj,ej⟩:=hin kx z
   have hj':j<ks.length:=by omega
   rw[List.getElem?_eq_getElem hj'] at ej
   rw[List.getElem?_eq_getElem (show i<ks.length by omega)] at ek
   have e1:=Option.some.inj ej
   have e2:=Option.some.inj ek
   have:=(List.nodup_iff_pairwise_ne.mp nd)
   exact(List.pairwise_iff_getElem.mp this j i hj' (by omega) hj) (e1.trans e2.symm)
  show wpAny _ A.in1 (holding [.ref b] (setAdd S (.ref b)) >>= _) _ _ _
  refine wpAny_bind (wpAny_holding ?_)
  unfold setAdd
  refine wpAny_holding (wpAny_bind (wpAny_pyHash_tuple (knd:=numKind prog w) (ks:=kx) hu hx ?_))
  refine add_ok (s:={ s' with toks:=s'.toks+(kx.length+1) }) S1 (by omega) hx hnew hu fun h' hsb hS2=>?_
  refine wpAny_pure ⟨plainId_quiet PyProof.Rows.F.plain_set_update_loop _,ih (i+1) _ (by omega) hlt (W.frame _ s' _ _ hst' (Nat.le_add_right _ _) fun c hc o e=>?_) ⟨_,hS2,fun k hk=>?_⟩ (fun j b k e1 e2=>?_) fun s'' hm'' hS''=>?_⟩
  ·rw[hsb.2 c (fun h:c=S=>nf (by rw[<- h];exact hc))]
   exact e
  ·rcases List.mem_cons.mp hk with z|z
   ·exact⟨i,Nat.lt_succ_self _,by rw[z];exact ek⟩
   ·obtain⟨j,h1,h2⟩:=hin k z
    exact⟨j,by omega,h2⟩
  ·obtain⟨o,es,ep,t,ho,_,hd,_⟩:=S1
   exact key_but (hT' j b k e1 e2) ho hd hsb
  ·refine hR s'' (Moved.trans W.gtrans ((hm.mono sub).then_heap (Nat.le_add_right _ _) fun b o hb e=>?_) hm'') hS''
   rw[hsb.2 b (fun h:b=S=>hb (by rw[h];exact List.mem_cons_self))]
   exact e
end
section
variable {prog:Program} {w:World} {A:Around} {E:Value->Shared->Prop} {s:Shared}
set_option maxRecDepth 100000 in
set_option maxHeartbeats 3200000 in
theorem set_listT {l:Addr}{its:Array Value}{ks:List (List Int)}{bs:List Addr}{Q:Value->Shared->Prop}(hh:A.handled=none)(hu:A.units+8<cLine)(hl:s.heap.IsList l its)(hi:∀(i:Nat) (v:Value),its[i]?=some v->∃b,bs[i]?=some b/\v=.ref b)(hk:∀(j:Nat) (b:Addr) (k:List Int),bs[j]?=some b->ks[j]?=some k->IsTupleKey (numKind prog w) s.heap k b)(nd:ks.Nodup)(hks:ks.length=its.size)(hb:its.size<=4900)
  (h:∀(h':Heap) (tk:Nat),(∃ks',SX prog w h' s.heap.objs.size its.size ks')→
   (∀b o,b<s.heap.objs.size->s.heap.get? b=some o->h'.get? b=some o)->Q (.ref s.heap.objs.size) { s with heap:=h',toks:=tk }):
  wpAny (model prog w) A (call (.type "set") [.ref l]) Q E s:=by
 obtain⟨c,tl,hmro⟩:=PySem.F.called_set.mro
 have hmade:=PySem.F.called_set.made
 have hsub:=PySem.F.called_set.sub
 refine wpAny_call (codeAny_of_tree ?_)
 show wpAny _ _ (callAny (.type "set") _) _ _ s
 refine wpAny_pure ⟨Code.quiet_builtin _ (by decide +kernel),codeAny_builtin PySem.F.entry_type_call ?_⟩
 rw[Around.under_plain (weight_type_call_type "set" [.ref l] []) rfl]
 have h1:=PySem.F.called_set.notType
 have h2:=PySem.F.called_set.canCreate
 have hct:=PySem.F.typeCall_set_1 (.ref l)
 repeat (any_goals (first|assumption|wp_step))
 refine codeAny_mono (code_set_new_1 (.ref l) (E:=E) (Q₁:=fun obj s₁=>∃led:Bool,obj=.ref s.heap.objs.size/\s₁={ s with heap:=s.heap.push (newSet led) }) fun led=>⟨led,rfl,rfl⟩) fun r s₁ hr=>?_
 cases r with
 |error e=>exact hr
 |ok fl=>
  cases fl with
  |ret obj=>
   obtain⟨led,rfl,rfl⟩:=hr
   have gS:(s.heap.push (newSet led)).get? s.heap.objs.size=some (newSet led):=Heap.get?_push_size _ rfl
   have tS:Shared.TypeIs { s with heap:=s.heap.push (newSet led) } (.ref s.heap.objs.size) "set":=⟨_,gS,rfl⟩
   have hli:=PySem.F.called_set.init.lookup
   have hbi:=PySem.F.called_set.init.bind (.ref s.heap.objs.size)
   repeat (any_goals (first|assumption|wp_step))
   refine codeAny_mono (codeAny_call_builtin (R:=wants (fun r s₂=>r=.none/\∃h' tk,s₂={ s with heap:=h',toks:=tk }∧
     (∃ks',SX prog w h' s.heap.objs.size its.size ks')∧
     (∀b o,b<s.heap.objs.size->s.heap.get? b=some o->h'.get? b=some o)) E) PySem.F.called_set.init.plain PySem.F.entry_set_init (check_set_init_1 tS ?_)) fun r₂ s₂ hr₂=>?_
   ·obtain⟨ol,hol,hcl,nl,hdl⟩:=hl
    obtain⟨ocls,odict,odata,oslots⟩:=ol
    simp only at hcl hdl
    subst hcl;subst hdl
    have gl:(s.heap.push (newSet led)).get? l=some { cls:=.type "list",dict:=odict,data:=.seq its nl,slots:=oslots }:=Heap.get?_push_of_some _ hol
    have hsls:=PySem.F.sub_list_set
    have hslf:=PySem.F.sub_list_frozenset
    have hne:(Value.type "list"==Value.type "dict")=false:=by decide
    have il:(s.heap.push (newSet led)).IsList l its:=⟨_,gl,rfl,nl,rfl⟩
    unfold Builtin.«set.__init__» noKeywords Builtin.Frozenset.updateFrom
    generalize hPI:pyIter=PI
    wp_walk
    subst hPI
    refine wpAny_pyIter_list il (wpAny_bind (wpAny_runValue ?_))
    have ll:l<s.heap.objs.size:=Heap.lt_size hol
    have h3:A.in1.in1.in1.handled=none:=by simp[hh]
    have nI:l≠(s.heap.push (newSet led)).objs.size:=by rw[Heap.size_push];exact Nat.ne_of_lt (Nat.lt_succ_of_lt ll)
    have nS:s.heap.objs.size∉[(s.heap.push (newSet led)).objs.size,l]:=by
     rw[Heap.size_push]
     simp only[List.mem_cons,List.mem_singleton,List.not_mem_nil,or_false,not_or]
     exact⟨Nat.ne_of_lt (Nat.lt_succ_self _),Nat.ne_of_gt ll⟩
    refine set_loopT ((Walks.list h3 _ l nI its).toS) s.heap.objs.size nS (show A.units+3<cLine by omega) ?a0 ks nd hks bs hi hb (its.size-0) 0 _ (by omega) (Nat.zero_le _) ⟨⟨_,Heap.get?_push_size _ rfl,rfl,rfl⟩,(il.push _)⟩ ?a1 ?a3 ?a2
    case a0=>
     rintro i s' ⟨⟨o,g,c,_⟩,_⟩ b hb o' e
     rw[List.mem_singleton] at hb
     subst hb
     rw[g] at e
     cases e
     rw[c]
     decide
    case a1=>
     have g1:((s.heap.push (newSet led)).push { cls:=.type "list_iterator",data:=.fields #[.ref l,.int 0 0] }).get? s.heap.objs.size=some (newSet led):=Heap.get?_push_of_some _ gS
     exact⟨[],⟨_,#[],0,.fresh 0 0 led,g1,⟨rfl,rfl,rfl⟩,rfl,rfl,rfl,⟨.nil,rfl⟩,(.inl rfl),(by show 0*5<7*3;decide),fun e he=>by cases he⟩,fun k hk=>by cases hk⟩
    case a3=>
     intro j b k e1 e2
     obtain⟨o,items,m,g,c,d,hi⟩:=hk j b k e1 e2
     exact⟨o,items,m,Heap.get?_push_of_some _ (Heap.get?_push_of_some _ g),c,d,hi⟩
    case a2=>
     intro s' hm hS'
     obtain⟨h',g',d',tk',os'⟩:=s'
     have eg:g'=s.gens:=hm.gens
     have ed:d'=s.drawn:=hm.drawn
     have eo:os'=s.os:=hm.os
     subst eg;subst ed;subst eo
     show wpAny _ _ _ _ _ _
     refine wpAny_pure ?_
     show wpAny _ _ (ret Value.none) _ _ _
     refine wpAny_pure ⟨rfl,h',tk',rfl,hS',fun b o hb e=>?_⟩
     have n1:b≠s.heap.objs.size:=Nat.ne_of_lt hb
     have n2:b≠(s.heap.push (newSet led)).objs.size:=by rw[Heap.size_push];exact Nat.ne_of_lt (Nat.lt_succ_of_lt hb)
     exact hm.heap b o (by simp only[List.mem_cons,List.mem_singleton,List.not_mem_nil,or_false,not_or];exact⟨n1,n2⟩) (Heap.get?_push_of_some _ (Heap.get?_push_of_some _ e))
   ·cases r₂ with
    |error e=>exact hr₂
    |ok fl₂=>
     cases fl₂ with
     |ret r=>
      obtain⟨rfl,h',tk,rfl,hS',hk'⟩:=hr₂
      repeat (any_goals (first|assumption|wp_step))
      exact h _ _ hS' hk'
     |_=>exact hr₂.elim
  |_=>exact hr.elim
end
def TS (P:Program)(w:World)(a:Addr)(n:Nat):HO:=.ext fun h=>∃o es ep t,h.get? a=some o/\o.ExactSet/\o.data=.set es ep t/\es.size=n/\t.fits es.size=true/\n<=4900
section
variable {X:Cx}
theorem call_setT (hc:X.calm=true)(hu:X.A.units+64<cLine):CallR X (.type "set") (fun xs H Q=>∃(p:Addr) (bs:List Addr) (ks:List (List Int)),xs=[.ref p]/\SqL X.K H p (bs.map V.ref)/\bs.length=ks.length/\(∀(j:Nat) (b:Addr) (k:List Int),bs[j]?=some b->ks[j]?=some k->TKy H k b)/\ks.Nodup/\ks.length<=4900/\∀a,H a=none->Q (.ref a) (upd H a (TS X.prog X.w a ks.length))):=by
 intro pins s σ H xs us Q I r h
 obtain⟨p,bs,ks,rfl,hq,hbl,hT,nd,hn,q⟩:=h
 obtain⟨u,rfl,rx⟩:=vals1 r
 cases rx
 obtain⟨its,r',pl,hz⟩:=I.list hq
 have hlen:=r'.length
 rw[List.length_map] at hlen
 refine set_listT (its:=its.toArray) (ks:=ks) (bs:=bs) (I.ok.hd hc) (by omega) pl.isList (fun i v hv=>?_) (fun j b k e1 e2=>tk_is I.hok (hT j b k e1 e2)) nd (by rw[List.size_toArray];omega) (by rw[List.size_toArray];omega) fun h' tk hS hk=>?_
 ·have hv':its[i]?=some v:=by simpa using hv
  have hi:i<its.length:=(List.getElem?_eq_some_iff.mp hv').1
  have eb:bs[i]?=some (bs[i]'(by omega)):=List.getElem?_eq_getElem (by omega)
  generalize bs[i]'(by omega)=b at eb
  obtain⟨u,eu,ru⟩:=r'.get (show(bs.map V.ref)[i]?=some (V.ref b) by rw[List.getElem?_map,eb];rfl)
  rw[hv'] at eu
  cases eu
  cases ru
  exact⟨b,eb,rfl⟩
 ·have en:its.toArray.size=ks.length:=by rw[List.size_toArray];omega
  rw[en] at hS
  obtain⟨ks',o,es,ep,t,ho,hex,hd,h1,h2,R,hm,l1,_⟩:=hS
  have fit:ks.length<=t.mask:=by
   rcases hm with h|h|h|h|h|h<;>omega
  have hf:t.fits es.size=true:=by rw[h1];exact fits_of R h2 fit
  refine⟨.ref s.heap.objs.size,_,I.laid (t':=tk) (o:=TS X.prog X.w s.heap.objs.size ks.length) (fun b o e=>hk b o (Heap.lt_size e) e) (Nat.le_refl _) ?_,rfl,q _ (I.hok.fresh (Nat.le_refl _))⟩
  exact⟨⟨o,es,ep,t,ho,hex,hd,h1,hf,hn⟩,⟨o,ho⟩,fun h1 h2 ⟨o,es,ep,t,g,m⟩ k=>⟨o,es,ep,t,k o g,m⟩⟩
theorem call_lenTS:CallR X (.builtin "len") (fun xs H Q=>∃a n,xs=[V.ref a]/\H a=some (TS X.prog X.w a n)/\Q (.int n) H):=by
 intro pins s σ H xs us Q I r h
 obtain⟨a,n,rfl,ha,q⟩:=h
 obtain⟨u,rfl,ru⟩:=vals1 r
 cases ru
 obtain⟨o,es,ep,t,ho,hex,hd,hn,hf,hb⟩:=(show ObjOk X.prog X.w H s.heap a (TS X.prog X.w a n) from I.hok _ _ ha).1
 subst hn
 exact call_len_set ho hex hd hf (by omega) ⟨.int es.size,H,I.tok _,⟨_,rfl⟩,q⟩
end
end ST
end L2
namespace L2
open PySem PySem.Spec PyProof.Rows
namespace ST
section
variable {X:Cx}
theorem call_sumI (hc:X.calm=true):CallR X (.builtin "sum") (fun xs H Q=>∃(p:Addr) (ns:List Int),xs=[.ref p]/\SqL X.K H p (ns.map V.int)/\Q (.int ns.sum) H):=by
 intro pins s σ H xs us Q I r h
 obtain⟨p,ns,rfl,hq,q⟩:=h
 obtain⟨u,rfl,rx⟩:=vals1 r
 cases rx
 obtain⟨its,r',pl,hz⟩:=I.list hq
 have hi:IntsAre its ns:=intsAre_of r'
 have hl:=pl.isList
 obtain⟨ys,ey⟩:=(hi.allInts).items
 have hn:(numsOf (intItems ys).toList)=ns:=by rw[<- ey];exact hi.numsOf
 rw[ey] at hl
 refine sum_intListG (I.ok.hd hc) hl fun h' tk t' hk=>⟨.int ns.sum,H,I.kept (t':=tk) hk,⟨t',?_⟩,q⟩
 rw[nums_intItems] at hn
 rw[preSum_eq,List.take_of_length_le (by simp),<- hn]
end
end ST
end L2
namespace K23
open PySem L2 K20 K21 K60
structure FI (rs:Rms)(ns:List Int)(i:Nat)(xs:List (KP×Addr×V))(ms:List Int):Prop where
 ml:ms.length=i
 xl:xs.length<=i
 vl:∀(k:Nat) (x:KP×Addr×V),xs[k]?=some x->x.2.2=.int (k:Int)
 nd:(xs.map (·.1)).Nodup
 at':∀a:Nat,a<i->∃(k:Nat) (x:KP×Addr×V),xs[k]?=some x/\x.1=mark rs ns (a:Int)/\ms[a]?=some (k:Int)
theorem atP_some {k:KP}{u:V}:∀{xs:List (KP×Addr×V)},atP xs k=some u->∃(j:Nat) (x:KP×Addr×V),xs[j]?=some x/\x.1=k/\u=x.2.2
 | [],h=>by cases h
 |p::ps,h=>by
  by_cases e:p.1=k
  ·have c:atP (p::ps) k=some p.2.2:=by simp[atP,List.find?_cons,e]
   rw[c] at h
   cases h
   exact⟨0,p,rfl,e,rfl⟩
  ·have c:atP (p::ps) k=atP ps k:=by simp[atP,List.find?_cons,e]
   rw[c] at h
   obtain⟨j,x,h1,h2⟩:=atP_some h
   exact⟨j+1,x,by simpa using h1,h2⟩
theorem atP_none {k:KP}:∀{xs:List (KP×Addr×V)},atP xs k=none->k∉xs.map (·.1)
 | [],_=>by simp
 |p::ps,h=>by
  by_cases e:p.1=k
  ·have c:atP (p::ps) k=some p.2.2:=by simp[atP,List.find?_cons,e]
   rw[c] at h
   cases h
  ·have c:atP (p::ps) k=atP ps k:=by simp[atP,List.find?_cons,e]
   rw[c] at h
   have:=atP_none h
   rw[List.map_cons,List.mem_cons,not_or]
   exact⟨fun z=>e z.symm,this⟩
theorem FI.old {rs:Rms}{ns:List Int}{i:Nat}{xs:List (KP×Addr×V)}{ms:List Int}{j:Nat}{x:KP×Addr×V}(F:FI rs ns i xs ms)(h:xs[j]?=some x)(e:x.1=mark rs ns i):FI rs ns (i+1) xs (ms++[(j:Int)]):=by
 refine⟨by rw[List.length_append,F.ml];rfl,by have:=F.xl;omega,F.vl,F.nd,fun a ha=>?_⟩
 by_cases hl:a<i
 ·obtain⟨k,x,h1,h2,h3⟩:=F.at' a hl
  exact⟨k,x,h1,h2,by rw[List.getElem?_append_left (by rw[F.ml];exact hl)];exact h3⟩
 ·have ea:a=i:=by omega
  subst ea
  refine⟨j,x,h,e,?_⟩
  rw[List.getElem?_append_right (by rw[F.ml];exact Nat.le_refl _),F.ml,Nat.sub_self]
  rfl
theorem FI.new {rs:Rms}{ns:List Int}{i:Nat}{xs:List (KP×Addr×V)}{ms:List Int}{b:Addr}(F:FI rs ns i xs ms)(h:mark rs ns i∉xs.map (·.1)):FI rs ns (i+1) (xs++[(mark rs ns i,b,.int xs.length)]) (ms++[(xs.length:Int)]):=by
 have lt:∀{k:Nat} {x:KP×Addr×V},xs[k]?=some x->(xs++[(mark rs ns i,b,V.int xs.length)])[k]?=some x:=fun {k x} h=>by
  rw[List.getElem?_append_left (List.getElem?_eq_some_iff.mp h).1]
  exact h
 have last:(xs++[(mark rs ns i,b,V.int xs.length)])[xs.length]?=some (mark rs ns i,b,V.int xs.length):=by
  rw[List.getElem?_append_right (Nat.le_refl _),Nat.sub_self]
  rfl
 refine⟨by rw[List.length_append,F.ml];rfl,by have:=F.xl;rw[List.length_append,List.length_singleton];omega,fun k x hk=>?_,?_,fun a ha=>?_⟩
 ·by_cases hl:k<xs.length
  ·rw[List.getElem?_append_left hl] at hk
   exact F.vl k x hk
  ·have hk2:=(List.getElem?_eq_some_iff.mp hk).1
   rw[List.length_append,List.length_singleton] at hk2
   have ek:k=xs.length:=by omega
   subst ek
   rw[last] at hk
   cases hk
   rfl
 ·rw[List.map_append,List.nodup_append]
  refine⟨F.nd,by simp,fun p hp q hq=>?_⟩
  have:q=mark rs ns i:=by simpa using hq
  subst this
  intro z
  subst z
  exact h hp
 ·by_cases hl:a<i
  ·obtain⟨k,x,h1,h2,h3⟩:=F.at' a hl
   exact⟨k,x,lt h1,h2,by rw[List.getElem?_append_left (by rw[F.ml];exact hl)];exact h3⟩
  ·have ea:a=i:=by omega
   subst ea
   refine⟨xs.length,_,last,rfl,?_⟩
   rw[List.getElem?_append_right (by rw[F.ml];exact Nat.le_refl _),F.ml,Nat.sub_self]
   rfl
theorem FI.fine {rs:Rms}{ns:List Int}{xs:List (KP×Addr×V)}{ms:List Int}(F:FI rs ns rs.length xs ms):Fine rs ns ms:=by
 refine⟨F.ml,fun x y hx hy=>?_⟩
 obtain⟨k,p,h1,h2,h3⟩:=F.at' x.toNat (by have:=hx.1;have:=hx.2;omega)
 obtain⟨j,q,g1,g2,g3⟩:=F.at' y.toNat (by have:=hy.1;have:=hy.2;omega)
 have ex:((x.toNat:Nat):Int)=x:=by have:=hx.1;omega
 have ey:((y.toNat:Nat):Int)=y:=by have:=hy.1;omega
 rw[ex] at h2
 rw[ey] at g2
 have e1:kn ms x=(k:Int):=getD_of h3
 have e2:kn ms y=(j:Int):=getD_of g3
 rw[e1,e2,<- h2,<- g2]
 constructor
 ·intro e
  have:k=j:=by omega
  subst this
  rw[h1] at g1
  cases g1
  rfl
 ·intro e
  obtain⟨a1,b1⟩:=List.getElem?_eq_some_iff.mp h1
  obtain⟨a2,b2⟩:=List.getElem?_eq_some_iff.mp g1
  have:k=j:=(List.getElem_inj (xs:=xs.map (·.1)) (h₀:=by rw[List.length_map];exact a1) (h₁:=by rw[List.length_map];exact a2) F.nd).mp (by rw[List.getElem_map,List.getElem_map,b1,b2,e])
  rw[this]
def spFk:Sp:=fun vs H Q _=>∃(p c:Addr) (qs:List Addr) (many:Int) (rs:Rms) (ks:List V) (ns:List Int),vs=[.ref p,.ref c]/\H p=some (.tup (qs.map V.ref))/\RowsAt H qs rs/\Good many rs/\H c=some (.lst ks)/\Nums ks ns/\ns.length=rs.length∧
 ∀(l:Addr) (ms:List Int) (H':Hp),Same H H'->H l=none->H' l=some (.lst (ms.map V.int))->Fine rs ns ms->Q (.ref l) H'
section
variable {P:Program} {w:World} {K:W.Frag} {mg:Str->Option Value} {base:Heap}
theorem scFk:FnScope ["rooms","kinds","numbers","found","room","kind","mark"] ["rooms","kinds"] (defScope sFk):=.of (by decide +kernel)
def scopeFk:Scope:=⟨.function,[(".0",.local),("there",.local),("kinds",.free)],false,false,[]⟩
theorem scFk1:BlkScope (defScope sFk) ["rooms","kinds","numbers","found","room","kind","mark"] ["there"] ["kinds"] [1] scopeFk:=.of (by decide +kernel)
theorem ok_fk (F:Fun K "finer_kinds" "finer_kinds" sFk f fd)(T:Txt mg):FnOk P w K mg base CX0 1 f fd ["rooms","kinds"] spFk:=by
 refine F.ok scFk (fun vs H Q E h=>?_) (fun cdv A outer s H vs Q E hr h=>?_)
 ·obtain⟨p,c,qs,many,rs,ks,ns,rfl,_⟩:=h
  rfl
 ·obtain⟨p,c,qs,many,rs,ks,ns,rfl,hp,hR,G,hc,hN,hnl,k⟩:=h
  have gle:=G.le
  refine⟨_,pss_cons (ps_set (i:=2) scFk.nd rfl (Or.inl rfl) pe_pnew)
   (pss_cons (ps_set (i:=3) scFk.nd rfl (Or.inl rfl) (pe_lst pa_nil))
   (pss_cons (ps_for PassesOwn.never rfl (pi_zipg true false rfl T.zip (pa_cons (pv 0) (pa_cons (pv 1) pa_nil))) (pg_tup (n:=2) rfl (pgs_cons (pg_name (i:=4) scFk.nd rfl (Or.inl rfl)) (pgs_cons (pg_name (i:=5) scFk.nd rfl (Or.inl rfl)) pgs_nil)))
    (pss_cons (ps_set (i:=6) scFk.nd rfl (Or.inl rfl) (pe_tup (pa_cons (pv 5) (pa_cons (pe_callTy call_tuple_of (by rfl) T.tuple PyProof.Rows.boot_tuple (pa_cons (pe_lc scFk1 rfl rfl rfl (pi_tup (pe_ix ix_tup (pv 4) pe_int (fun _ _=>rfl))) (fun fp C s1 H1=>pg_name (i:=0) scFk1.nd rfl (Or.inl rfl)) (fun fp C s1 H1=>pts_nil) (fun fp C s1 H1=>pe_ix (r:=rIxL K) ix_list (pv 1) (pv 0) (fun _ _=>rfl))) pa_nil)) pa_nil))))
    (pss_one (ps_expr (pe_bm PySem.F.plainAttrs_list PySem.F.slot_list_append PySem.F.type_list_append mt_append (pv 3) (pa_cons (pe_setdef (Nat.lt_of_le_of_lt (Nat.add_le_add_left (by decide:2<=64) _) hr.units) (pv 2) (pv 6) (pe_callB call_lenP (by rfl) T.len PySem.boot_len (pa_cons (pv 2) pa_nil)) ⟨rfl,rfl,rfl,rfl⟩) pa_nil))))))
   (pss_one (ps_ret (pv 3))))),?_⟩
  intro dn hdn
  refine⟨Nat.zero_le _,fun l hl=>?_⟩
  have ndl:dn≠l:=fun e=>by rw[e,upd_same] at hl;cases hl
  have hlH:H l=none:=by rw[upd_ne (Ne.symm ndl)] at hl;exact hl
  have s0:Same H (upd (upd H dn (PD P w dn [])) l (.lst [])):=((Same.refl H).upd_free hdn).upd_free hlH
  refine⟨_,rfl,_,rfl,p,c,rfl,⟨_,SqT.of (s0 _ _ hp)⟩,⟨_,SqL.of (s0 _ _ hc)⟩,?_⟩
  have hql:(qs.map V.ref).length=rs.length:=by rw[List.length_map];exact hR.1
  have hkl:ks.length=rs.length:=by rw[hN.length,hnl]
  refine for_zipg (K:=K) (t:=true) (u:=false) (a:=p) (b:=c) (xs:=qs.map V.ref) (ys:=ks) (by omega) (fun i σ H2=>∃(xs:List (KP×Addr×V)) (ms:List Int) (v4 v5 v6:Option V),σ=[some (.ref p),some (.ref c),some (.ref dn),some (.ref l),v4,v5,v6]/\Same H H2/\H2 dn=some (PD P w dn xs)/\PKs H2 xs/\H2 l=some (.lst (ms.map V.int))/\FI rs ns i xs ms)
   ⟨[],[],none,none,none,rfl,s0,by rw[upd_ne ndl,upd_same];rfl,fun x hx=>(by cases hx),upd_same,⟨rfl,Nat.le_refl _,fun k x h=>by simp at h,by simp,fun a ha=>by omega⟩⟩ (fun i σ H2 _ ⟨_,_,_,_,_,_,s2,_⟩=>⟨SqT.of (s2 _ _ hp),SqL.of (s2 _ _ hc)⟩) ?_ ?_
  ·rintro i x y σ H2 pt hx hy ⟨xs,ms,v4,v5,v6,rfl,s2,hD,hPK,hL,FIi⟩ hpt
   have hi:i<rs.length:=by
    have:=(List.getElem?_eq_some_iff.mp hx).1
    omega
   obtain⟨r,er⟩:∃r,rs[i]?=some r:=⟨rs[i],by simp[hi]⟩
   obtain⟨q,z,e1,e2,e3⟩:=hR.2 i r er
   rw[List.getElem?_map,e1] at hx
   cases hx
   obtain⟨n,en⟩:∃n,ns[i]?=some n:=⟨ns[i]'(by omega),by simp⟩
   obtain⟨y',ey,ny⟩:=hN.get en
   rw[ey] at hy
   cases hy
   have sp:Same H2 (upd H2 pt (.tup [.ref q,y])):=(Same.refl H2).upd_free hpt
   have t2:Same H (upd H2 pt (.tup [.ref q,y])):=s2.trans sp
   have hrow:=G.row r (List.mem_of_getElem? er)
   have gmn:=G.mn
   refine⟨pt,_,rfl,SqT.of upd_same,rfl,_,_,rfl,_,_,rfl,rfl,?_⟩
   refine⟨_,rfl,_,rfl,q,_,_,_,rfl,rfl,SqT.of (t2 _ _ e2),rfl,z,rfl,⟨_,SqT.of (t2 _ _ e3)⟩,fun D hD0=>?_⟩
   have sD:Same (upd H2 pt (.tup [.ref q,y])) (upd (upd H2 pt (.tup [.ref q,y])) D (.lst [])):=(Same.refl _).upd_free hD0
   refine lc_tup (K:=K) (a:=z) (xs:=r.2.map V.int) (fun j ys H3=>Same (upd H2 pt (.tup [.ref q,y])) H3/\H3 D=some (.lst ys)/\ys.length=j/\Nums ys ((r.2.take j).map (kn ns))) (Nat.le_of_lt (small1000 (by rw[List.length_map];omega)))
    ⟨sD,upd_same,rfl,rfl⟩ (fun j ys H3 h=>Nat.le_of_eq h.2.2.1) (fun j ys H3 h=>SqT.of (h.1 _ _ (t2 _ _ e3))) ?_ ?_
   ·rintro j ys H3 x N M hx ⟨u1,u2,u3,u4⟩ hN' hM
    rw[List.getElem?_map] at hx
    cases et:r.2[j]? with
    |none=>rw[et] at hx;cases hx
    |some t=>
     rw[et] at hx
     cases hx
     have ht:=hrow.2 t (List.mem_of_getElem? et)
     obtain⟨nt,ent⟩:=some_at ns t ht.1 (by rw[hnl];exact ht.2)
     obtain⟨kt,ekt,nkt⟩:=hN.get ent
     refine⟨_,rfl,_,rfl,c,_,_,_,rfl,rfl,SqL.of (u1 _ _ (t2 _ _ hc)),atI_int ht.1 ekt,?_⟩
     refine hN' _ H3 u2 ⟨u1.upd_free hD0,upd_same,by rw[List.length_append,List.length_singleton,u3],?_⟩
     rw[List.take_add_one,et,List.map_append]
     refine u4.snoc ?_
     rw[nkt]
     exact congrArg some (getD_of ent).symm
   ·rintro ys H3 ⟨u1,u2,u3,u4⟩
    rw[List.length_map,List.take_of_length_le (Nat.le_refl _)] at u4
    refine⟨D,_,rfl,.inl ⟨SqL.of u2,fun zt hzt=>?_⟩⟩
    refine⟨(by show 2<=sizeLine;decide),fun mq hmq=>?_⟩
    have nzm:zt≠mq:=fun e=>by rw[e,upd_same] at hmq;cases hmq
    have hmq3:H3 mq=none:=by rw[upd_ne (Ne.symm nzm)] at hmq;exact hmq
    generalize hH4:upd (upd H3 zt (.tup ys)) mq (.tup [y,.ref zt])=H4
    have s34:Same H3 H4:=by rw[<- hH4];exact((Same.refl H3).upd_free hzt).upd_free hmq3
    have s24:Same H2 H4:=(sp.trans u1).trans s34
    have kP:PKy H4 (mark rs ns i) mq:=by
     refine⟨y,zt,ys,by rw[<- hH4];exact upd_same,?_,by rw[<- hH4,upd_ne nzm];exact upd_same,?_⟩
     ·rw[ny]
      show some n=some (ns.getD ((i:Int)).toNat 0)
      rw[Int.toNat_natCast,getD_of en]
     ·show Nums ys ((nx rs i).map (kn ns))
      unfold nx
      rw[Int.toNat_natCast,getD_of er]
      exact u4
    have hPK4:PKs H4 xs:=fun x hx=>(hPK x hx).same s24.tups
    have hxl:=FIi.xl
    refine⟨_,rfl,.inl ⟨rfl,_,SqL.of (s24 _ _ hL)⟩,_,rfl,dn,xs,rfl,s24 _ _ hD,hPK4,_,rfl,_,rfl,dn,xs,rfl,s24 _ _ hD,hPK4,xs,mq,mark rs ns i,rfl,s24 _ _ hD,hPK4,kP,small1000 (by omega),fun u hu=>?_,fun hn=>?_⟩
    ·obtain⟨j,x,g1,g2,g3⟩:=atP_some hu
     have gv:=FIi.vl j x g1
     refine⟨l,_,_,rfl,rfl,s24 _ _ hL,small1000 (by rw[List.length_map,FIi.ml];omega),?_⟩
     refine⟨xs,ms++[(j:Int)],_,_,_,rfl,(s2.trans s24).upd_free hlH,?_,fun x hx=>(hPK4 x hx).same fun c' ys' ec=>?_,?_,FIi.old g1 g2⟩
     ·rw[upd_ne ndl]
      exact s24 _ _ hD
     ·rw[upd_ne (ne_of ec (s24 _ _ hL) (fun z=>nomatch z))]
      exact ec
     ·rw[upd_same,g3,gv,List.map_append]
      rfl
    ·have hno:=atP_none hn
     have hL4:(upd H4 dn (PD P w dn (xs++[(mark rs ns i,mq,V.int xs.length)]))) l=some (.lst (ms.map V.int)):=by
      rw[upd_ne (Ne.symm ndl)]
      exact s24 _ _ hL
     refine⟨l,_,_,rfl,rfl,hL4,small1000 (by rw[List.length_map,FIi.ml];omega),?_⟩
     refine⟨_,ms++[(xs.length:Int)],_,_,_,rfl,((s2.trans s24).upd_free hdn).upd_free hlH,by rw[upd_ne ndl,upd_same];rfl,?_,by rw[upd_same,List.map_append];rfl,FIi.new (b:=mq) hno⟩
     have tt:∀c' ys',H4 c'=some (.tup ys')->(upd (upd H4 dn (PD P w dn (xs++[(mark rs ns i,mq,V.int xs.length)]))) l (.lst (ms.map V.int++[V.int xs.length]))) c'=some (.tup ys'):=fun c' ys' ec=>by
      rw[upd_ne (ne_of ec (s24 _ _ hL) (fun z=>nomatch z)),upd_ne (ne_of ec (s24 _ _ hD) (fun z=>nomatch z))]
      exact ec
     intro x hx
     rcases List.mem_append.mp hx with hx|hx
     ·exact(hPK4 x hx).same tt
     ·rw[List.mem_singleton] at hx
      subst hx
      exact kP.same tt
  ·rintro σ H2 ⟨xs,ms,v4,v5,v6,rfl,s2,hD,hPK,hL,FIi⟩
   rw[hql] at FIi
   exact⟨_,rfl,k l ms H2 s2 hlH hL FIi.fine⟩
end
end K23
namespace K23
open PySem L2 K20 K21 K60
theorem atI_last {xs:List V}{x:V}(h:xs[xs.length-1]?=some x):atI xs (-1)=some x:=by
 have hl:=(List.getElem?_eq_some_iff.mp h).1
 unfold atI ixN
 rw[if_neg (by omega),if_pos (by omega)]
 rw[show(-1+(xs.length:Int)).toNat=xs.length-1 by omega]
 exact h
theorem call_setNP {X:Cx}(P:Program)(w:World)(hP:X.prog=P)(hw:X.w=w)(hc:X.calm=true):CallR X (.type "set") (fun xs H Q=>∃p vs ns,xs=[.ref p]/\SqL X.K H p vs/\Nums vs ns/\ns.length<=1000/\∀a,H a=none->Q (.ref a) (upd H a (NS P w a (inI ns) (manyI ns)))):=by
 subst hP hw
 exact call_setN hc
theorem call_lenNSP {X:Cx}(P:Program)(w:World)(hP:X.prog=P)(hw:X.w=w):CallR X (.builtin "len") (fun xs H Q=>∃a S n,xs=[V.ref a]/\H a=some (NS P w a S n)/\Q (.int n) H):=by
 subst hP hw
 exact call_lenNS
def Uni (ks:List V):Prop:=(∀x∈ks,∃b,x=V.bl b)\/∀x∈ks,∃i,x=V.int i
theorem ints_uni (ms:List Int):Uni (ms.map V.int):=.inr fun x hx=>by
 obtain⟨i,_,e⟩:=List.mem_map.mp hx
 exact⟨i,e.symm⟩
def Lvs (H:Hp)(rs:Rms)(many:Int)(cs:List Addr):Prop:=∀(i:Nat) (c:Addr),cs[i]?=some c->∃ks ns,H c=some (.lst ks)/\Nums ks ns/\Lev rs many i ns/\Uni ks
theorem Lvs.same {H H':Hp}{rs:Rms}{many:Int}{cs:List Addr}(h:Lvs H rs many cs)(s:Same H H'):Lvs H' rs many cs:=fun i c e=>by
 obtain⟨ks,ns,h1,h2,h3⟩:=h i c e
 exact⟨ks,ns,s _ _ h1,h2,h3⟩
def spKl:Sp:=fun vs H Q _=>∃(p:Addr) (qs:List Addr) (many:Int) (rs:Rms),vs=[.ref p]/\H p=some (.tup (qs.map V.ref))/\RowsAt H qs rs/\Good many rs∧
 ∀(l:Addr) (cs:List Addr) (H':Hp),Same H H'->H' l=some (.lst (cs.map V.ref))->Lvs H' rs many cs->(0<cs.length/\cs.length<=rs.length)->(∀x y,Inr rs x->Inr rs y->Eqk rs many (cs.length-1) x y->Eqk rs many (cs.length-1+1) x y)->Q (.ref l) H'
theorem truths_lev {rs:Rms}{many:Int}:Lev rs many 0 (rs.map fun r=>if r.1 then(1:Int) else 0):=by
 refine⟨List.length_map _,fun x y hx hy=>?_⟩
 rw[eqk_zero]
 obtain⟨r,er⟩:=some_at rs x hx.1 hx.2
 obtain⟨r',er'⟩:=some_at rs y hy.1 hy.2
 unfold kn gd
 rw[getD_of (x:=if r.1 then(1:Int) else 0) (by rw[List.getElem?_map,er];rfl),getD_of (x:=if r'.1 then(1:Int) else 0) (by rw[List.getElem?_map,er'];rfl),getD_of er,getD_of er']
 cases r.1<;>cases r'.1<;>decide
section
variable {P:Program} {w:World} {K:W.Frag} {mg:Str->Option Value} {base:Heap}
theorem scKl:FnScope ["rooms","found","kinds"] ["rooms"] (defScope sKl):=.of (by decide +kernel)
def scopeKl:Scope:=⟨.function,[(".0",.local),("room",.local)],false,false,[]⟩
theorem scKl1:BlkScope (defScope sKl) ["rooms","found","kinds"] ["room"] [] [] scopeKl:=.of (by decide +kernel)
theorem ok_kl (F:Fun K "kinds_by_length" "kinds_by_length" sKl f fd)(T:Txt mg)(FF:Fun K "finer_kinds" "finer_kinds" sFk fF fdF)(bF:Binds K fdF ["rooms","kinds"] [])(gF:mg "finer_kinds"=some (.ref fF)):FnOk P w K mg base CX0 2 f fd ["rooms"] spKl:=by
 have GF:FnOk P w K mg base CX0 1 fF fdF ["rooms","kinds"] spFk:=ok_fk FF T
 refine F.ok scKl (fun vs H Q E h=>?_) (fun cdv A outer s H vs Q E hr h=>?_)
 ·obtain⟨p,qs,many,rs,rfl,_⟩:=h
  rfl
 ·obtain⟨p,qs,many,rs,rfl,hp,hR,G,k⟩:=h
  have gle:=G.le
  refine⟨_,pss_cons (ps_set (i:=1) scKl.nd rfl (Or.inl rfl) (pe_lst (pa_cons (pe_lc scKl1 rfl rfl rfl (pi_tup (pv 0)) (fun fp C s1 H1=>pg_name (i:=0) scKl1.nd rfl (Or.inl rfl)) (fun fp C s1 H1=>pts_nil) (fun fp C s1 H1=>pe_ix (r:=rIxT K) ix_tup (pv 0) pe_int (fun _ _=>rfl))) pa_nil)))
   (pss_cons (ps_set (i:=2) scKl.nd rfl (Or.inl rfl) (pe_call GF hr rfl gF FF.kp bF .nil pass0 (pa_cons (pv 0) (pa_cons (pe_ix ix_list (pv 1) pe_int (fun _ _=>rfl)) pa_nil))))
   (pss_cons (ps_while PassesOwn.never (pt_cmpR op_gt (pe_callB (call_lenNSP P w rfl rfl) (by rfl) T.len PySem.boot_len (pa_cons (pe_callTy (call_setNP P w rfl rfl rfl) (by rfl) T.set PyProof.Rows.boot_set (pa_cons (pv 2) pa_nil)) pa_nil))
     (pe_callB (call_lenNSP P w rfl rfl) (by rfl) T.len PySem.boot_len (pa_cons (pe_callTy (call_setNP P w rfl rfl rfl) (by rfl) T.set PyProof.Rows.boot_set (pa_cons (pe_ix ix_list (pv 1) (pe_un un_neg pe_int) (fun _ _=>rfl)) pa_nil)) pa_nil)) (nomark _))
    (pss_cons (ps_expr (pe_bm PySem.F.plainAttrs_list PySem.F.slot_list_append PySem.F.type_list_append mt_append (pv 1) (pa_cons (pv 2) pa_nil)))
    (pss_one (ps_set (i:=2) scKl.nd rfl (Or.inl rfl) (pe_call GF hr rfl gF FF.kp bF .nil pass0 (pa_cons (pv 0) (pa_cons (pv 2) pa_nil)))))))
   (pss_one (ps_ret (pv 1))))),?_⟩
  have hql:(qs.map V.ref).length=rs.length:=by rw[List.length_map];exact hR.1
  refine⟨_,rfl,p,rfl,⟨_,SqT.of hp⟩,fun D hD=>?_⟩
  refine lc_tup (K:=K) (a:=p) (xs:=qs.map V.ref) (fun j ys H3=>Same H H3/\H3 D=some (.lst ys)/\ys.length=j/\Nums ys ((rs.take j).map fun r=>if r.1 then(1:Int) else 0)/\∀x∈ys,∃b,x=V.bl b) (Nat.le_of_lt (small1000 (by omega)))
   ⟨(Same.refl H).upd_free hD,upd_same,rfl,rfl,fun x hx=>by cases hx⟩ (fun j ys H3 h=>Nat.le_of_eq h.2.2.1) (fun j ys H3 h=>SqT.of (h.1 _ _ hp)) ?_ ?_
  ·rintro j ys H3 x N M hx ⟨u1,u2,u3,u4,u5⟩ hN' hM
   have hj:j<rs.length:=by
    have:=(List.getElem?_eq_some_iff.mp hx).1
    omega
   obtain⟨r,er⟩:∃r,rs[j]?=some r:=⟨rs[j],by simp[hj]⟩
   obtain⟨q,z,e1,e2,e3⟩:=hR.2 j r er
   rw[List.getElem?_map,e1] at hx
   cases hx
   refine⟨_,rfl,q,_,_,_,rfl,rfl,SqT.of (u1 _ _ e2),rfl,?_⟩
   refine hN' _ H3 u2 ⟨u1.upd_free hD,upd_same,by rw[List.length_append,List.length_singleton,u3],?_,fun v hv=>?_⟩
   ·rw[List.take_add_one,er,List.map_append]
    exact u4.snoc rfl
   ·rcases List.mem_append.mp hv with hv|hv
    ·exact u5 v hv
    ·exact⟨_,List.mem_singleton.mp hv⟩
  rintro ks0 H1 ⟨s1,hD1,hl0,hN0,hU0⟩
  rw[hql,List.take_of_length_le (Nat.le_refl _)] at hN0
  have L0:Lev rs many 0 (rs.map fun r=>if r.1 then(1:Int) else 0):=truths_lev
  refine⟨(by show 1<=sizeLine;decide),fun l hl=>?_⟩
  have nDl:D≠l:=ne_of_none hD1 hl
  have hlH:H l=none:=s1.free hl
  have s2:Same H (upd H1 l (.lst [.ref D])):=s1.upd_free hlH
  have hD2:(upd H1 l (.lst [.ref D])) D=some (.lst ks0):=by rw[upd_ne nDl];exact hD1
  refine⟨_,rfl,_,rfl,l,_,_,_,rfl,rfl,SqL.of upd_same,rfl,?_⟩
  refine⟨p,D,qs,many,rs,ks0,_,rfl,s2 _ _ hp,hR.same s2,G,hD2,hN0,List.length_map _,fun kr ms H2 s3 hkr hK FN=>?_⟩
  have nkl:l≠kr:=fun e=>by rw[<- e,upd_same] at hkr;cases hkr
  refine⟨fun mm σ H3=>∃(cs:List Addr) (kr c:Addr) (ms ns:List Int) (ks:List V),σ=[some (.ref p),some (.ref l),some (.ref kr)]/\mm=rs.length+1-manyI ns/\Same H H3/\H3 l=some (.lst (cs.map V.ref))/\Lvs H3 rs many cs/\(∀(i:Nat) (c:Addr),cs[i]?=some c->c≠l)/\l≠kr∧
    cs[cs.length-1]?=some c/\cs.length<=manyI ns/\H3 c=some (.lst ks)/\Nums ks ns/\Lev rs many (cs.length-1) ns/\H3 kr=some (.lst (ms.map V.int))/\Lev rs many (cs.length-1+1) ms,
   ⟨_,[D],kr,D,ms,_,ks0,rfl,rfl,s2.trans s3,s3 _ _ upd_same,fun i c e=>?_,fun i c e=>?_,nkl,rfl,?_,s3 _ _ hD2,hN0,L0,hK,FN.lev G L0⟩,?_⟩
  ·cases i with
   |zero=>cases e;exact⟨ks0,_,s3 _ _ hD2,hN0,L0,.inl hU0⟩
   |succ i=>simp at e
  ·cases i with
   |zero=>cases e;exact nDl
   |succ i=>simp at e
  ·show 1<=_
   obtain⟨la,_,ma,ea⟩:=many_spec (rs.map fun r=>if r.1 then(1:Int) else 0)
   rw[ea]
   have hp0:=G.pos
   obtain⟨r,er⟩:∃r,rs[0]?=some r:=⟨rs[0],by simp[hp0]⟩
   exact List.length_pos_of_mem ((ma (if r.1 then(1:Int) else 0)).mpr (List.mem_of_getElem? (i:=0) (by rw[List.getElem?_map,er];rfl)))
  rintro mm σ H3 ⟨cs,kr,c,ms,ns,ks,rfl,rfl,t3,hL,LV,nl,nk,hc,cl0,hC,hN,Lc,hK,Lm⟩
  have nlen:=Lc.len
  have mlen:=Lm.len
  have mle:=many_le ns
  have cpos:0<cs.length:=by have:=(List.getElem?_eq_some_iff.mp hc).1;omega
  refine⟨_,rfl,kr,_,ms,rfl,SqL.of hK,nums_ints ms,by omega,fun a1 h1=>?_⟩
  have w1:Same H3 (upd H3 a1 (NS P w a1 (inI ms) (manyI ms))):=(Same.refl H3).upd_free h1
  refine⟨a1,_,_,rfl,upd_same,_,rfl,_,rfl,l,_,_,_,rfl,rfl,SqL.of (w1 _ _ hL),atI_last (by rw[List.length_map,List.getElem?_map,hc];rfl),c,ks,ns,rfl,SqL.of (w1 _ _ hC),hN,by omega,fun a2 h2=>?_⟩
  have w2:Same H3 (upd (upd H3 a1 (NS P w a1 (inI ms) (manyI ms))) a2 (NS P w a2 (inI ns) (manyI ns))):=w1.upd_free (w1.free h2)
  refine⟨a2,_,_,rfl,upd_same,_,_,rfl,rfl,_,rfl,?_⟩
  generalize hH4:upd (upd H3 a1 (NS P w a1 (inI ms) (manyI ms))) a2 (NS P w a2 (inI ns) (manyI ns))=H4 at w2
  refine ite2 (fun hgt=>?_) (fun hle=>?_)
  ·have hgt':manyI ns<manyI ms:=by have:=of_decide_eq_true hgt;omega
   refine⟨fun σ' H'=>∃m',m'<rs.length+1-manyI ns/\∃(cs:List Addr) (kr c:Addr) (ms ns:List Int) (ks:List V),σ'=[some (.ref p),some (.ref l),some (.ref kr)]/\m'=rs.length+1-manyI ns/\Same H H'/\H' l=some (.lst (cs.map V.ref))/\Lvs H' rs many cs/\(∀(i:Nat) (c:Addr),cs[i]?=some c->c≠l)/\l≠kr∧
    cs[cs.length-1]?=some c/\cs.length<=manyI ns/\H' c=some (.lst ks)/\Nums ks ns/\Lev rs many (cs.length-1) ns/\H' kr=some (.lst (ms.map V.int))/\Lev rs many (cs.length-1+1) ms,fun σ' H' z=>z,?_⟩
   refine⟨_,rfl,.inl ⟨rfl,_,SqL.of (w2 _ _ hL)⟩,_,rfl,l,_,_,rfl,rfl,w2 _ _ hL,small1000 (by rw[List.length_map];omega),?_⟩
   generalize hH5:upd H4 l (.lst (cs.map V.ref++[.ref kr]))=H5
   have t5:Same H H5:=by rw[<- hH5];exact(t3.trans w2).upd_free hlH
   have hL5:H5 l=some (.lst ((cs++[kr]).map V.ref)):=by rw[<- hH5,upd_same,List.map_append];rfl
   have hK5:H5 kr=some (.lst (ms.map V.int)):=by rw[<- hH5,upd_ne (Ne.symm nk)];exact w2 _ _ hK
   have mle2:=many_le ms
   refine⟨_,rfl,_,rfl,p,kr,qs,many,rs,_,ms,rfl,t5 _ _ hp,hR.same t5,G,hK5,nums_ints ms,mlen,fun kr' ms' H6 s6 hkr' hK' FN'=>?_⟩
   have el:(cs++[kr]).length-1=cs.length:=by rw[List.length_append,List.length_singleton];omega
   have el2:cs.length-1+1=cs.length:=by omega
   rw[el2] at Lm
   refine⟨rs.length+1-manyI ms,by omega,cs++[kr],kr',kr,ms',ms,_,rfl,rfl,t5.trans s6,s6 _ _ hL5,fun i c' e=>?_,fun i c' e=>?_,(fun e=>by rw[<- e,hL5] at hkr';cases hkr'),?_,by rw[List.length_append,List.length_singleton];omega,s6 _ _ hK5,nums_ints ms,by rw[el];exact Lm,hK',by rw[el];exact FN'.lev G Lm⟩
   ·by_cases hi:i<cs.length
    ·rw[List.getElem?_append_left hi] at e
     obtain⟨ks',ns',g1,g2,g3⟩:=LV i c' e
     refine⟨ks',ns',s6 _ _ ?_,g2,g3⟩
     rw[<- hH5,upd_ne (nl i c' e)]
     exact w2 _ _ g1
    ·have hi2:=(List.getElem?_eq_some_iff.mp e).1
     rw[List.length_append,List.length_singleton] at hi2
     have ei:i=cs.length:=by omega
     subst ei
     rw[List.getElem?_append_right (Nat.le_refl _),Nat.sub_self] at e
     cases e
     exact⟨_,ms,s6 _ _ hK5,nums_ints ms,Lm,ints_uni ms⟩
   ·by_cases hi:i<cs.length
    ·rw[List.getElem?_append_left hi] at e
     exact nl i c' e
    ·have hi2:=(List.getElem?_eq_some_iff.mp e).1
     rw[List.length_append,List.length_singleton] at hi2
     have ei:i=cs.length:=by omega
     subst ei
     rw[List.getElem?_append_right (Nat.le_refl _),Nat.sub_self] at e
     cases e
     exact Ne.symm nk
   ·rw[el,List.getElem?_append_right (Nat.le_refl _),Nat.sub_self]
    rfl
  ·have hle':manyI ms<=manyI ns:=by
    have:¬(manyI ns:Int)<manyI ms:=fun z=>hle (decide_eq_true z)
    omega
   refine⟨_,rfl,k l cs H4 (t3.trans w2) (w2 _ _ hL) (LV.same w2) ⟨cpos,by omega⟩ fun x y hx hy e=>?_⟩
   exact stays Lc Lm hle' hx hy e
end
end K23
namespace K23
open PySem L2 K20 K21 K60
section
variable {X:Cx} {o i value:Expr} {pos pos':Pos} {td ty tv:TE}
theorem pe_ngetP (P:Program)(w:World)(hP:X.prog=P)(hw:X.w=w)(ho:PE X o td)(hi:PE X i ty)(hs:NoSl i):PE X (.Subscript o i pos) (tNGet P w td ty):=by
 subst hP hw
 exact pe_nget ho hi hs
theorem pc_nnotinP (P:Program)(w:World)(hP:X.prog=P)(hw:X.w=w)(hi:PE X i ty)(ho:PE X o td):PC X .NotIn i o (tNNotIn P w ty td):=by
 subst hP hw
 exact pc_nnotin hi ho
theorem ps_nputP (P:Program)(w:World)(hP:X.prog=P)(hw:X.w=w)(ho:PE X o td)(hi:PE X i ty)(hv:PE X value tv)(hs:swapsWith value (some (.Subscript o i pos')) pos.line X.env=pure false):PS X (.Assign [.Subscript o i pos'] value pos) (sNPut P w td ty tv):=by
 subst hP hw
 exact ps_nput ho hi hv hs
theorem pe_ndispP (P:Program)(w:World)(hP:X.prog=P)(hw:X.w=w){ke ve:Expr}(h:PE X ke ty)(hv:PE X ve tv):PE X (.Dict [some ke] [ve] pos) (tNDisp P w ty tv):=by
 subst hP hw
 exact pe_ndisp h hv
end
def kvF:Nat->List Int->List (Int×V)
 |_,[]=>[]
 |n,k::l=>(k,V.int (n:Int))::kvF (n+1) l
theorem kvF_len:∀(l:List Int) (n:Nat),(kvF n l).length=l.length
 | [],_=>rfl
 |k::l,n=>by simp only[kvF,List.length_cons,kvF_len l (n+1)]
theorem kvF_none (k:Int):∀(l:List Int) (n:Nat),k∉l->valV (kvF n l) k=none
 | [],_,_=>rfl
 |x::l,n,h=>by
  rw[List.mem_cons,not_or] at h
  show valV ((x,V.int (n:Int))::kvF (n+1) l) k=none
  rw[valV_neg (fun z=>h.1 z.symm)]
  exact kvF_none k l (n+1) h.2
theorem kvF_some (k:Int):∀(l:List Int) (n:Nat),k∈l->valV (kvF n l) k=some (.int ((n+l.idxOf k:Nat):Int))
 | [],_,h=>by cases h
 |x::l,n,h=>by
  show valV ((x,V.int (n:Int))::kvF (n+1) l) k=_
  by_cases e:x=k
  ·rw[valV_pos e,e]
   simp
  ·have hk:k∈l:=(List.mem_cons.mp h).resolve_left fun z=>e z.symm
   rw[valV_neg e,kvF_some k l (n+1) hk,List.idxOf_cons]
   have:(x==k)=false:=by simpa using e
   rw[this]
   simp only[cond_false]
   rw[show n+1+l.idxOf k=n+(l.idxOf k+1) by omega]
theorem kvF_snoc (x:Int):∀(l:List Int) (n:Nat),kvF n (l++[x])=kvF n l++[(x,.int ((n+l.length:Nat):Int))]
 | [],n=>rfl
 |y::l,n=>by
  show(y,V.int (n:Int))::kvF (n+1) (l++[x])=_
  rw[kvF_snoc x l (n+1)]
  simp only[kvF,List.cons_append,List.length_cons]
  rw[show n+1+l.length=n+(l.length+1) by omega]
theorem rows_snoc {H:Hp}{qs:List Addr}{rs:Rms}{r:Bool×List Int}{q z:Addr}(h:RowsAt H qs rs)(h1:H q=some (.tup [.bl r.1,.ref z]))(h2:H z=some (.tup (r.2.map V.int))):RowsAt H (qs++[q]) (rs++[r]):=by
 refine⟨by rw[List.length_append,List.length_append,h.1];rfl,fun i r' er=>?_⟩
 by_cases hlt:i<rs.length
 ·rw[List.getElem?_append_left hlt] at er
  obtain⟨q',z',g1,g2,g3⟩:=h.2 i r' er
  exact⟨q',z',by rw[List.getElem?_append_left (by rw[h.1];exact hlt)];exact g1,g2,g3⟩
 ·have hi2:=(List.getElem?_eq_some_iff.mp er).1
  rw[List.length_append,List.length_singleton] at hi2
  have ei:i=rs.length:=by omega
  subst ei
  rw[List.getElem?_append_right (Nat.le_refl _),Nat.sub_self] at er
  cases er
  refine⟨q,z,?_,h1,h2⟩
  rw[List.getElem?_append_right (by rw[h.1];exact Nat.le_refl _),h.1,Nat.sub_self]
  rfl
theorem rows_tsame {H H':Hp}{qs:List Addr}{rs:Rms}(h:RowsAt H qs rs)(s:TSame H H'):RowsAt H' qs rs:=⟨h.1,fun i r e=>by
 obtain⟨q,z,h1,h2,h3⟩:=h.2 i r e
 exact⟨q,z,h1,s _ _ h2,s _ _ h3⟩⟩
def spMr (P:Program)(w:World):Sp:=fun vs H Q _=>∃(q c dn z:Addr) (b:Bool) (ts:List Int) (ks:List V) (ns:List Int) (kvs:List (Int×V)) (g:Int->Int),vs=[.ref q,.ref c,.ref dn]/\H q=some (.tup [.bl b,.ref z])/\H z=some (.tup (ts.map V.int))/\H c=some (.lst ks)/\Nums ks ns∧
 H dn=some (ND P w dn kvs)/\ts.length<=8/\(∀t∈ts,0<=t/\t<(ns.length:Int)/\valV kvs (kn ns t)=some (.int (g t)))∧
 ∀(m zt:Addr) (H':Hp),Same H H'->H' m=some (.tup [.bl b,.ref zt])->H' zt=some (.tup ((ts.map g).map V.int))->Q (.ref m) H'
def spLs:Sp:=fun vs H Q _=>∃(a:Addr) (many:Int) (rs:Rms),vs=[.ref a]/\MAt H a many rs/\Good many rs∧
 ∀(m:Addr) (ns ch:List Int) (H':Hp),Same H H'->MAt H' m many (minM rs ns ch)->Cls rs many ns->LB rs many ns ch ch.length->Q (.ref m) H'
section
variable {P:Program} {w:World} {K:W.Frag} {mg:Str->Option Value} {base:Heap}
theorem scMr:FnScope ["room","kinds","numbers"] ["room","kinds","numbers"] (defScope sMr):=.of (by decide +kernel)
def scopeMr:Scope:=⟨.function,[(".0",.local),("there",.local),("kinds",.free),("numbers",.free)],false,false,[]⟩
theorem scMr1:BlkScope (defScope sMr) ["room","kinds","numbers"] ["there"] ["kinds","numbers"] [1,2] scopeMr:=.of (by decide +kernel)
theorem ok_mr (F:Fun K "merged_room" "merged_room" sMr f fd)(T:Txt mg):FnOk P w K mg base CX0 1 f fd ["room","kinds","numbers"] (spMr P w):=by
 refine F.ok scMr (fun vs H Q E h=>?_) (fun cdv A outer s H vs Q E hr h=>?_)
 ·obtain⟨q,c,dn,z,b,ts,ks,ns,kvs,g,rfl,_⟩:=h
  rfl
 ·obtain⟨q,c,dn,z,b,ts,ks,ns,kvs,g,rfl,hq,hz,hc,hN,hdn,h8,hv,k⟩:=h
  refine⟨_,pss_one (ps_ret (pe_tup (pa_cons (pe_ix ix_tup (pv 0) pe_int (fun _ _=>rfl)) (pa_cons (pe_callTy call_tuple_of (by rfl) T.tuple PyProof.Rows.boot_tuple (pa_cons
   (pe_lc scMr1 rfl rfl rfl (pi_tup (pe_ix ix_tup (pv 0) pe_int (fun _ _=>rfl))) (fun fp C s1 H1=>pg_name (i:=0) scMr1.nd rfl (Or.inl rfl)) (fun fp C s1 H1=>pts_nil) (fun fp C s1 H1=>pe_ngetP P w rfl rfl (pv 2) (pe_ix (r:=rIxL K) ix_list (pv 1) (pv 0) (fun _ _=>rfl)) (fun _ _=>rfl))) pa_nil)) pa_nil)))),?_⟩
  refine⟨_,rfl,q,_,_,_,rfl,rfl,SqT.of hq,rfl,_,rfl,q,_,_,_,rfl,rfl,SqT.of hq,rfl,z,rfl,⟨_,SqT.of hz⟩,fun D hD=>?_⟩
  refine lc_tup (K:=K) (a:=z) (xs:=ts.map V.int) (fun j ys H3=>Same H H3/\H3 D=some (.lst ys)/\ys.length=j/\ys=((ts.take j).map g).map V.int) (Nat.le_of_lt (small1000 (by rw[List.length_map];omega)))
   ⟨(Same.refl H).upd_free hD,upd_same,rfl,rfl⟩ (fun j ys H3 h=>Nat.le_of_eq h.2.2.1) (fun j ys H3 h=>SqT.of (h.1 _ _ hz)) ?_ ?_
  ·rintro j ys H3 x N M hx ⟨u1,u2,u3,u4⟩ hN' hM
   rw[List.getElem?_map] at hx
   cases et:ts[j]? with
   |none=>rw[et] at hx;cases hx
   |some t=>
    rw[et] at hx
    cases hx
    have ht:=hv t (List.mem_of_getElem? et)
    obtain⟨nt,ent⟩:=some_at ns t ht.1 ht.2.1
    obtain⟨kt,ekt,nkt⟩:=hN.get ent
    have e2:kn ns t=nt:=getD_of ent
    refine⟨_,rfl,_,rfl,_,rfl,c,_,_,_,rfl,rfl,SqL.of (u1 _ _ hc),atI_int ht.1 ekt,dn,kvs,nt,_,rfl,u1 _ _ hdn,nkt,by rw[<- e2];exact ht.2.2,?_⟩
    refine hN' _ H3 u2 ⟨u1.upd_free hD,upd_same,by rw[List.length_append,List.length_singleton,u3],?_⟩
    rw[List.take_add_one,et,List.map_append,List.map_append,u4]
    rfl
  ·rintro ys H3 ⟨u1,u2,u3,u4⟩
   rw[List.length_map,List.take_of_length_le (Nat.le_refl _)] at u4
   refine⟨D,_,rfl,.inl ⟨SqL.of u2,fun zt hzt=>?_⟩⟩
   refine⟨(by show 2<=sizeLine;decide),fun m hm=>?_⟩
   have nzm:zt≠m:=fun e=>by rw[e,upd_same] at hm;cases hm
   have hm3:H3 m=none:=by rw[upd_ne (Ne.symm nzm)] at hm;exact hm
   exact k m zt _ (u1.trans (((Same.refl H3).upd_free hzt).upd_free hm3)) upd_same (by rw[upd_ne nzm,upd_same,u4])
theorem scLs:FnScope ["machine","rooms","kinds","chosen","numbers","done","here","there"] ["machine"] (defScope sLs):=.of (by decide +kernel)
def scopeLs:Scope:=⟨.function,[(".0",.local),("room",.local),("merged_room",.globalImplicit),("kinds",.free),("numbers",.free),("rooms",.free)],false,false,[]⟩
theorem scLs1:BlkScope (defScope sLs) ["machine","rooms","kinds","chosen","numbers","done","here","there"] ["room"] ["kinds","numbers","rooms"] [2,4,1] scopeLs:=.of (by decide +kernel)
theorem ok_ls {fM:Addr}(F:Fun K "least" "least" sLs f fd)(T:Txt mg)
  (FF:Fun K "finer_kinds" "finer_kinds" sFk fF fdF) (bF:Binds K fdF ["rooms","kinds"] []) (gF:mg "finer_kinds"=some (.ref fF))
  (FK:Fun K "kinds_by_length" "kinds_by_length" sKl fK fdK) (bK:Binds K fdK ["rooms"] []) (gK:mg "kinds_by_length"=some (.ref fK))
  (FM:Fun K "merged_room" "merged_room" sMr fM fdM) (bM:Binds K fdM ["room","kinds","numbers"] []) (gM:mg "merged_room"=some (.ref fM)):FnOk P w K mg base CX0 3 f fd ["machine"] spLs:=by
 have GK:FnOk P w K mg base CX0 2 fK fdK ["rooms"] spKl:=ok_kl FK T FF bF gF
 have GM:FnOk P w K mg base CX0 1 fM fdM ["room","kinds","numbers"] (spMr P w):=ok_mr FM T
 refine F.ok scLs (fun vs H Q E h=>?_) (fun cdv A outer s H vs Q E hr h=>?_)
 ·obtain⟨a,many,rs,rfl,_⟩:=h
  rfl
 ·obtain⟨a,many,rs,rfl,M,G,k⟩:=h
  obtain⟨p,qs,m1,m2,m3⟩:=id M
  have gle:=G.le
  have gmn:=G.mn
  have hr1:Room 1 _:=hr.mono (by decide)
  refine⟨_,pss_cons (ps_set (i:=1) scLs.nd rfl (Or.inr rfl) (pe_ix ix_tup (pv 0) pe_int (fun _ _=>rfl)))
   (pss_cons (ps_set (i:=2) scLs.nd rfl (Or.inr rfl) (pe_ix ix_list (pe_call GK hr rfl gK FK.kp bK .nil pass0 (pa_cons (pv 1) pa_nil)) (pe_un un_neg pe_int) (fun _ _=>rfl)))
   (pss_cons (ps_set (i:=3) scLs.nd rfl (Or.inl rfl) (pe_lst (pa_cons pe_int pa_nil)))
   (pss_cons (ps_set (i:=4) scLs.nd rfl (Or.inr rfl) (pe_ndispP P w rfl rfl (pe_ix ix_list (pv 2) pe_int (fun _ _=>rfl)) pe_int))
   (pss_cons (ps_set (i:=5) scLs.nd rfl (Or.inl rfl) pe_int)
   (pss_cons (ps_while PassesOwn.never (pt_cmpR op_lt (pv 5) (pe_callB call_len_seq (by rfl) T.len PySem.boot_len (pa_cons (pv 3) pa_nil)) (nomark _))
    (pss_cons (ps_set (i:=6) scLs.nd rfl (Or.inl rfl) (pe_ix ix_list (pv 3) (pv 5) (fun _ _=>rfl)))
    (pss_cons (ps_for PassesOwn.never rfl (pi_tup (pe_ix ix_tup (pe_ix ix_tup (pv 1) (pv 6) (fun _ _=>rfl)) pe_int (fun _ _=>rfl))) (pg_name (i:=7) scLs.nd rfl (Or.inl rfl))
     (pss_one (ps_if (pt_cmp (pc_nnotinP P w rfl rfl (pe_ix ix_list (pv 2) (pv 7) (fun _ _=>rfl)) (pv 4)))
      (pss_cons (ps_nputP P w rfl rfl (pv 4) (pe_ix ix_list (pv 2) (pv 7) (fun _ _=>rfl)) (pe_callB call_len_seq (by rfl) T.len PySem.boot_len (pa_cons (pv 3) pa_nil)) rfl)
      (pss_one (ps_expr (pe_bm PySem.F.plainAttrs_list PySem.F.slot_list_append PySem.F.type_list_append mt_append (pv 3) (pa_cons (pv 7) pa_nil)))))
      pss_nil)))
    (pss_one (ps_set (i:=5) scLs.nd rfl (Or.inl rfl) (pe_op op_add (pv 5) pe_int))))))
   (pss_one (ps_ret (pe_tup (pa_cons (pe_ix ix_tup (pv 0) pe_int (fun _ _=>rfl)) (pa_cons (pe_callTy call_tuple_of (by rfl) T.tuple PyProof.Rows.boot_tuple (pa_cons
    (pe_lc scLs1 rfl rfl rfl (pi_list (pv 3)) (fun fp C s1 H1=>pg_name (i:=0) scLs1.nd rfl (Or.inl rfl)) (fun fp C s1 H1=>pts_nil)
     (fun fp C s1 H1=>pe_call GM hr1 rfl gM FM.kp bM .nil pass0 (pa_cons (pe_ix (r:=rIxT K) ix_tup (pv 3) (pv 0) (fun _ _=>rfl)) (pa_cons (pv 1) (pa_cons (pv 2) pa_nil))))) pa_nil)) pa_nil)))))))))),?_⟩
  refine⟨_,rfl,a,_,_,_,rfl,rfl,SqT.of m1,rfl,?_⟩
  refine⟨_,rfl,p,qs,many,rs,rfl,m2,m3,G,fun lv cs H1 s1 hLv LW ⟨cpos,_⟩ st=>?_⟩
  obtain⟨c,ec⟩:∃c,cs[cs.length-1]?=some c:=⟨cs[cs.length-1],by simp[cpos]⟩
  obtain⟨ks,ns,hc,hN,Lc,_⟩:=LW _ c ec
  have C:Cls rs many ns:=Lc.cls G st
  have nlen:=C.len
  refine⟨_,rfl,lv,_,_,_,rfl,rfl,SqL.of hLv,atI_last (by rw[List.length_map,List.getElem?_map,ec];rfl),?_⟩
  refine⟨(by show 1<=sizeLine;decide),fun lc hlc=>?_⟩
  intro dn hdn
  have nld:lc≠dn:=fun e=>by rw[<- e,upd_same] at hdn;cases hdn
  have hdn1:H1 dn=none:=by rw[upd_ne (Ne.symm nld)] at hdn;exact hdn
  have s2:Same H1 (upd (upd H1 lc (.lst [.int 0])) dn (ND P w dn [])):=((Same.refl H1).upd_free hlc).upd_free hdn1
  have hp0:=G.pos
  obtain⟨n0,en0⟩:=some_at ns 0 (Int.le_refl 0) (by omega)
  obtain⟨k0,ek0,nk0⟩:=hN.get en0
  refine⟨_,rfl,c,_,_,_,rfl,rfl,SqL.of (s2 _ _ hc),atI_int (Int.le_refl 0) ek0,upd_same,k0,.int 0,n0,rfl,nk0,?_⟩
  have e0:kn ns 0=n0:=getD_of en0
  have hlcH:H lc=none:=s1.free hlc
  have hdnH:H dn=none:=s1.free hdn1
  refine⟨fun mm σ H2=>∃(ch:List Int) (d:Nat) (v6 v7:Option V),σ=[some (.ref a),some (.ref p),some (.ref c),some (.ref lc),some (.ref dn),some (.int (d:Int)),v6,v7]/\mm=rs.length+1-d/\Same H1 H2/\H2 lc=some (.lst (ch.map V.int))/\H2 dn=some (ND P w dn (kvF 0 (cl ns ch)))/\LB rs many ns ch d,
   ⟨_,[0],0,none,none,rfl,rfl,?_,?_,?_,LB.init G⟩,?_⟩
  ·rw[upd_upd]
   exact((Same.refl H1).upd_free hlc).upd_free hdn1
  ·rw[upd_ne nld,upd_ne nld,upd_same]
   rfl
  ·rw[upd_same,<- e0]
   rfl
  rintro mm σ H2 ⟨ch,d,v6,v7,rfl,rfl,t2,hL,hD,B⟩
  have hchl:=ch_len B.nd B.ok
  have hdl:=B.dl
  refine⟨_,rfl,_,rfl,lc,_,rfl,.inl (SqL.of hL),_,_,rfl,rfl,_,rfl,?_⟩
  rw[List.length_map]
  refine ite2 (fun hlt=>?_) (fun hge=>?_)
  ·have hlt':d<ch.length:=by
    have:=of_decide_eq_true hlt
    omega
   obtain⟨x0,hx0⟩:∃x0,ch[d]?=some x0:=⟨ch[d],by simp[hlt']⟩
   have ok0:=B.ok x0 (List.mem_of_getElem? hx0)
   refine⟨fun σ' H'=>∃m',m'<rs.length+1-d/\∃(ch:List Int) (d:Nat) (v6 v7:Option V),σ'=[some (.ref a),some (.ref p),some (.ref c),some (.ref lc),some (.ref dn),some (.int (d:Int)),v6,v7]/\m'=rs.length+1-d/\Same H1 H'/\H' lc=some (.lst (ch.map V.int))/\H' dn=some (ND P w dn (kvF 0 (cl ns ch)))/\LB rs many ns ch d,fun σ' H' z=>z,?_⟩
   obtain⟨r,er⟩:=some_at rs x0 ok0.1 ok0.2
   obtain⟨rq,rz,r1,r2,r3⟩:=(m3.same s1).2 _ _ er
   have hrow:=G.row r (List.mem_of_getElem? er)
   have enx:nx rs x0=r.2:=by unfold nx;rw[getD_of er]
   refine⟨_,rfl,_,rfl,lc,_,_,_,rfl,rfl,SqL.of hL,atI_nat (by rw[List.getElem?_map,hx0];rfl),?_⟩
   refine⟨_,rfl,_,rfl,p,_,_,_,rfl,rfl,SqT.of (t2 _ _ (s1 _ _ m2)),atI_int ok0.1 (by rw[List.getElem?_map,r1];rfl),rq,_,_,_,rfl,rfl,SqT.of (t2 _ _ r2),rfl,rz,rfl,⟨_,SqT.of (t2 _ _ r3)⟩,?_⟩
   refine for_tup (K:=K) (a:=rz) (xs:=r.2.map V.int) (fun j σ H3=>∃(ch':List Int) (v7:Option V),σ=[some (.ref a),some (.ref p),some (.ref c),some (.ref lc),some (.ref dn),some (.int (d:Int)),some (.int x0),v7]/\Same H1 H3/\H3 lc=some (.lst (ch'.map V.int))/\H3 dn=some (ND P w dn (kvF 0 (cl ns ch')))/\LV rs many ns ch' d x0 j)
    ⟨ch,v7,rfl,t2,hL,hD,B.start hx0⟩ (fun j σ H3 _ ⟨_,_,_,t3,_⟩=>SqT.of (t3 _ _ r3)) ?_ ?_
   ·rintro j x σ H3 hx ⟨ch',v7,rfl,t3,hL3,hD3,VI⟩
    rw[List.getElem?_map] at hx
    cases et:r.2[j]? with
    |none=>rw[et] at hx;cases hx
    |some t=>
     rw[et] at hx
     cases hx
     have ht:=hrow.2 t (List.mem_of_getElem? et)
     obtain⟨nt,ent⟩:=some_at ns t ht.1 (by rw[nlen];exact ht.2)
     obtain⟨kt,ekt,nkt⟩:=hN.get ent
     have ekn:kn ns t=nt:=getD_of ent
     have hch':=ch_len VI.nd VI.ok
     refine⟨_,rfl,_,rfl,c,_,_,_,rfl,rfl,SqL.of (t3 _ _ hc),atI_int ht.1 ekt,_,rfl,dn,_,nt,rfl,hD3,nkt,_,rfl,?_⟩
     by_cases hm:kn ns t∈cl ns ch'
     ·rw[show valV (kvF 0 (cl ns ch')) nt=some (.int ((0+(cl ns ch').idxOf (kn ns t):Nat):Int)) by rw[<- ekn];exact kvF_some _ _ 0 hm]
      refine iteF ?_
      exact⟨ch',_,rfl,t3,hL3,hD3,VI.old (by rw[enx];exact et) hm⟩
     ·have hv:valV (kvF 0 (cl ns ch')) nt=none:=by rw[<- ekn];exact kvF_none _ _ 0 hm
      rw[hv]
      refine iteT ?_
      refine⟨_,rfl,lc,_,rfl,.inl (SqL.of hL3),_,rfl,_,rfl,_,rfl,c,_,_,_,rfl,rfl,SqL.of (t3 _ _ hc),atI_int ht.1 ekt,dn,_,nt,rfl,hD3,nkt,small1000 (by rw[kvF_len];unfold cl;rw[List.length_map];omega),?_⟩
      have hL4:(upd H3 dn (ND P w dn (putK (kvF 0 (cl ns ch')) nt (.int ((ch'.map V.int).length:Int))))) lc=some (.lst (ch'.map V.int)):=by rw[upd_ne nld];exact hL3
      refine⟨_,rfl,.inl ⟨rfl,_,SqL.of hL4⟩,_,rfl,lc,_,_,rfl,rfl,hL4,small1000 (by rw[List.length_map];omega),?_⟩
      refine⟨ch'++[t],_,rfl,(t3.upd_free hdn1).upd_free hlc,by rw[upd_same,List.map_append];rfl,?_,VI.new G (by rw[enx];exact et) hm⟩
      rw[upd_ne (Ne.symm nld),upd_same,putK_new _ hv]
      have e1:cl ns (ch'++[t])=cl ns ch'++[nt]:=by unfold cl;rw[List.map_append,<- ekn];rfl
      rw[e1,kvF_snoc,List.length_map]
      unfold cl
      rw[List.length_map,Nat.zero_add]
   ·rintro σ H3 ⟨ch',v7,rfl,t3,hL3,hD3,VI⟩
    rw[List.length_map] at VI
    refine⟨_,rfl,_,_,rfl,rfl,?_⟩
    exact⟨rs.length+1-(d+1),by omega,ch',d+1,_,_,rfl,rfl,t3,hL3,hD3,VI.done (by rw[enx];exact Nat.le_refl _)⟩
  ·have hge':¬(d:Int)<(ch.length:Int):=fun z=>hge (decide_eq_true z)
   have ed:d=ch.length:=by omega
   subst ed
   have tt:=s1.trans t2
   refine⟨_,rfl,a,_,_,_,rfl,rfl,SqT.of (tt _ _ m1),rfl,_,rfl,lc,rfl,⟨_,SqL.of hL⟩,fun D hD0=>?_⟩
   refine lc_list (K:=K) (a:=lc) (xs:=ch.map V.int) (fun j ys H3=>∃ps:List Addr,ys=ps.map V.ref/\Same H2 H3/\H3 D=some (.lst ys)/\ys.length=j/\RowsAt H3 ps ((ch.take j).map fun c=>(gd rs c,(nx rs c).map (ix ns ch)))) (Nat.le_of_lt (small1000 (by rw[List.length_map];omega)))
    ⟨[],rfl,(Same.refl H2).upd_free hD0,upd_same,rfl,rfl,fun i r e=>by simp at e⟩ (fun j ys H3 ⟨_,_,_,_,h,_⟩=>Nat.le_of_eq h) (fun j ys H3 ⟨_,_,h,_⟩=>SqL.of (h _ _ hL)) ?_ ?_
   ·rintro j ys H3 x N MM hx ⟨ps,rfl,u1,u2,u3,u4⟩ hN' hM
    rw[List.getElem?_map] at hx
    cases et:ch[j]? with
    |none=>rw[et] at hx;cases hx
    |some t=>
     rw[et] at hx
     cases hx
     have hj:j<ch.length:=(List.getElem?_eq_some_iff.mp et).1
     have tr:=B.ok t (List.mem_of_getElem? et)
     obtain⟨r,er⟩:=some_at rs t tr.1 tr.2
     have t3:=tt.trans u1
     obtain⟨rq,rz,r1,r2,r3⟩:=(m3.same t3).2 _ _ er
     have hrow:=G.row r (List.mem_of_getElem? er)
     have enx:nx rs t=r.2:=by unfold nx;rw[getD_of er]
     have egd:gd rs t=r.1:=by unfold gd;rw[getD_of er]
     refine⟨_,rfl,_,rfl,p,_,_,_,rfl,rfl,SqT.of (t3 _ _ m2),atI_int tr.1 (by rw[List.getElem?_map,r1];rfl),_,rfl,_,rfl,rq,c,dn,rz,r.1,r.2,ks,ns,_,ix ns ch,rfl,r2,r3,u1 _ _ (t2 _ _ hc),hN,u1 _ _ hD,by omega,fun u hu=>?_,fun mq zt H4 s4 h1 h2=>?_⟩
     ·have hu':=hrow.2 u hu
      refine⟨hu'.1,by rw[nlen];exact hu'.2,?_⟩
      have hm:=B.cov j t hj et u (by rw[enx];exact hu)
      rw[kvF_some _ _ 0 hm,Nat.zero_add]
      rfl
     ·have nD:∀c ys,H4 c=some (.tup ys)->(upd H4 D (.lst (ps.map V.ref++[.ref mq]))) c=some (.tup ys):=fun c ys e=>by
       rw[upd_ne (ne_of e (s4 _ _ u2) (fun z=>nomatch z))]
       exact e
      refine hN' _ H4 (s4 _ _ u2) ⟨ps++[mq],by rw[List.map_append];rfl,(u1.trans s4).upd_free hD0,upd_same,by rw[List.length_append,List.length_singleton,u3],?_⟩
      rw[List.take_add_one,et,List.map_append]
      refine rows_snoc (rows_tsame (u4.same s4) nD) (z:=zt) ?_ ?_
      ·rw[nD _ _ h1,<- egd]
      ·rw[nD _ _ h2]
       show _=some (HO.tup (((nx rs t).map (ix ns ch)).map V.int))
       rw[enx]
   ·rintro ys H3 ⟨ps,rfl,u1,u2,u3,u4⟩
    rw[List.length_map,List.take_of_length_le (Nat.le_refl _)] at u4
    refine⟨D,_,rfl,.inl ⟨SqL.of u2,fun zt hzt=>?_⟩⟩
    refine⟨(by show 2<=sizeLine;decide),fun m hm=>?_⟩
    have nzm:zt≠m:=fun e=>by rw[e,upd_same] at hm;cases hm
    have hm3:H3 m=none:=by rw[upd_ne (Ne.symm nzm)] at hm;exact hm
    have sw:Same H3 (upd (upd H3 zt (.tup (ps.map V.ref))) m (.tup [.int many,.ref zt])):=((Same.refl H3).upd_free hzt).upd_free hm3
    exact k m ns ch _ ((tt.trans u1).trans sw) ⟨zt,ps,upd_same,by rw[upd_ne nzm,upd_same],u4.same sw⟩ C B
end
end K23
namespace K21
open PySem L2 K20
section
variable {P:Program} {w:World} {K:W.Frag} {mg:Str->Option Value} {base:Heap}
theorem scWh:FnScope ["_law_found"] ["_law_found"] (defScope sWh):=.of (by decide +kernel)
theorem ok_wh (F:Fun K "_law_whole" "_law_whole" sWh f fd)(T:Txt mg):FnOk P w K mg base CX0 1 f fd ["_law_found"] spWh:=by
 refine F.ok scWh (fun vs H Q E h=>?_) (fun cdv A outer s H vs Q E hr h=>?_)
 ·obtain⟨i,rfl,_⟩:=h
  rfl
 ·obtain⟨i,rfl,k⟩:=h
  refine⟨_,pss_one (ps_ret (pe_and (pe_callB call_isinst (by rfl) T.isin PyProof.Rows.boot_isinstance (pa_cons (pv 0) (pa_cons (pe_bltn (v:=.ty "int") (by rfl) T.int PyProof.Rows.boot_int rfl) pa_nil)))
   (pe_one (pe_not (pe_callB call_isinst (by rfl) T.isin PyProof.Rows.boot_isinstance (pa_cons (pv 0) (pa_cons (pe_bltn (v:=.ty "bool") (by rfl) T.bool PyProof.Rows.boot_bool rfl) pa_nil))))))),?_⟩
  refine⟨_,rfl,_,_,_,true,rfl,.int i,rfl,true,rfl,iteT ?_⟩
  exact⟨_,rfl,_,_,_,false,rfl,.int i,rfl,false,rfl,k⟩
theorem scCe:FnScope ["_law_script","_law_k"] ["_law_script","_law_k"] (defScope sCe):=.of (by decide +kernel)
theorem ok_ce (F:Fun K "_law_cell_at" "_law_cell_at" sCe f fd)(T:Txt mg):FnOk P w K mg base CX0 1 f fd ["_law_script","_law_k"] (spCe K):=by
 refine F.ok scCe (fun vs H Q E h=>?_) (fun cdv A outer s H vs Q E hr h=>?_)
 ·obtain⟨a,ns,k,rfl,_⟩:=h
  rfl
 ·obtain⟨a,ns,k,rfl,hS,k0,k1,kk⟩:=h
  have hu:_<cLine:=Nat.lt_of_succ_lt (hu_of hr)
  refine⟨_,pss_cons (ps_if (pt_cmpR op_lt (pv 1) (pe_callB call_len_seq (by rfl) T.len PySem.boot_len (pa_cons (pv 0) pa_nil)) (nomark _)) (pss_one (ps_ret (pe_ix ix_list (pv 0) (pv 1) (fun _ _=>rfl)))) pss_nil)
   (pss_cons (ps_if (pt_cmpR (op_eqL hu) (pv 0) (pe_lst pa_nil) (nomark _)) (pss_one (ps_ret (pe_op op_mod (pe_op op_mul (pe_op op_add (pe_op op_mul (pv 1) (pv 1)) pe_int) pe_int) pe_int))) pss_nil)
   (pss_one (ps_ret (pe_op op_mod (pe_op op_mul (pe_op op_add (pe_op op_mod (pe_ix ix_list (pv 0) pe_int (fun _ _=>rfl)) pe_int) pe_int) (pe_op op_add (pe_op op_mul (pv 1) (pv 1)) pe_int)) pe_int)))),?_⟩
  refine⟨_,rfl,_,rfl,a,_,rfl,.inl hS,_,_,rfl,rfl,_,rfl,?_⟩
  refine ite2 (fun hlt=>?_) (fun hge=>?_)
  ·have hlt':k<(ns.length:Int):=by simpa using hlt
   obtain⟨z,ez⟩:=some_at ns k k0 hlt'
   exact⟨_,rfl,_,rfl,a,_,_,_,rfl,rfl,hS,atI_int k0 (by rw[List.getElem?_map,ez];rfl),kk z H (Same.refl H)⟩
  ·refine⟨_,rfl,Nat.zero_le _,fun l hl=>?_⟩
   have s1:Same H (upd H l (.lst [])):=(Same.refl H).upd_free hl
   refine⟨a,l,_,_,rfl,rfl,s1.seq hS,SqL.of upd_same,ints_flat ns,rfl,_,rfl,?_⟩
   cases ns with
   |nil=>
    refine iteT ?_
    exact⟨_,rfl,_,rfl,_,_,rfl,rfl,.inl ⟨by omega,by omega⟩,_,_,rfl,rfl,_,_,rfl,rfl,.inr ⟨by decide,by decide⟩,_,_,rfl,rfl,(by show(0:Int)<2147483647;decide),kk _ _ s1⟩
   |cons n0 ns=>
    refine iteF ?_
    refine⟨_,rfl,a,_,_,.int n0,rfl,rfl,s1.seq hS,atI_int (Int.le_refl 0) rfl,_,_,rfl,rfl,(by show(0:Int)<2147483647;decide),_,_,rfl,rfl,_,rfl,_,rfl,_,_,rfl,rfl,.inl ⟨by omega,by omega⟩,_,_,rfl,rfl,_,_,rfl,rfl,.inl ⟨by omega,by omega⟩,_,_,rfl,rfl,(by show(0:Int)<2147483629;decide),kk _ _ s1⟩
end
end K21
namespace K21
open PySem L2 K20
section
variable {P:Program} {w:World} {K:W.Frag} {mg:Str->Option Value} {base:Heap}
theorem scRB:FnScope ["machine","room","run","rooms","here","letter"] ["machine","room","run"] (defScope sRB):=.of (by decide +kernel)
theorem ok_rb (F:Fun K "room_behind" "room_behind" sRB f fd):FnOk P w K mg base CX0 1 f fd ["machine","room","run"] spRB:=by
 refine F.ok scRB (fun vs H Q E h=>?_) (fun cdv A outer s H vs Q E hr h=>?_)
 ·obtain⟨a,p,h,many,rs,run,rfl,_⟩:=h
  rfl
 ·obtain⟨a,p,h,many,rs,run,rfl,M,G,h0,h1,hp,hl,k⟩:=h
  obtain⟨pr,qs,m1,m2,m3⟩:=M
  refine⟨_,pss_cons (ps_set (i:=3) scRB.nd rfl (Or.inl rfl) (pe_ix ix_tup (pv 0) pe_int (fun _ _=>rfl)))
   (pss_cons (ps_set (i:=4) scRB.nd rfl (Or.inl rfl) (pv 1))
   (pss_cons (ps_for PassesOwn.never rfl (pi_tup (pv 2)) (pg_name (i:=5) scRB.nd rfl (Or.inl rfl))
    (pss_one (ps_set (i:=4) scRB.nd rfl (Or.inl rfl) (pe_ix ix_tup (pe_ix ix_tup (pe_ix ix_tup (pv 3) (pv 4) (fun _ _=>rfl)) pe_int (fun _ _=>rfl)) (pv 5) (fun _ _=>rfl)))))
   (pss_one (ps_ret (pv 4))))),?_⟩
  refine⟨_,rfl,a,_,_,_,rfl,rfl,SqT.of m1,rfl,_,rfl,_,rfl,p,rfl,⟨_,SqT.of hp⟩,?_⟩
  refine for_tup (K:=K) (a:=p) (xs:=run.map V.int) (fun i σ H2=>H2=H/\∃v,σ=[some (.ref a),some (.int h),some (.ref p),some (.ref pr),some (.int (walkM rs h (run.take i))),v]) ⟨rfl,none,rfl⟩ (fun i σ H2 _ ⟨e,_⟩=>by rw[e];exact SqT.of hp) ?_ ?_
  ·rintro i x σ H2 hx ⟨rfl,v,rfl⟩
   rw[List.getElem?_map] at hx
   cases el:run[i]? with
   |none=>rw[el] at hx;cases hx
   |some l=>
    rw[el] at hx
    cases hx
    have hw:=walk_in G (run.take i) h h0 h1 (fun l' h'=>hl l' (List.mem_of_mem_take h'))
    have hll:=hl l (List.mem_of_getElem? el)
    obtain⟨q,z,b,ns,e1,e2,e3,e4,_⟩:=arrow G m3 hw.1 hw.2 hll.1 hll.2
    refine⟨_,rfl,_,rfl,pr,_,_,_,rfl,rfl,SqT.of m2,e1,q,_,_,_,rfl,rfl,SqT.of e2,rfl,_,rfl,z,_,_,_,rfl,rfl,SqT.of e3,e4,?_⟩
    refine⟨rfl,some (.int l),?_⟩
    rw[walk_take rs h run i l el]
    rfl
  ·rintro σ H2 ⟨rfl,v,rfl⟩
   refine⟨_,rfl,?_⟩
   rw[List.take_of_length_le (by simp)]
   exact k
end
end K21
namespace LN
open PySem L2 SO K20 K21 K60 K23 K24
structure TK (K:W.Frag)(C:Addr):Prop where
 cls:Cls K C
 nM:NoAttr K C "many"
 nH:NoAttr K C "heads"
 nT:NoAttr K C "tails"
 nA:NoAttr K C "answers"
abbrev tbF (many:Int)(hA tA aA:Addr):List (Str×V):=[("many",.int many),("heads",.ref hA),("tails",.ref tA),("answers",.ref aA)]
structure Ad where
 o:Addr
 dx:Addr
 hA:Addr
 tA:Addr
 aA:Addr
structure TbAt (P:Program)(w:World)(C:Addr)(T:List Int->Bool)(H:Hp)(a:Ad)(many:Int)(hs tl as:List (List Int)):Prop where
 ob:H a.o=some (.ins C a.dx (tbF many a.hA a.tA a.aA))
 hd:∃ps:List Addr,H a.hA=some (.lst (ps.map V.ref))/\TupsAt H ps hs
 tl:∃ps:List Addr,H a.tA=some (.lst (ps.map V.ref))/\TupsAt H ps tl
 an:∃(xs:List (KTu×Addr×V)) (ob:Obj),H a.aA=some (TD P w a.aA xs ob)/\TKs H xs/\xs.map (·.1)=as/\∀x∈xs,x.2.2=.bl (T x.1)
structure Apt (S:Addr->Prop)(a:Ad):Prop where
 o:¬S a.o
 hA:¬S a.hA
 tA:¬S a.tA
 aA:¬S a.aA
 n1:a.aA≠a.hA
 n2:a.aA≠a.tA
 n3:a.hA≠a.tA
abbrev JT:=Hp->List (List Int)->List Rms->Told->Prop
def spMay (S:Addr->Prop)(J:JT)(T:List Int->Bool)(many:Int):Sp:=fun vs H Q _=>∃(p:Addr) (r:List Int) (as:List (List Int)) (ms:List Rms) (ts:Told),vs=[.ref p]/\RA H p r/\Lts many r/\J H as ms ts/\r∉as/\as.length<16000000∧
 ∀H',Sb S H H'->J H' (as++[r]) ms ts->Q (.bl (T r)) H'
structure Hand (T:List Int->Bool)(many:Int)(top:Nat)(as:List (List Int))(ms:List Rms)(m:Rms):Prop where
 can:Can many m
 le:m.length<=top
 right:∀r∈as,Lts many r/\gd m (walkM m 0 r)=T r
 more:∀m'∈ms.getLast?,m'.length<m.length
 few:ms.length<top
def spPar (S:Addr->Prop)(J:JT)(T:List Int->Bool)(many:Int)(top:Nat)(Ans:Rms->List Int->Prop):Sp:=fun vs H Q _=>∃(a:Addr) (m:Rms) (as:List (List Int)) (ms:List Rms) (ts:Told),vs=[.ref a]/\MAt H a many m/\J H as ms ts/\Hand T many top as ms m∧
 (∀H',Sb S H H'->J H' as (ms++[m]) (ts++[none])->Q .non H')/\∀H' p r,Sb S H H'->J H' as (ms++[m]) (ts++[some r])->RA H' p r->Lts many r->r.length<=90->Ans m r->Q (.ref p) H'
structure Tea (P:Program)(w:World)(K:W.Frag)(mg:Str->Option Value)(base:Heap)(k:Nat)(S:Addr->Prop)(J:JT)(T:List Int->Bool)(many:Int)(top:Nat)(Ans:Rms->List Int->Prop)(fm fp:Addr):Prop where
 stay:∀H H' as ms ts,J H as ms ts->(∀a o,S a->H a=some o->H' a=some o)->TSame H H'->J H' as ms ts
 trk:∀H as ms ts,J H as ms ts->∀a,S a->H a≠none
 may:∃fd x ob,base.get? fm=some ob/\ob.data=.func fd/\FnOk P w K mg base CX0 k fm fd [x] (spMay S J T many)/\Binds K fd [x] []
 par:∃fd x ob,base.get? fp=some ob/\ob.data=.func fd/\FnOk P w K mg base CX0 k fp fd [x] (spPar S J T many top Ans)/\Binds K fd [x] []
theorem Tea.same {P:Program}{w:World}{K:W.Frag}{mg:Str->Option Value}{base:Heap}{k:Nat}{S:Addr->Prop}{J:JT}{T:List Int->Bool}{many:Int}{top:Nat}{Ans:Rms->List Int->Prop}{fm fp:Addr}(X:Tea P w K mg base k S J T many top Ans fm fp)
  {H H':Hp} {as:List (List Int)} {ms:List Rms} {ts:Told} (j:J H as ms ts) (s:Same H H'):J H' as ms ts:=X.stay H H' as ms ts j (fun a o _ e=>s a o e) s.tups
section
variable {P:Program} {w:World} {K:W.Frag} {mg:Str->Option Value} {base:Heap} {C:Addr}
variable {S:Addr->Prop} {J:JT} {T:List Int->Bool} {many:Int} {top k:Nat} {Ans:Rms->List Int->Prop} {fm fp:Addr}
abbrev Ma (S:Addr->Prop)(a:Ad):Addr->Prop:=fun b=>S b\/b=a.aA
theorem TbAt.same {H H':Hp}{a:Ad}{hs tl as:List (List Int)}(h:TbAt P w C T H a many hs tl as)(s:Same H H'):TbAt P w C T H' a many hs tl as:=by
 obtain⟨h1,⟨ps,h2,h3⟩,⟨qs,h4,h5⟩,xs,ob,h6,h7,h8,h9⟩:=h
 exact⟨s _ _ h1,⟨ps,s _ _ h2,h3.tsame s.tups⟩,⟨qs,s _ _ h4,h5.tsame s.tups⟩,xs,ob,s _ _ h6,h7.same s.tups,h8,h9⟩
theorem TbAt.sb {H H':Hp}{a:Ad}{hs tl as:List (List Int)}(h:TbAt P w C T H a many hs tl as)(s:Sb S H H')(A:Apt S a):TbAt P w C T H' a many hs tl as:=by
 obtain⟨h1,⟨ps,h2,h3⟩,⟨qs,h4,h5⟩,xs,ob,h6,h7,h8,h9⟩:=h
 exact⟨s.2 _ _ A.o h1,⟨ps,s.2 _ _ A.hA h2,h3.tsame s.1⟩,⟨qs,s.2 _ _ A.tA h4,h5.tsame s.1⟩,xs,ob,s.2 _ _ A.aA h6,h7.same s.1,h8,h9⟩
def spTi (P:Program)(w:World)(C:Addr):Sp:=fun vs H Q _=>∃(o dx:Addr) (many:Int),vs=[.ref o,.int many]/\H o=some (.ins C dx [])/\H dx=some (.own o)∧
 ∀(a:Ad) (H':Hp),(∀T,TbAt P w C T H' a many [[]] [[]] [])->a.o=o->H a.hA=none->H a.tA=none->H a.aA=none->a.aA≠a.hA->a.aA≠a.tA->a.hA≠a.tA->(∀b x,b≠o->H b=some x->H' b=some x)->Q .non H'
def spAn (P:Program)(w:World)(K:W.Frag)(mg:Str->Option Value)(base:Heap)(C:Addr)(k:Nat):Sp:=fun vs H Q _=>∃(S:Addr->Prop) (J:JT) (T:List Int->Bool) (top:Nat) (Ans:Rms->List Int->Prop) (fm fp:Addr) (a:Ad) (many:Int) (hs tl as:List (List Int)) (ms:List Rms) (ts:Told) (p:Addr) (r:List Int),vs=[.ref a.o,.ref p,.ref fm]∧
 Tea P w K mg base k S J T many top Ans fm fp/\Apt S a/\TbAt P w C T H a many hs tl as/\J H as ms ts/\RA H p r/\Lts many r/\as.length<16000000∧
 ∀H' as',Sb (Ma S a) H H'->TbAt P w C T H' a many hs tl as'->J H' as' ms ts->Ex 1 (·=r) as as'->r∈as'->Q (.bl (T r)) H'
theorem scTi:FnScope ["self","many"] ["self","many"] (defScope sTi):=.of (by decide +kernel)
theorem ok_ti (F:Fun K "__init__" "Table.__init__" sTi f fd)(Y:TK K C):FnOk P w K mg base CX0 1 f fd ["self","many"] (spTi P w C):=by
 refine F.ok scTi (fun vs H Q E h=>?_) (fun cdv A outer s H vs Q E hr h=>?_)
 ·obtain⟨o,dx,many,rfl,_⟩:=h
  rfl
 ·obtain⟨o,dx,many,rfl,ho,hdx,k⟩:=h
  refine⟨_,pss_cons (ps_fld (pv 0) (pv 1) rfl) (pss_cons (ps_fld (pv 0) (pe_lst (pa_cons (pe_tup pa_nil) pa_nil)) rfl) (pss_cons (ps_fld (pv 0) (pe_lst (pa_cons (pe_tup pa_nil) pa_nil)) rfl) (pss_one (ps_fld (pv 0) (pe_tnewW (P:=P) (w:=w) rfl rfl) rfl)))),?_⟩
  refine⟨_,rfl,_,rfl,o,C,dx,_,rfl,ho,Y.cls,Y.nM,(by show 0<1000;decide),?_⟩
  have e1:putF ("many":Str) (.int many) []=[(("many":Str),.int many)]:=rfl
  rw[e1]
  have q1:upd H o (.ins C dx [(("many":Str),.int many)]) o=some (.ins C dx [(("many":Str),.int many)]):=upd_same
  have k1:∀b x,b≠o->H b=some x->upd H o (.ins C dx [(("many":Str),.int many)]) b=some x:=fun b x n e=>by rw[upd_ne n];exact e
  have f1:∀b,upd H o (.ins C dx [(("many":Str),.int many)]) b=none->H b=none:=fun b e=>by
   have n:b≠o:=fun z=>by rw[z,upd_same] at e;cases e
   rw[upd_ne n] at e;exact e
  generalize upd H o (.ins C dx [(("many":Str),.int many)])=H1 at q1 k1 f1 ⊢
  refine⟨Nat.zero_le _,fun p1 hp1=>⟨by show 1<=sizeLine;decide,fun l1 hl1=>?_⟩⟩
  have s1:Same H1 (upd H1 p1 (.tup [])):=(Same.refl H1).upd_free hp1
  have s2:Same H1 (upd (upd H1 p1 (.tup [])) l1 (.lst [.ref p1])):=s1.trans ((Same.refl _).upd_free hl1)
  have a1:upd (upd H1 p1 (.tup [])) l1 (.lst [.ref p1]) p1=some (.tup []):=((Same.refl _).upd_free hl1) _ _ upd_same
  have a2:upd (upd H1 p1 (.tup [])) l1 (.lst [.ref p1]) l1=some (.lst [.ref p1]):=upd_same
  have hl1':H1 l1=none:=s1.free hl1
  generalize upd (upd H1 p1 (.tup [])) l1 (.lst [.ref p1])=H2 at s2 a1 a2 ⊢
  refine⟨_,rfl,o,C,dx,_,rfl,s2 _ _ q1,Y.cls,Y.nH,(by show 1<1000;decide),?_⟩
  have e2:putF ("heads":Str) (.ref l1) [(("many":Str),.int many)]=[(("many":Str),.int many),("heads",.ref l1)]:=by
   show(if ("many":Str)="heads" then _ else _)=_
   rw[if_neg (show ¬("many":Str)="heads" by decide +kernel)]
   rfl
  rw[e2]
  have q3:upd H2 o (.ins C dx [(("many":Str),.int many),("heads",.ref l1)]) o=some (.ins C dx [(("many":Str),.int many),("heads",.ref l1)]):=upd_same
  have k3:∀b x,b≠o->H2 b=some x->upd H2 o (.ins C dx [(("many":Str),.int many),("heads",.ref l1)]) b=some x:=fun b x n e=>by rw[upd_ne n];exact e
  have f3:∀b,upd H2 o (.ins C dx [(("many":Str),.int many),("heads",.ref l1)]) b=none->H2 b=none:=fun b e=>by
   have n:b≠o:=fun z=>by rw[z,upd_same] at e;cases e
   rw[upd_ne n] at e;exact e
  generalize upd H2 o (.ins C dx [(("many":Str),.int many),("heads",.ref l1)])=H3 at q3 k3 f3 ⊢
  refine⟨Nat.zero_le _,fun p2 hp2=>⟨by show 1<=sizeLine;decide,fun l2 hl2=>?_⟩⟩
  have t1:Same H3 (upd H3 p2 (.tup [])):=(Same.refl H3).upd_free hp2
  have s4:Same H3 (upd (upd H3 p2 (.tup [])) l2 (.lst [.ref p2])):=t1.trans ((Same.refl _).upd_free hl2)
  have b1:upd (upd H3 p2 (.tup [])) l2 (.lst [.ref p2]) p2=some (.tup []):=((Same.refl _).upd_free hl2) _ _ upd_same
  have b2:upd (upd H3 p2 (.tup [])) l2 (.lst [.ref p2]) l2=some (.lst [.ref p2]):=upd_same
  have hl2':H3 l2=none:=t1.free hl2
  generalize upd (upd H3 p2 (.tup [])) l2 (.lst [.ref p2])=H4 at s4 b1 b2 ⊢
  refine⟨_,rfl,o,C,dx,_,rfl,s4 _ _ q3,Y.cls,Y.nT,(by show 2<1000;decide),?_⟩
  have e3:putF ("tails":Str) (.ref l2) [(("many":Str),.int many),("heads",.ref l1)]=[(("many":Str),.int many),("heads",.ref l1),("tails",.ref l2)]:=by
   show(if ("many":Str)="tails" then _ else _)=_
   rw[if_neg (show ¬("many":Str)="tails" by decide +kernel)]
   show _::(if ("heads":Str)="tails" then _ else _)=_
   rw[if_neg (show ¬("heads":Str)="tails" by decide +kernel)]
   rfl
  rw[e3]
  have q5:upd H4 o (.ins C dx [(("many":Str),.int many),("heads",.ref l1),("tails",.ref l2)]) o=some (.ins C dx [(("many":Str),.int many),("heads",.ref l1),("tails",.ref l2)]):=upd_same
  have k5:∀b x,b≠o->H4 b=some x->upd H4 o (.ins C dx [(("many":Str),.int many),("heads",.ref l1),("tails",.ref l2)]) b=some x:=fun b x n e=>by rw[upd_ne n];exact e
  have f5:∀b,upd H4 o (.ins C dx [(("many":Str),.int many),("heads",.ref l1),("tails",.ref l2)]) b=none->H4 b=none:=fun b e=>by
   have n:b≠o:=fun z=>by rw[z,upd_same] at e;cases e
   rw[upd_ne n] at e;exact e
  generalize upd H4 o (.ins C dx [(("many":Str),.int many),("heads",.ref l1),("tails",.ref l2)])=H5 at q5 k5 f5 ⊢
  intro d ob hd
  have s6:Same H5 (upd H5 d (TD P w d [] ob)):=(Same.refl H5).upd_free hd
  have c1:upd H5 d (TD P w d [] ob) d=some (TD P w d [] ob):=upd_same
  generalize upd H5 d (TD P w d [] ob)=H6 at s6 c1 ⊢
  refine⟨_,rfl,o,C,dx,_,rfl,s6 _ _ q5,Y.cls,Y.nA,(by show 3<1000;decide),?_⟩
  have e4:putF ("answers":Str) (.ref d) [(("many":Str),.int many),("heads",.ref l1),("tails",.ref l2)]=tbF many l1 l2 d:=by
   show(if ("many":Str)="answers" then _ else _)=_
   rw[if_neg (show ¬("many":Str)="answers" by decide +kernel)]
   show _::(if ("heads":Str)="answers" then _ else _)=_
   rw[if_neg (show ¬("heads":Str)="answers" by decide +kernel)]
   show _::_::(if ("tails":Str)="answers" then _ else _)=_
   rw[if_neg (show ¬("tails":Str)="answers" by decide +kernel)]
   rfl
  rw[e4]
  have n0:∀b x,H b=some x->(∀c f,x≠.ins C c f)->b≠o:=fun b x e n z=>by rw[z,ho] at e;exact n _ _ (Option.some.inj e).symm
  have no1:∀{b:Addr} {xs:List V},H2 b=some (.tup xs)->b≠o:=fun {b xs} e z=>by rw[z,s2 _ _ q1] at e;cases e
  have no2:∀{b:Addr} {xs:List V},H2 b=some (.lst xs)->b≠o:=fun {b xs} e z=>by rw[z,s2 _ _ q1] at e;cases e
  have no3:∀{b:Addr} {xs:List V},H4 b=some (.tup xs)->b≠o:=fun {b xs} e z=>by rw[z,s4 _ _ q3] at e;cases e
  have no4:∀{b:Addr} {xs:List V},H4 b=some (.lst xs)->b≠o:=fun {b xs} e z=>by rw[z,s4 _ _ q3] at e;cases e
  have nd:d≠o:=fun z=>by rw[z,q5] at hd;cases hd
  have P1:upd H6 o (.ins C dx (tbF many l1 l2 d)) p1=some (.tup []):=by rw[upd_ne (no1 a1)];exact s6 _ _ (k5 _ _ (no1 a1) (s4 _ _ (k3 _ _ (no1 a1) a1)))
  have L1:upd H6 o (.ins C dx (tbF many l1 l2 d)) l1=some (.lst [.ref p1]):=by rw[upd_ne (no2 a2)];exact s6 _ _ (k5 _ _ (no2 a2) (s4 _ _ (k3 _ _ (no2 a2) a2)))
  have P2:upd H6 o (.ins C dx (tbF many l1 l2 d)) p2=some (.tup []):=by rw[upd_ne (no3 b1)];exact s6 _ _ (k5 _ _ (no3 b1) b1)
  have L2':upd H6 o (.ins C dx (tbF many l1 l2 d)) l2=some (.lst [.ref p2]):=by rw[upd_ne (no4 b2)];exact s6 _ _ (k5 _ _ (no4 b2) b2)
  have D1:upd H6 o (.ins C dx (tbF many l1 l2 d)) d=some (TD P w d [] ob):=by rw[upd_ne nd];exact c1
  have hd4:=f5 _ hd
  have hd3:H3 d=none:=s4.free hd4
  have hd2:=f3 _ hd3
  have hd1:H1 d=none:=s2.free hd2
  have hl2a:=f3 _ hl2'
  refine k ⟨o,dx,l1,l2,d⟩ _ (fun T=>⟨upd_same,⟨[p1],L1,⟨rfl,fun i n e=>?_⟩⟩,⟨[p2],L2',⟨rfl,fun i n e=>?_⟩⟩,[],ob,D1,fun x hx=>by(cases hx),rfl,fun x hx=>by(cases hx)⟩) rfl (f1 _ hl1') (f1 _ (s2.free hl2a)) (f1 _ hd1) (fun z=>?_) (fun z=>?_) (fun z=>?_) (fun b x n e=>?_)
  ·cases i with
   |zero=>cases e;exact⟨p1,rfl,P1⟩
   |succ i=>simp at e
  ·cases i with
   |zero=>cases e;exact⟨p2,rfl,P2⟩
   |succ i=>simp at e
  ·have z':d=l1:=z
   rw[z',a2] at hd2;cases hd2
  ·have z':d=l2:=z
   rw[z',b2] at hd4;cases hd4
  ·have z':l1=l2:=z
   rw[<- z',a2] at hl2a;cases hl2a
  ·rw[upd_ne n]
   exact s6 _ _ (k5 _ _ n (s4 _ _ (k3 _ _ n (s2 _ _ (k1 _ _ n e)))))
theorem scAn:FnScope ["self","run","may"] ["self","run","may"] (defScope sAn):=.of (by decide +kernel)
theorem ok_an (F:Fun K "answer" "Table.answer" sAn f fd)(Y:TK K C)(k:Nat):FnOk P w K mg base CX0 (k+1) f fd ["self","run","may"] (spAn P w K mg base C k):=by
 refine F.ok scAn (fun vs H Q E h=>?_) (fun cdv A outer s H vs Q E hr h=>?_)
 ·obtain⟨_,_,_,_,_,_,_,_,_,_,_,_,_,_,_,_,rfl,_⟩:=h
  rfl
 ·obtain⟨S,J,T,top,Ans,fm,fp,a,many,hs,tl,as,ms,ts,p,r,rfl,X,Ap,B,j,hp,hlr,hb,k⟩:=h
  have hu1:=hr.units0
  have hu1:(A.deeper (PyProof.Rows.envOfC "Table.answer" (defScope sAn) s.heap.objs.size f cdv)).units+1<cLine:=by have:=hr.units;omega
  obtain⟨fdm,x,om,gm,dm,Fm,bm⟩:=X.may
  refine⟨_,pss_cons (ps_if (pt_cmp (pc_tnotinW (P:=P) (w:=w) rfl rfl hu1 (pv 1) (pe_fld (pv 0) rfl)))
    (pss_one (ps_tputW (P:=P) (w:=w) rfl rfl hu1 (pe_fld (pv 0) rfl) (pv 1) (pe_callVW (P:=P) (w:=w) (K:=K) (mg:=mg) (base:=base) rfl rfl rfl rfl rfl (pv 2) hr pass0 (pa_cons (pv 1) pa_nil) rfl rfl) rfl)) pss_nil)
   (pss_one (ps_ret (pe_tgetW (P:=P) (w:=w) rfl rfl hu1 (pe_fld (pv 0) rfl) (pv 1) (fun _ _=>rfl)))),?_⟩
  obtain⟨b1,b2,b3,xs,ob,b4,b5,b6,b7⟩:=id B
  have ky:TKy H r p:=⟨_,hp,nums_ints r⟩
  refine⟨_,rfl,_,rfl,a.o,C,a.dx,_,_,rfl,b1,Y.cls,Y.nA,rfl,a.aA,xs,ob,p,r,rfl,b4,b5,rfl,ky,_,rfl,?_⟩
  have hany:(xs.any fun x=>decide (x.1=r))=decide (r∈as):=by
   rw[<- b6]
   clear b7 b6 b5 b4
   induction xs with
   |nil=>rfl
   |cons x xs ih=>
    rw[List.any_cons,ih]
    by_cases e:x.1=r
    ·simp[e]
    ·simp[e,Ne.symm e]
  rw[hany]
  by_cases hm:r∈as
  ·rw[decide_eq_true hm]
   refine iteF ?_
   obtain⟨x,hx,hxe⟩:=List.mem_map.mp (b6▸hm)
   have hat:atT xs r=some (.bl (T r)):=by
    unfold atT
    cases e:xs.find? fun x=>decide (x.1=r) with
    |none=>
     have:=List.find?_eq_none.mp e x hx
     exact absurd (decide_eq_true hxe) this
    |some y=>
     have h1:=List.find?_some e
     have h2:=b7 y (List.mem_of_find?_eq_some e)
     rw[Option.map_some,h2,of_decide_eq_true h1]
   exact⟨_,rfl,a.o,C,a.dx,_,_,rfl,b1,Y.cls,Y.nA,rfl,_,rfl,a.aA,xs,ob,p,r,_,rfl,b4,b5,rfl,ky,hat,k H as Sb.refl B j (Ex.refl.mono (Nat.zero_le _) fun _ z=>z) hm⟩
  ·rw[decide_eq_false hm]
   refine iteT ?_
   refine⟨_,rfl,fm,fdm,[x],spMay S J T many,om,rfl,gm,dm,Fm,bm,_,rfl,p,r,as,ms,ts,rfl,hp,hlr,j,hm,hb,fun H1 s1 j1=>?_⟩
   have B1:=B.sb s1 Ap
   obtain⟨c1,c2,c3,ys,ob1,c4,c5,c6,c7⟩:=id B1
   have hp1:=s1.1 _ _ hp
   refine⟨_,rfl,a.o,C,a.dx,_,_,rfl,c1,Y.cls,Y.nA,rfl,_,rfl,a.aA,ys,ob1,p,r,rfl,c4,c5,rfl,⟨_,hp1,nums_ints r⟩,?_,fun y hy z=>hm (by rw[<- c6,<- z];exact List.mem_map_of_mem hy),fun o'=>?_⟩
   ·have:ys.length=as.length:=by rw[<- c6,List.length_map]
    rw[this]
    exact Nat.lt_trans hb (by decide)
   have s2:Sb (Ma S a) H1 (upd H1 a.aA (TD P w a.aA (ys++[(r,p,.bl (T r))]) o')):=Sb.refl.upd (.inr rfl) c4 (fun _ z=>by cases z)
   have B2:TbAt P w C T (upd H1 a.aA (TD P w a.aA (ys++[(r,p,.bl (T r))]) o')) a many hs tl (as++[r]):=by
    obtain⟨hps,g2,g3⟩:=c2
    obtain⟨tps,g4,g5⟩:=c3
    refine⟨by rw[upd_ne (fun z=>by rw[z,c4] at c1;cases c1)];exact c1,⟨hps,by rw[upd_ne (Ne.symm Ap.n1)];exact g2,g3.tsame s2.1⟩,⟨tps,by rw[upd_ne (Ne.symm Ap.n2)];exact g4,g5.tsame s2.1⟩,_,o',upd_same,?_,by rw[List.map_append,c6];rfl,?_⟩
    ·intro y hy
     rcases List.mem_append.mp hy with z|z
     ·exact(c5 y z).same s2.1
     ·rw[List.mem_singleton] at z
      subst z
      exact⟨_,s2.1 _ _ hp1,nums_ints r⟩
    ·intro y hy
     rcases List.mem_append.mp hy with z|z
     ·exact c7 y z
     ·rw[List.mem_singleton] at z
      subst z
      rfl
   have j2:=X.stay _ (upd H1 a.aA (TD P w a.aA (ys++[(r,p,.bl (T r))]) o')) _ _ _ j1 (fun b x sb e=>by rw[upd_ne (fun z=>Ap.aA (by rw[<- z];exact sb))];exact e) s2.1
   have hat:atT (ys++[(r,p,V.bl (T r))]) r=some (.bl (T r)):=by
    unfold atT
    rw[List.find?_append,List.find?_eq_none.mpr (fun y hy=>by
     have:y.1≠r:=fun z=>hm (by rw[<- c6,<- z];exact List.mem_map_of_mem hy)
     simp[this])]
    simp
   obtain⟨e1,_,_,_⟩:=id B2
   refine⟨_,rfl,a.o,C,a.dx,_,_,rfl,e1,Y.cls,Y.nA,rfl,_,rfl,a.aA,_,o',p,r,_,rfl,upd_same,?_,rfl,⟨_,s2.1 _ _ hp1,nums_ints r⟩,hat,?_⟩
   ·intro y hy
    rcases List.mem_append.mp hy with z|z
    ·exact(c5 y z).same s2.1
    ·rw[List.mem_singleton] at z
     subst z
     exact⟨_,s2.1 _ _ hp1,nums_ints r⟩
   ·exact k _ (as++[r]) ((s1.mono fun b z=>.inl z).trans s2) B2 j2 ⟨[r],rfl,Nat.le_refl _,fun y hy=>(by rw[List.mem_singleton] at hy;exact hy),fun z=>(by
    rw[List.nodup_append]
    exact⟨z,by simp,fun x hx y hy e=>by rw[List.mem_singleton] at hy;subst hy;subst e;exact hm hx⟩)⟩ (by simp)
end
end LN
namespace LN
open PySem L2 SO K20 K21 K60 K23 K24
structure As (P:Program)(w:World)(C:Addr)(S:Addr->Prop)(J:JT)(T:List Int->Bool)(a:Ad)(many:Int)(hs tl:List (List Int))(ms:List Rms)(ts:Told)(U:List Int->Prop)(H0:Hp)(as0:List (List Int))(n:Nat)(H:Hp)(as:List (List Int)):Prop where
 ap:Apt S a
 tk:∀b,S b->H0 b≠none
 tb0:TbAt P w C T H0 a many hs tl as0
 sb:Sb (Ma S a) H0 H
 tb:TbAt P w C T H a many hs tl as
 j:J H as ms ts
 ex:Ex n U as0 as
section
variable {P:Program} {w:World} {K:W.Frag} {mg:Str->Option Value} {base:Heap} {C:Addr}
variable {S:Addr->Prop} {J:JT} {T:List Int->Bool} {many:Int} {top k:Nat} {Ans:Rms->List Int->Prop} {fm fp:Addr} {a:Ad} {hs tl:List (List Int)} {ms:List Rms} {ts:Told} {U:List Int->Prop} {H0 H H':Hp} {as0 as as':List (List Int)} {n m:Nat}
theorem As.start (X:Tea P w K mg base k S J T many top Ans fm fp)(ap:Apt S a)(tb:TbAt P w C T H a many hs tl as)(j:J H as ms ts):As P w C S J T a many hs tl ms ts U H as 0 H as:=
 ⟨ap,X.trk H as ms ts j,tb,Sb.refl,tb,j,Ex.refl⟩
theorem As.next (A:As P w C S J T a many hs tl ms ts U H0 as0 n H as)(s:Sb (Ma S a) H H')(tb:TbAt P w C T H' a many hs tl as')(j:J H' as' ms ts){V:List Int->Prop}(e:Ex m V as as')(hv:∀r,V r->U r):As P w C S J T a many hs tl ms ts U H0 as0 (n+m) H' as':=
 ⟨A.ap,A.tk,A.tb0,A.sb.trans s,tb,j,A.ex.trans (e.mono (Nat.le_refl _) hv)⟩
theorem As.same (A:As P w C S J T a many hs tl ms ts U H0 as0 n H as)(X:Tea P w K mg base k S J T many top Ans fm fp)(s:Same H H'):As P w C S J T a many hs tl ms ts U H0 as0 n H' as:=
 ⟨A.ap,A.tk,A.tb0,A.sb.same s,A.tb.same s,X.same A.j s,A.ex⟩
theorem As.mono (A:As P w C S J T a many hs tl ms ts U H0 as0 n H as)(h:n<=m){V:List Int->Prop}(hv:∀r,U r->V r):As P w C S J T a many hs tl ms ts V H0 as0 m H as:=⟨A.ap,A.tk,A.tb0,A.sb,A.tb,A.j,A.ex.mono h hv⟩
theorem As.new (A:As P w C S J T a many hs tl ms ts U H0 as0 n H as){D:Addr}(hD:H0 D=none):¬Ma S a D:=fun z=>by
 rcases z with z|z
 ·exact A.tk D z hD
 ·obtain⟨xs,ob,e,_⟩:=A.tb0.an
  rw[z,e] at hD;cases hD
theorem As.upd (A:As P w C S J T a many hs tl ms ts U H0 as0 n H as)(X:Tea P w K mg base k S J T many top Ans fm fp){D:Addr}{o o':HO}(hD:H0 D=none)(hd:H D=some o')(nt:∀xs,o'≠.tup xs):As P w C S J T a many hs tl ms ts U H0 as0 n (upd H D o) as:=by
 have nD:=A.new hD
 have ts:TSame H (L2.upd H D o):=fun b xs e=>by rw[upd_ne (ne_of e hd (fun z=>nt xs z.symm))];exact e
 obtain⟨h1,⟨ps,h2,h3⟩,⟨qs,h4,h5⟩,xs,ob,h6,h7,h8,h9⟩:=A.tb
 obtain⟨g1,⟨_,g2,_⟩,⟨_,g4,_⟩,_,_,g6,_⟩:=A.tb0
 have ne:∀{b:Addr} {x:HO},H0 b=some x->b≠D:=fun {b x} e z=>by rw[z,hD] at e;cases e
 refine⟨A.ap,A.tk,A.tb0,⟨A.sb.1.trans ts,fun b x nb e=>?_⟩,⟨by rw[upd_ne (ne g1)];exact h1,⟨ps,by rw[upd_ne (ne g2)];exact h2,h3.tsame ts⟩,⟨qs,by rw[upd_ne (ne g4)];exact h4,h5.tsame ts⟩,xs,ob,by rw[upd_ne (ne g6)];exact h6,h7.same ts,h8,h9⟩,X.stay _ _ _ _ _ A.j (fun b x sb e=>?_) ts,A.ex⟩
 ·rw[upd_ne (ne e)];exact A.sb.2 b x nb e
 ·rw[upd_ne (fun z=>nD (.inl (by rw[<- z];exact sb)))];exact e
theorem As.len (A:As P w C S J T a many hs tl ms ts U H0 as0 n H as):as.length<=as0.length+n:=A.ex.len
end
def spMo (P:Program)(w:World)(K:W.Frag)(mg:Str->Option Value)(base:Heap)(C:Addr)(k:Nat):Sp:=fun vs H Q _=>∃(S:Addr->Prop) (J:JT) (T:List Int->Bool) (top:Nat) (Ans:Rms->List Int->Prop) (fm fp:Addr) (a:Ad) (many:Int) (hs tl as:List (List Int)) (ms:List Rms) (ts:Told) (p:Addr) (h:List Int),vs=[.ref a.o,.ref p,.ref fm]∧
 Tea P w K mg base k S J T many top Ans fm fp/\Apt S a/\TbAt P w C T H a many hs tl as/\J H as ms ts/\RA H p h/\as.length+tl.length<=16000000/\tl.length<=900/\h.length<=400/\(∀t∈tl,t.length<=400)/\Lts many h/\(∀t∈tl,Lts many t)∧
 ∀H' q as',As P w C S J T a many hs tl ms ts (fun r=>∃t∈tl,r=h++t) H as tl.length H' as'->MA H' q (mks T tl h)->(∀t∈tl,h++t∈as')->Q (.ref q) H'
def spMb (P:Program)(w:World)(K:W.Frag)(mg:Str->Option Value)(base:Heap)(C:Addr)(k:Nat):Sp:=fun vs H Q _=>∃(S:Addr->Prop) (J:JT) (T:List Int->Bool) (top:Nat) (Ans:Rms->List Int->Prop) (fm fp:Addr) (a:Ad) (many:Int) (hs tl as:List (List Int)) (ms:List Rms) (ts:Told) (p:Addr) (h:List Int),vs=[.ref a.o,.ref p,.ref fm]∧
 Tea P w K mg base k S J T many top Ans fm fp/\Apt S a/\TbAt P w C T H a many hs tl as/\J H as ms ts/\RA H p h/\0<=many/\many<=8/\as.length+8*tl.length<=16000000/\tl.length<=900/\h.length<=300/\(∀t∈tl,t.length<=400)/\Lts many h/\(∀t∈tl,Lts many t)∧
 ∀H' l qs as',As P w C S J T a many hs tl ms ts (fun r=>∃x∈lsI many,∃t∈tl,r=h++[x]++t) H as (many.toNat*tl.length) H' as'->H' l=some (.lst (qs.map V.ref))->MksAt H' qs ((lsI many).map fun x=>mks T tl (h++[x]))->H l=none->(∀x∈lsI many,∀t∈tl,h++[x]++t∈as')->Q (.ref l) H'
section
variable {P:Program} {w:World} {K:W.Frag} {mg:Str->Option Value} {base:Heap} {C:Addr}
abbrev nMo:List Str:=["self","head","may"]
theorem scMo:FnScope nMo nMo (defScope sMo):=.of (by decide +kernel)
def scopeMo:Scope:=⟨.function,[(".0",.local),("tail",.local),("head",.free),("may",.free),("self",.free)],false,false,[]⟩
theorem scMo1:BlkScope (defScope sMo) nMo ["tail"] ["head","may","self"] [1,2,0] scopeMo:=.of (by decide +kernel)
theorem ok_mo (F:Fun K "marks_of" "Table.marks_of" sMo f fd)(Y:TK K C)(tup:mg "tuple"=none)(k:Nat)(mA:Meth K C "answer" fA)(bA:Binds K dA ["self","run","may"] [])
  (GA:FnOk P w K mg base CX0 (k+1) fA dA ["self","run","may"] (spAn P w K mg base C k)):FnOk P w K mg base CX0 (k+2) f fd nMo (spMo P w K mg base C k):=by
 refine F.ok scMo (fun vs H Q E h=>?_) (fun cdv A outer s H vs Q E hr h=>?_)
 ·obtain⟨_,_,_,_,_,_,_,_,_,_,_,_,_,_,_,_,rfl,_⟩:=h
  rfl
 ·obtain⟨S,J,T,top,Ans,fm,fp,a,many,hs,tl,as,ms,ts,p,h,rfl,X,Ap,B,j,hp,hb,t9,hl,htl,hLh,hLt,k'⟩:=h
  refine⟨_,pss_one (ps_ret (pe_callTy call_tuple_of (by rfl) tup PyProof.Rows.boot_tuple (pa_cons (pe_lc scMo1 rfl rfl rfl (pi_list (pe_fld (pv 0) rfl)) (fun fp C s1 H1=>pg_name (i:=0) scMo1.nd rfl (Or.inl rfl)) (fun fp C s1 H1=>pts_nil)
   (fun fp C s1 H1=>pe_meth (pv 3) Y.cls mA GA hr bA .nil pass0 (pa_cons (pe_op (r:=rCatA K) op_catA (pv 1) (pv 0)) (pa_cons (pv 2) pa_nil)))) pa_nil))),?_⟩
  obtain⟨ps,tA1,tA2⟩:=B.tl
  refine⟨_,rfl,a.o,C,a.dx,_,_,rfl,B.ob,Y.cls,Y.nT,rfl,a.tA,rfl,⟨_,SqL.of tA1⟩,fun D hD=>?_⟩
  have A0:As P w C S J T a many hs tl ms ts (fun r=>∃t∈tl,r=h++t) H as 0 H as:=As.start X Ap B j
  have nD:=A0.new hD
  have A1:As P w C S J T a many hs tl ms ts (fun r=>∃t∈tl,r=h++t) H as 0 (upd H D (.lst [])) as:=A0.same X ((Same.refl H).upd_free hD)
  have ntA:¬Ma S a a.tA:=fun z=>by
   rcases z with z|z
   ·exact Ap.tA z
   ·exact Ap.n2 z.symm
  have lenp:ps.length=tl.length:=tA2.1
  refine lc_list (K:=K) (a:=a.tA) (xs:=ps.map V.ref) (fun i ys H3=>∃as',ys=((tl.take i).map fun t=>V.bl (T (h++t)))/\As P w C S J T a many hs tl ms ts (fun r=>∃t∈tl,r=h++t) H as i H3 as'/\H3 D=some (.lst ys)/\∀t∈tl.take i,h++t∈as') (Nat.le_of_lt (small1000 (by rw[List.length_map];omega)))
   ⟨as,rfl,A1,upd_same,fun t ht=>by simp at ht⟩ (fun i ys H3 ⟨_,e,_⟩=>by rw[e,List.length_map,List.length_take];exact Nat.min_le_left _ _) (fun i ys H3 ⟨_,_,A3,_⟩=>SqL.of (A3.sb.2 _ _ ntA tA1)) ?_ ?_
  ·rintro i ys H3 x N MM hx ⟨as3,rfl,A3,hD3,in3⟩ hN hM
   rw[List.getElem?_map] at hx
   have hi:i<tl.length:=by
    rw[<- lenp]
    cases e:ps[i]? with
    |none=>rw[e] at hx;cases hx
    |some q=>exact(List.getElem?_eq_some_iff.mp e).1
   obtain⟨q,e1,e2⟩:=tA2.2 i tl[i] (List.getElem?_eq_getElem hi)
   have mt:tl[i]∈tl:=List.getElem_mem hi
   have et:tl[i]?=some tl[i]:=List.getElem?_eq_getElem hi
   generalize tl[i]=t at e2 mt et
   rw[e1] at hx
   cases hx
   have hp3:=A3.sb.1 _ _ hp
   have hq3:=A3.sb.1 _ _ e2
   have l1:=htl t mt
   refine⟨_,rfl,a.o,a.dx,_,rfl,A3.tb.ob,rfl,_,rfl,_,rfl,p,q,_,_,rfl,rfl,hp3,hq3,Nat.le_of_lt (small1000 (by rw[List.length_map,List.length_map];omega)),fun pr H4 s4 hpr=>?_⟩
   have A4:=A3.same X s4
   have hpr':RA H4 pr (h++t):=by show H4 pr=_;rw[hpr,List.map_append]
   have l3:=A3.len
   refine⟨_,rfl,S,J,T,top,Ans,fm,fp,a,many,hs,tl,as3,ms,ts,pr,h++t,rfl,X,Ap,A4.tb,A4.j,hpr',hLh.app (hLt t mt),by omega,fun H5 as5 s5 tb5 j5 ex5 in5=>?_⟩
   have A5:=A4.next s5 tb5 j5 ex5 (fun r hr=>⟨t,mt,hr⟩)
   have hD5:=s5.2 _ _ nD (s4 _ _ hD3)
   refine hN _ H5 hD5 ⟨as5,?_,A5.upd X hD hD5 (fun _ z=>by cases z),upd_same,fun t' ht'=>?_⟩
   ·rw[List.take_add_one,et,List.map_append]
    rfl
   ·rw[List.take_add_one,et] at ht'
    rcases List.mem_append.mp ht' with z|z
    ·exact ex5.sub (in3 t' z)
    ·rw[Option.toList_some,List.mem_singleton] at z
     rw[z]
     exact in5
  ·rintro ys H3 ⟨as3,rfl,A3,hD3,in3⟩
   rw[List.length_map,lenp,List.take_of_length_le (Nat.le_refl _)] at *
   refine⟨D,_,rfl,.inl ⟨SqL.of hD3,fun zt hzt=>?_⟩⟩
   refine k' _ zt as3 (A3.same X ((Same.refl H3).upd_free hzt)) ?_ in3
   show upd _ zt _ zt=_
   rw[upd_same]
   unfold mks
   rw[List.map_map]
   rfl
def scopeMb:Scope:=⟨.function,[(".0",.local),("letter",.local),("head",.free),("may",.free),("self",.free)],false,false,[]⟩
theorem scMb:FnScope nMo nMo (defScope sMb):=.of (by decide +kernel)
theorem scMb1:BlkScope (defScope sMb) nMo ["letter"] ["head","may","self"] [1,2,0] scopeMb:=.of (by decide +kernel)
theorem lsI_get {many:Int}{i:Nat}(h:i<many.toNat):(lsI many)[i]?=some (i:Int):=by
 unfold lsI
 rw[List.getElem?_map,List.getElem?_range h]
 rfl
theorem ok_mb (F:Fun K "marks_behind" "Table.marks_behind" sMb f fd)(Y:TK K C)(rng:mg "range"=none)(k:Nat)(mA:Meth K C "marks_of" fA)(bA:Binds K dA nMo [])
  (GA:FnOk P w K mg base CX0 (k+2) fA dA nMo (spMo P w K mg base C k)):FnOk P w K mg base CX0 (k+3) f fd nMo (spMb P w K mg base C k):=by
 refine F.ok scMb (fun vs H Q E h=>?_) (fun cdv A outer s H vs Q E hr h=>?_)
 ·obtain⟨_,_,_,_,_,_,_,_,_,_,_,_,_,_,_,_,rfl,_⟩:=h
  rfl
 ·obtain⟨S,J,T,top,Ans,fm,fp,a,many,hs,tl,as,ms,ts,p,h,rfl,X,Ap,B,j,hp,m0,m8,hb,t9,hl,htl,hLh,hLt,k'⟩:=h
  refine⟨_,pss_one (ps_ret (pe_lc scMb1 rfl rfl rfl (pi_range1 rfl rng (pa_cons (pe_fld (pv 0) rfl) pa_nil)) (fun fp C s1 H1=>pg_name (i:=0) scMb1.nd rfl (Or.inl rfl)) (fun fp C s1 H1=>pts_nil)
   (fun fp C s1 H1=>pe_meth (pv 3) Y.cls mA GA hr bA .nil pass0 (pa_cons (pe_op (r:=rCatA K) op_catA (pv 1) (pe_tup (pa_cons (pv 0) pa_nil))) (pa_cons (pv 2) pa_nil))))),?_⟩
  refine⟨_,rfl,a.o,C,a.dx,_,_,rfl,B.ob,Y.cls,Y.nM,rfl,_,rfl,by omega,by omega,fun D hD=>?_⟩
  have A0:As P w C S J T a many hs tl ms ts (fun r=>∃x∈lsI many,∃t∈tl,r=h++[x]++t) H as 0 H as:=As.start X Ap B j
  have nD:=A0.new hD
  have A1:=A0.same X ((Same.refl H).upd_free (o:=.lst []) hD)
  refine lc_range (lo:=0) (n:=many.toNat) (fun i ys H3=>∃(as':List (List Int)) (qs:List Addr),ys=qs.map V.ref/\As P w C S J T a many hs tl ms ts (fun r=>∃x∈lsI many,∃t∈tl,r=h++[x]++t) H as (i*tl.length) H3 as'/\MksAt H3 qs (((lsI many).take i).map fun x=>mks T tl (h++[x]))/\qs.length=i/\H3 D=some (.lst ys)/\∀x∈(lsI many).take i,∀t∈tl,h++[x]++t∈as') (Nat.le_of_lt (small1000 (by omega)))
   ⟨as,[],rfl,by rw[Nat.zero_mul];exact A1,mks_nil,rfl,upd_same,fun x hx=>by simp at hx⟩ (fun i ys H3 ⟨_,qs,e,_,_,e2,_⟩=>by rw[e,List.length_map,e2];exact Nat.le_refl _) ?_ ?_
  ·rintro i ys H3 N MM hi ⟨as3,qs,rfl,A3,mk3,lq,hD3,in3⟩ hN hM
   have hp3:=A3.sb.1 _ _ hp
   have ix:(lsI many)[i]?=some (i:Int):=lsI_get hi
   refine⟨_,rfl,a.o,a.dx,_,rfl,A3.tb.ob,rfl,_,rfl,_,rfl,⟨by show 1<=sizeLine;decide,fun p1 hp1=>?_⟩⟩
   have s4:Same H3 (upd H3 p1 (.tup [.int (0+(i:Int))])):=(Same.refl H3).upd_free hp1
   have q4:upd H3 p1 (.tup [.int (0+(i:Int))]) p1=some (.tup [.int (0+(i:Int))]):=upd_same
   generalize upd H3 p1 (.tup [.int (0+(i:Int))])=H4 at s4 q4 ⊢
   refine⟨p,p1,_,_,rfl,rfl,s4 _ _ hp3,q4,Nat.le_of_lt (small1000 (by rw[List.length_map];show h.length+1<=1000;omega)),fun pr H5 s5 hpr=>?_⟩
   have A5:=(A3.same X s4).same X s5
   have hpr':RA H5 pr (h++[(i:Int)]):=by show H5 pr=_;rw[hpr,List.map_append,Int.zero_add];rfl
   have l3:=A3.len
   have hmul:i*tl.length<=7*tl.length:=Nat.mul_le_mul_right _ (by omega)
   refine⟨_,rfl,S,J,T,top,Ans,fm,fp,a,many,hs,tl,as3,ms,ts,pr,h++[(i:Int)],rfl,X,Ap,A5.tb,A5.j,hpr',by omega,t9,by rw[List.length_append];show h.length+1<=400;omega,htl,hLh.app (Lts.nil.cons (by omega) (by omega)),hLt,fun H6 q as6 A6 hq in6=>?_⟩
   have A7:=A5.next A6.sb A6.tb A6.j A6.ex (fun r hr=>⟨(i:Int),List.mem_of_getElem? ix,hr⟩)
   have hD6:=A6.sb.2 _ _ nD (s5 _ _ (s4 _ _ hD3))
   have ts7:TSame H6 (upd H6 D (.lst (qs.map V.ref++[.ref q]))):=fun b xs e=>by rw[upd_ne (ne_of e hD6 (fun z=>by cases z))];exact e
   refine hN _ H6 hD6 ⟨as6,qs++[q],by rw[List.map_append];rfl,?_,?_,by rw[List.length_append,lq];rfl,upd_same,fun x hx t ht=>?_⟩
   ·rw[Nat.succ_mul]
    exact A7.upd X hD hD6 (fun _ z=>by cases z)
   ·rw[List.take_add_one,ix,List.map_append]
    exact mks_snoc (((mk3.tsame s4.tups).tsame s5.tups).tsame (A6.sb.1.trans ts7)) (ts7 _ _ hq)
   ·rw[List.take_add_one,ix] at hx
    rcases List.mem_append.mp hx with z|z
    ·exact A6.ex.sub (in3 x z t ht)
    ·rw[Option.toList_some,List.mem_singleton] at z
     rw[z]
     exact in6 t ht
  ·rintro ys H3 ⟨as3,qs,rfl,A3,mk3,lq,hD3,in3⟩
   rw[List.take_of_length_le (by unfold lsI;rw[List.length_map,List.length_range];exact Nat.le_refl _)] at mk3 in3
   exact k' H3 D qs as3 A3 hD3 mk3 hD in3
end
end LN
namespace LN
open PySem L2 SO K20 K21 K60 K23 K24
theorem iteTK {c:Bool}{A B:Prop}(hc:c=true)(h:A):if c=true then A else B:=by rw[if_pos hc];exact h
theorem iteFK {c:Bool}{A B:Prop}(hc:c=false)(h:B):if c=true then A else B:=by rw[if_neg (by rw[hc];exact Bool.false_ne_true)];exact h
theorem Hd.len {many:Int}{hs:List (List Int)}(D:Hd many hs):∀(i:Nat) (h:List Int),hs[i]?=some h->h.length<=i:=by
 intro i
 induction i using Nat.strongRecOn with
 |_ i ih=>
  intro h e
  rcases D.up i h e with rfl|⟨j,g,l,hj,eg,rfl,l0,l1⟩
  ·rw[D.z] at e
   cases e
   exact Nat.le_refl _
  ·have:=ih j hj g eg
   rw[List.length_append,List.length_singleton]
   omega
def spNm (CN:Addr):Sp:=fun vs H Q _=>∃(a:Addr) (x:V),vs=[.ref a,x]/\H a=some (.ext (ExcNew a CN none))/\∀d,H d=none->d≠a->Q .non (upd (upd H a (.ext (ExcNew a CN (some d)))) d (.xd [("number",x)]))
theorem raiseS {K:W.Frag}{CN:Addr}{H:Hp}{E:XK}{x:V}(rz:excRz K CN=true)(H2:Hp)(E0':XK)(hfree:∀a,H2 a=none->H a=none)(kE:∀d H',Same H2 H'->H' d=some (.xd [("number",x)])->E (.ref CN) (some d) H'):∀a,H2 a=none->spNm CN (.ref a::([x]++[])) (upd H2 a (.ext (ExcNew a CN none))) (fun v H3=>v=.non/\∃a' C dd,V.ref a=.ref a'/\H3 a'=some (.ext (ExcNew a' C dd))/\H a'=none/\excRz K C=true/\E (.ref C) dd (untr H3 a')) E0':=by
 intro a ha
 refine⟨a,_,rfl,upd_same,fun d hd hn=>⟨rfl,a,CN,some d,rfl,by rw[upd_ne (Ne.symm hn),upd_same],hfree a ha,rz,?_⟩⟩
 have hd2:H2 d=none:=by rw[upd_ne hn] at hd;exact hd
 refine kE d _ (fun b o e=>?_) ?_
 ·have nb:b≠a:=ne_of_none e ha
  rw[untr_ne nb,upd_ne (ne_of_none e hd2),upd_ne nb,upd_ne nb]
  exact e
 ·rw[untr_ne hn,upd_same]
abbrev Mh (S:Addr->Prop)(a:Ad):Addr->Prop:=fun b=>S b\/b=a.aA\/b=a.hA
structure Fs (P:Program)(w:World)(C:Addr)(S:Addr->Prop)(J:JT)(T:List Int->Bool)(a:Ad)(many:Int)(tl:List (List Int))(ms:List Rms)(ts:Told)(H0:Hp)(hs0 as0:List (List Int))(n:Nat)(H:Hp)(hs as:List (List Int)):Prop where
 ap:Apt S a
 tk:∀b,S b->H0 b≠none
 tb0:TbAt P w C T H0 a many hs0 tl as0
 sb:Sb (Mh S a) H0 H
 tb:TbAt P w C T H a many hs tl as
 j:J H as ms ts
 ex:Ex n (Cv many hs tl) as0 as
 more:∃m,hs=hs0++m
section
variable {P:Program} {w:World} {K:W.Frag} {mg:Str->Option Value} {base:Heap} {C:Addr}
variable {S:Addr->Prop} {J:JT} {T:List Int->Bool} {many:Int} {top k:Nat} {Ans:Rms->List Int->Prop} {fm fp:Addr} {a:Ad} {hs hs0 tl:List (List Int)} {ms:List Rms} {ts:Told} {H0 H H':Hp} {as0 as as':List (List Int)} {n m:Nat}
theorem Fs.start (X:Tea P w K mg base k S J T many top Ans fm fp)(ap:Apt S a)(tb:TbAt P w C T H a many hs tl as)(j:J H as ms ts):Fs P w C S J T a many tl ms ts H hs as 0 H hs as:=
 ⟨ap,X.trk H as ms ts j,tb,Sb.refl,tb,j,Ex.refl,[],by simp⟩
theorem Fs.same (A:Fs P w C S J T a many tl ms ts H0 hs0 as0 n H hs as)(X:Tea P w K mg base k S J T many top Ans fm fp)(s:Same H H'):Fs P w C S J T a many tl ms ts H0 hs0 as0 n H' hs as:=
 ⟨A.ap,A.tk,A.tb0,A.sb.same s,A.tb.same s,X.same A.j s,A.ex,A.more⟩
theorem Fs.next (A:Fs P w C S J T a many tl ms ts H0 hs0 as0 n H hs as){U:List Int->Prop}(B:As P w C S J T a many hs tl ms ts U H as m H' as')(hu:∀r,U r->Cv many hs tl r):Fs P w C S J T a many tl ms ts H0 hs0 as0 (n+m) H' hs as':=
 ⟨A.ap,A.tk,A.tb0,A.sb.trans (B.sb.mono fun b z=>by rcases z with z|z;exact .inl z;exact .inr (.inl z)),B.tb,B.j,A.ex.trans (B.ex.mono (Nat.le_refl _) hu),A.more⟩
theorem Fs.new (A:Fs P w C S J T a many tl ms ts H0 hs0 as0 n H hs as){D:Addr}(hD:H0 D=none):¬Mh S a D:=fun z=>by
 rcases z with z|z|z
 ·exact A.tk D z hD
 ·obtain⟨xs,ob,e,_⟩:=A.tb0.an
  rw[z,e] at hD;cases hD
 ·obtain⟨ps,e,_⟩:=A.tb0.hd
  rw[z,e] at hD;cases hD
theorem Fs.free (A:Fs P w C S J T a many tl ms ts H0 hs0 as0 n H hs as)(X:Tea P w K mg base k S J T many top Ans fm fp){D:Addr}(hD:H D=none):H0 D=none:=by
 cases e:H0 D with
 |none=>rfl
 |some o=>
  by_cases m:Mh S a D
  ·rcases m with z|z|z
   ·exact absurd hD (X.trk _ _ _ _ A.j D z)
   ·obtain⟨xs,ob,q,_⟩:=A.tb.an
    rw[z,q] at hD;cases hD
   ·obtain⟨ps,q,_⟩:=A.tb.hd
    rw[z,q] at hD;cases hD
  ·rw[A.sb.2 _ _ m e] at hD;cases hD
theorem Fs.upd (A:Fs P w C S J T a many tl ms ts H0 hs0 as0 n H hs as)(X:Tea P w K mg base k S J T many top Ans fm fp){D:Addr}{o o':HO}(hD:H0 D=none)(hd:H D=some o')(nt:∀xs,o'≠.tup xs):Fs P w C S J T a many tl ms ts H0 hs0 as0 n (upd H D o) hs as:=by
 have nD:=A.new hD
 have ts:TSame H (L2.upd H D o):=fun b xs e=>by rw[upd_ne (ne_of e hd (fun z=>nt xs z.symm))];exact e
 obtain⟨h1,⟨ps,h2,h3⟩,⟨qs,h4,h5⟩,xs,ob,h6,h7,h8,h9⟩:=A.tb
 obtain⟨g1,⟨_,g2,_⟩,⟨_,g4,_⟩,_,_,g6,_⟩:=A.tb0
 have ne:∀{b:Addr} {x:HO},H0 b=some x->b≠D:=fun {b x} e z=>by rw[z,hD] at e;cases e
 refine⟨A.ap,A.tk,A.tb0,⟨A.sb.1.trans ts,fun b x nb e=>?_⟩,⟨by rw[upd_ne (ne g1)];exact h1,⟨ps,by rw[upd_ne (ne g2)];exact h2,h3.tsame ts⟩,⟨qs,by rw[upd_ne (ne g4)];exact h4,h5.tsame ts⟩,xs,ob,by rw[upd_ne (ne g6)];exact h6,h7.same ts,h8,h9⟩,X.stay _ _ _ _ _ A.j (fun b x sb e=>?_) ts,A.ex,A.more⟩
 ·rw[upd_ne (ne e)];exact A.sb.2 b x nb e
 ·rw[upd_ne (fun z=>nD (.inl (by rw[<- z];exact sb)))];exact e
theorem Fs.grow (A:Fs P w C S J T a many tl ms ts H0 hs0 as0 n H hs as)(X:Tea P w K mg base k S J T many top Ans fm fp){p:Addr}{g:List Int}{ps:List Addr}(hp:RA H p g)(hh:H a.hA=some (.lst (ps.map V.ref)))(ht:TupsAt H ps hs):
  Fs P w C S J T a many tl ms ts H0 hs0 as0 n (L2.upd H a.hA (.lst (ps.map V.ref++[.ref p]))) (hs++[g]) as:=by
 have ts:TSame H (L2.upd H a.hA (.lst (ps.map V.ref++[.ref p]))):=fun b xs e=>by rw[upd_ne (ne_of e hh (fun z=>by cases z))];exact e
 obtain⟨h1,_,⟨qs,h4,h5⟩,xs,ob,h6,h7,h8,h9⟩:=A.tb
 obtain⟨m,hm⟩:=A.more
 refine⟨A.ap,A.tk,A.tb0,A.sb.upd (.inr (.inr rfl)) hh (fun _ z=>by cases z),⟨by rw[upd_ne (fun z=>by rw[z,hh] at h1;cases h1)];exact h1,⟨ps++[p],by rw[upd_same,List.map_append];rfl,tups_snoc (ht.tsame ts) (ts _ _ hp)⟩,⟨qs,by rw[upd_ne (Ne.symm A.ap.n3)];exact h4,h5.tsame ts⟩,xs,ob,by rw[upd_ne A.ap.n1];exact h6,h7.same ts,h8,h9⟩,
  X.stay _ _ _ _ _ A.j (fun b x sb e=>by rw[upd_ne (fun z=>A.ap.hA (by rw[<- z];exact sb))];exact e) ts,A.ex.mono (Nat.le_refl _) (fun r c=>c.mono (fun h hm=>List.mem_append_left _ hm) (fun t ht=>ht)),m++[g],by rw[hm,List.append_assoc]⟩
end
def spFh (P:Program)(w:World)(K:W.Frag)(mg:Str->Option Value)(base:Heap)(C CG:Addr)(k:Nat):Sp:=fun vs H Q E=>∃(S:Addr->Prop) (J:JT) (T:List Int->Bool) (top:Nat) (Ans:Rms->List Int->Prop) (fm fp:Addr) (a:Ad) (many most:Int) (hs tl as:List (List Int)) (ms:List Rms) (ts:Told),vs=[.ref a.o,.ref fm,.int most]∧
 Tea P w K mg base k S J T many top Ans fm fp/\Apt S a/\TbAt P w C T H a many hs tl as/\J H as ms ts/\0<=many/\many<=8/\1<=most/\most<=9/\Hd many hs/\Nd T hs tl/\(hs.length:Int)<=most+8/\as.length+200*tl.length<=16000000/\tl.length<=900/\(∀t∈tl,t.length<=400)/\(∀t∈tl,Lts many t)∧
 (∀H' hs' as',Fs P w C S J T a many tl ms ts H hs as (200*tl.length) H' hs' as'->Hd many hs'->Nd T hs' tl->Cl T many hs' tl hs'.length->(hs'.length:Int)<=most->Gr T many tl hs hs'->Q .non H')∧
 ∀d H' as',J H' as' ms ts->H' d=some (.xd [("number",.int most)])->(∀b o,¬Mh S a b->H b=some o->H' b=some o)->TSame H H'->(∃hs',Hd many hs'/\Nd T hs' tl/\most<(hs'.length:Int))->E (.ref CG) (some d) H'
section
variable {P:Program} {w:World} {K:W.Frag} {mg:Str->Option Value} {base:Heap} {C CG:Addr}
theorem scXg:FnScope ["self","number"] ["self","number"] (defScope sXg):=.of (by decide +kernel)
theorem ok_xg (F:Fun K "__init__" "TooGreat.__init__" sXg f fd)(hS:excSet K CG "number"=true):FnOk P w K mg base CX0 1 f fd ["self","number"] (spNm CG):=by
 refine F.ok scXg (fun vs H Q E h=>?_) (fun cdv A outer s H vs Q E hr h=>?_)
 ·obtain⟨a,x,rfl,_⟩:=h
  rfl
 ·obtain⟨a,x,rfl,ha,k⟩:=h
  exact⟨_,pss_one (ps_xfld (pv 0) (pv 1) rfl),_,rfl,_,rfl,a,CG,rfl,ha,hS,fun d hd hn=>k d hd hn⟩
abbrev nFh:List Str:=["self","may","most","known","done","head","behind","letter","marks"]
theorem scFh:FnScope nFh ["self","may","most"] (defScope sFh):=.of (by decide +kernel)
def scopeFh:Scope:=⟨.function,[(".0",.local),("head",.local),("may",.free),("self",.free)],false,false,[]⟩
theorem scFh1:BlkScope (defScope sFh) nFh ["head"] ["may","self"] [1,0] scopeFh:=.of (by decide +kernel)
theorem ok_fh (F:Fun K "find_heads" "Table.find_heads" sFh f fd)(Y:TK K C)(len:mg "len"=none)(enu:mg "enumerate"=none)(k:Nat)
  (mO:Meth K C "marks_of" fO) (bO:Binds K dO nMo []) (GO:FnOk P w K mg base CX0 (k+2) fO dO nMo (spMo P w K mg base C k))
  (mB:Meth K C "marks_behind" fB) (bB:Binds K dB nMo []) (GB:FnOk P w K mg base CX0 (k+3) fB dB nMo (spMb P w K mg base C k))
  (M:MkX K CG fI) (gN:mg "TooGreat"=some (.ref CG)) (bI:Binds K dI ["self","number"] []) (GI:FnOk P w K mg base CX0 1 fI dI ["self","number"] (spNm CG)) (rz:excRz K CG=true):
  FnOk P w K mg base (CX1 P w) (k+4) f fd ["self","may","most"] (spFh P w K mg base C CG k):=by
 refine F.okX scFh (fun vs H Q E h=>?_) (fun cdv A outer s H vs Q E hr h=>?_)
 ·obtain⟨_,_,_,_,_,_,_,_,_,_,_,_,_,_,_,rfl,_⟩:=h
  rfl
 ·obtain⟨S,J,T,top,Ans,fm,fp,a,many,most,hs,tl,as,ms,ts,rfl,X,Ap,B,j,m0,m8,o1,o9,D,N,hl,hb,t9,htl,hLt,k1,k2⟩:=h
  have hr2:Room 2 _:=hr.mono (by omega)
  have hrO:Room (k+2) _:=hr.mono (by omega)
  have hu64:=hr.units
  refine⟨_,pss_cons (ps_setlc (i:=3) scFh1 rfl rfl rfl (pi_list (pe_fld (pv 0) rfl)) (fun fp C s1 H1=>pg_name (i:=0) scFh1.nd rfl (Or.inl rfl)) (fun fp C s1 H1=>pts_nil)
    (fun fp C s1 H1=>pe_meth (pv 2) Y.cls mO GO hrO bO .nil pass0 (pa_cons (pv 0) (pa_cons (pv 1) pa_nil))) scFh.nd rfl rfl rfl)
   (pss_cons (ps_set (i:=4) scFh.nd rfl (Or.inl rfl) pe_int)
   (pss_one (ps_while PassesOwn.leaving (pt_cmpR op_lt (pv 4) (pe_callB call_len_seq (by rfl) len PySem.boot_len (pa_cons (pe_fld (pv 0) rfl) pa_nil)) (nomark _))
    (pss_cons (ps_if (pt_cmpR op_gt (pe_callB call_len_seq (by rfl) len PySem.boot_len (pa_cons (pe_fld (pv 0) rfl) pa_nil)) (pv 2) (nomark _)) (pss_one (ps_raiseV rfl throwsV_cx (pe_makeX M GI hr2 rfl gN bI .nil pass0 (pa_cons (pv 2) pa_nil)))) pss_nil)
    (pss_cons (ps_set (i:=5) scFh.nd rfl (Or.inl rfl) (pe_ix ix_list (pe_fld (pv 0) rfl) (pv 4) (fun _ _=>rfl)))
    (pss_cons (ps_set (i:=6) scFh.nd rfl (Or.inl rfl) (pe_meth (pv 0) Y.cls mB GB hr bB .nil pass0 (pa_cons (pv 5) (pa_cons (pv 1) pa_nil))))
    (pss_cons (ps_for PassesOwn.leaving rfl (pi_enumL rfl enu (pa_cons (pv 6) pa_nil)) (pg_tup (n:=2) rfl (pgs_cons (pg_name (i:=7) scFh.nd rfl (Or.inl rfl)) (pgs_cons (pg_name (i:=8) scFh.nd rfl (Or.inl rfl)) pgs_nil)))
     (pss_one (ps_if (pt_cmpR (op_notInD hu64) (pv 8) (pv 3) (by with_unfolding_all rfl))
      (pss_cons (ps_expr (pe_bm PySem.F.plainAttrs_list PySem.F.slot_list_append PySem.F.type_list_append mt_append (pv 3) (pa_cons (pv 8) pa_nil)))
      (pss_one (ps_expr (pe_bm PySem.F.plainAttrs_list PySem.F.slot_list_append PySem.F.type_list_append mt_append (pe_fld (pv 0) rfl) (pa_cons (pe_op op_catA (pv 5) (pe_tup (pa_cons (pv 7) pa_nil))) pa_nil)))))
      pss_nil)))
    (pss_one (ps_set (i:=4) scFh.nd rfl (Or.inl rfl) (pe_op op_add (pv 4) pe_int)))))))))),?_⟩
  obtain⟨ps,hA1,hA2⟩:=B.hd
  have F0:Fs P w C S J T a many tl ms ts H hs as 0 H hs as:=Fs.start X Ap B j
  have hsl:hs.length<=17:=by omega
  refine⟨_,rfl,a.o,C,a.dx,_,_,rfl,B.ob,Y.cls,Y.nH,rfl,a.hA,rfl,⟨_,SqL.of hA1⟩,fun kl hkl=>?_⟩
  have A0:As P w C S J T a many hs tl ms ts (fun r=>∃h∈hs,∃t∈tl,r=h++t) H as 0 H as:=As.start X Ap B j
  have nkl:=A0.new hkl
  have nhA:¬Ma S a a.hA:=fun z=>by
   rcases z with z|z
   ·exact Ap.hA z
   ·exact Ap.n1 z.symm
  refine lc_list (K:=K) (a:=a.hA) (xs:=ps.map V.ref) (fun i ys H3=>∃(as':List (List Int)) (qs:List Addr),ys=qs.map V.ref/\As P w C S J T a many hs tl ms ts (fun r=>∃h∈hs,∃t∈tl,r=h++t) H as (i*tl.length) H3 as'/\MksAt H3 qs ((hs.take i).map (mks T tl))/\qs.length=i/\H3 kl=some (.lst ys)) (Nat.le_of_lt (small1000 (by rw[List.length_map,hA2.1];omega)))
   ⟨as,[],rfl,by rw[Nat.zero_mul];exact A0.same X ((Same.refl H).upd_free hkl),mks_nil,rfl,upd_same⟩ (fun i ys H3 ⟨_,qs,e,_,_,e2,_⟩=>by rw[e,List.length_map,e2];exact Nat.le_refl _) (fun i ys H3 ⟨_,_,_,A3,_⟩=>SqL.of (A3.sb.2 _ _ nhA hA1)) ?_ ?_
  ·rintro i ys H3 x NN MM hx ⟨as3,qs,rfl,A3,mk3,lq,hD3⟩ hN hM
   rw[List.getElem?_map] at hx
   have hi:i<hs.length:=by
    rw[<- hA2.1]
    cases e:ps[i]? with
    |none=>rw[e] at hx;cases hx
    |some q=>exact(List.getElem?_eq_some_iff.mp e).1
   have et:hs[i]?=some hs[i]:=List.getElem?_eq_getElem hi
   generalize hs[i]=h at et
   obtain⟨q,e1,e2⟩:=hA2.2 i h et
   have mt:h∈hs:=List.mem_of_getElem? et
   rw[e1] at hx
   cases hx
   have hq3:=A3.sb.1 _ _ e2
   have l3:=A3.len
   have l4:=D.len i h et
   have hmul:i*tl.length<=17*tl.length:=Nat.mul_le_mul_right _ (by omega)
   refine⟨_,rfl,a.o,a.dx,_,rfl,A3.tb.ob,rfl,_,rfl,_,rfl,S,J,T,top,Ans,fm,fp,a,many,hs,tl,as3,ms,ts,q,h,rfl,X,Ap,A3.tb,A3.j,hq3,by omega,t9,by omega,htl,D.lts i h et,hLt,fun H6 q6 as6 A6 hq6 _=>?_⟩
   have A7:=A3.next A6.sb A6.tb A6.j A6.ex (fun r hr=>⟨h,mt,hr⟩)
   have hD6:=A6.sb.2 _ _ nkl hD3
   have ts7:TSame H6 (upd H6 kl (.lst (qs.map V.ref++[.ref q6]))):=fun b xs e=>by rw[upd_ne (ne_of e hD6 (fun z=>by cases z))];exact e
   refine hN _ H6 hD6 ⟨as6,qs++[q6],by rw[List.map_append];rfl,?_,?_,by rw[List.length_append,lq];rfl,upd_same⟩
   ·rw[Nat.succ_mul]
    exact A7.upd X hkl hD6 (fun _ z=>by cases z)
   ·rw[List.take_add_one,et,List.map_append]
    exact mks_snoc (mk3.tsame (A6.sb.1.trans ts7)) (ts7 _ _ hq6)
  ·rintro ys H3 ⟨as3,qs,rfl,A3,mk3,lq,hD3⟩
   rw[List.length_map,hA2.1] at A3 lq mk3
   rw[List.take_of_length_le (Nat.le_refl _)] at mk3
   have F3:=F0.next A3 (fun r ⟨h,hm,t,htm,e⟩=>⟨h,hm,t,htm,.inl e⟩)
   rw[Nat.zero_add] at F3
   have hm0:hs.length*tl.length<=17*tl.length:=Nat.mul_le_mul_right _ (by omega)
   refine⟨fun mm σ H2=>∃(d:Nat) (hs2 as2:List (List Int)) (qs:List Addr) (v5 v6 v7 v8:Option V),σ=[some (.ref a.o),some (.ref fm),some (.int most),some (.ref kl),some (.int (d:Int)),v5,v6,v7,v8]/\mm=30-d/\(d:Int)<=most/\d<=hs2.length/\(hs2.length:Int)<=most+8/\(d=hs2.length->(hs2.length:Int)<=most)/\Fs P w C S J T a many tl ms ts H hs as (17*tl.length+d*(8*tl.length)) H2 hs2 as2/\H2 kl=some (.lst (qs.map V.ref))/\MksAt H2 qs (hs2.map (mks T tl))/\Hd many hs2/\Nd T hs2 tl/\Cl T many hs2 tl d/\hs2=Gh T many tl hs d/\∀d',d'<d->d'<(Gh T many tl hs d').length,
    ⟨_,0,hs,as3,qs,none,none,none,none,rfl,rfl,by omega,Nat.zero_le _,hl,fun z=>by have:=(List.getElem?_eq_some_iff.mp D.z).1;omega,⟨F3.ap,F3.tk,F3.tb0,F3.sb,F3.tb,F3.j,F3.ex.mono (by omega) (fun _ z=>z),F3.more⟩,hD3,mk3,D,N,fun i h hi=>by omega,rfl,fun d' hd'=>by omega⟩,?_⟩
   rintro mm σ H2 ⟨d,hs2,as2,qs,v5,v6,v7,v8,rfl,rfl,dm,dl,h8,dlast,F2,hk2,mk2,D2,N2,C2,eG,lG⟩
   obtain⟨ps2,g1,g2⟩:=F2.tb.hd
   refine⟨_,rfl,_,rfl,a.o,C,a.dx,_,_,rfl,F2.tb.ob,Y.cls,Y.nH,rfl,a.hA,_,rfl,.inl (SqL.of g1),_,_,rfl,rfl,_,rfl,?_⟩
   rw[List.length_map,g2.1]
   refine ite2 (fun hlt=>?_) (fun hge=>?_)
   ·have hlt':d<hs2.length:=by
     have:=of_decide_eq_true hlt
     omega
    have h0:hs2[d]?=some hs2[d]:=List.getElem?_eq_getElem hlt'
    generalize hs2[d]=h at h0
    have mh:h∈hs2:=List.mem_of_getElem? h0
    have hlen:=D2.len d h h0
    refine⟨fun σ' H'=>∃m',m'<30-d/\∃(d:Nat) (hs2 as2:List (List Int)) (qs:List Addr) (v5 v6 v7 v8:Option V),σ'=[some (.ref a.o),some (.ref fm),some (.int most),some (.ref kl),some (.int (d:Int)),v5,v6,v7,v8]/\m'=30-d/\(d:Int)<=most/\d<=hs2.length/\(hs2.length:Int)<=most+8/\(d=hs2.length->(hs2.length:Int)<=most)/\Fs P w C S J T a many tl ms ts H hs as (17*tl.length+d*(8*tl.length)) H' hs2 as2/\H' kl=some (.lst (qs.map V.ref))/\MksAt H' qs (hs2.map (mks T tl))/\Hd many hs2/\Nd T hs2 tl/\Cl T many hs2 tl d/\hs2=Gh T many tl hs d/\∀d',d'<d->d'<(Gh T many tl hs d').length,fun σ' H' z=>z,?_⟩
    refine⟨_,rfl,a.o,C,a.dx,_,_,rfl,F2.tb.ob,Y.cls,Y.nH,rfl,a.hA,_,rfl,.inl (SqL.of g1),_,rfl,_,_,rfl,rfl,_,rfl,?_⟩
    rw[List.length_map,g2.1]
    refine ite2 (fun hgt=>?_) (fun hle=>?_)
    ·refine⟨_,rfl,by show 1<=sizeLine;decide,raiseS rz H2 _ (fun b hb=>F2.free X hb) fun dd H' s' hd'=>?_⟩
     exact k2 dd H' as2 (X.same F2.j s') hd' (fun b o nb e=>s' _ _ (F2.sb.2 b o nb e)) (F2.sb.1.trans s'.tups) ⟨hs2,D2,N2,of_decide_eq_true hgt⟩
    ·have hle':(hs2.length:Int)<=most:=by
      have:¬most<(hs2.length:Int):=fun z=>hle (decide_eq_true z)
      omega
     obtain⟨q,e1,e2⟩:=g2.2 d h h0
     refine⟨_,rfl,a.o,C,a.dx,_,_,rfl,F2.tb.ob,Y.cls,Y.nH,rfl,_,rfl,a.hA,_,_,_,rfl,rfl,SqL.of g1,atI_nat (by rw[List.getElem?_map,e1];rfl),?_⟩
     have l2:=F2.ex.len
     have hmul:d*(8*tl.length)<=17*(8*tl.length):=Nat.mul_le_mul_right _ (by omega)
     refine⟨_,rfl,a.o,a.dx,_,rfl,F2.tb.ob,rfl,_,rfl,_,rfl,S,J,T,top,Ans,fm,fp,a,many,hs2,tl,as2,ms,ts,q,h,rfl,X,Ap,F2.tb,F2.j,e2,m0,m8,by omega,t9,by omega,htl,D2.lts d h h0,hLt,fun H4 bl qb as4 A4 hbl mkb hblf _=>?_⟩
     have F4:=F2.next A4 (fun r ⟨x,hx,t,htm,e⟩=>⟨h,mh,t,htm,.inr ⟨x,(lsI_mem.mp hx).1,(lsI_mem.mp hx).2,e⟩⟩)
     have hkl4:=A4.sb.2 _ _ nkl hk2
     have hbl0:H bl=none:=F2.free X hblf
     have nkb:bl≠kl:=fun z=>by rw[z,hk2] at hblf;cases hblf
     refine⟨_,rfl,bl,rfl,⟨_,SqL.of hbl⟩,?_⟩
     have lqb:qb.length=many.toNat:=by
      rw[mkb.1,List.length_map]
      unfold lsI
      rw[List.length_map,List.length_range]
     have mm4:many.toNat*tl.length<=8*tl.length:=Nat.mul_le_mul_right _ (by omega)
     refine for_enumL (K:=K) (a:=bl) (xs:=qb.map V.ref) (fun i σ H5=>∃(hs5:List (List Int)) (qs5:List Addr) (v7 v8:Option V),σ=[some (.ref a.o),some (.ref fm),some (.int most),some (.ref kl),some (.int (d:Int)),some (.ref q),some (.ref bl),v7,v8]/\hs5.length<=hs2.length+i/\Fs P w C S J T a many tl ms ts H hs as (17*tl.length+d*(8*tl.length)+many.toNat*tl.length) H5 hs5 as4/\H5 bl=some (.lst (qb.map V.ref))/\MksAt H5 qb ((lsI many).map fun x=>mks T tl (h++[x]))/\H5 kl=some (.lst (qs5.map V.ref))/\MksAt H5 qs5 (hs5.map (mks T tl))/\RA H5 q h/\FV T many tl hs5 d h i/\(hs5.length=hs2.length\/hs2.length<hs5.length)/\hs5=Gl T tl hs2 h i)
      ⟨hs2,qs,_,_,rfl,Nat.le_refl _,F4,hbl,mkb,hkl4,mk2.tsame A4.sb.1,A4.sb.1 _ _ e2,FV.start D2 N2 C2 h0,.inl rfl,rfl⟩ (fun i σ H5 _ ⟨_,_,_,_,_,_,_,e,_⟩=>SqL.of e) ?_ ?_
     ·rintro i x σ H5 p hx ⟨hs5,qs5,v7,v8,rfl,hl5,F5,hb5,mb5,hk5,mk5,hq5,V5,hgr,eL⟩ hp
      rw[List.getElem?_map] at hx
      have hi:i<many.toNat:=by
       rw[<- lqb]
       cases e:qb[i]? with
       |none=>rw[e] at hx;cases hx
       |some q=>exact(List.getElem?_eq_some_iff.mp e).1
      obtain⟨qm,em1,em2⟩:=mb5.2 i (mks T tl (h++[(i:Int)])) (by rw[List.getElem?_map,lsI_get hi];rfl)
      rw[em1] at hx
      cases hx
      have s6:Same H5 (upd H5 p (.tup [.int (i:Nat),.ref qm])):=(Same.refl H5).upd_free hp
      have q6:upd H5 p (.tup [.int (i:Nat),.ref qm]) p=some (.tup [.int (i:Nat),.ref qm]):=upd_same
      generalize upd H5 p (.tup [.int (i:Nat),.ref qm])=H6 at s6 q6 ⊢
      have F6:=F5.same X s6
      refine⟨p,_,rfl,SqT.of q6,rfl,_,_,rfl,_,_,rfl,rfl,?_⟩
      refine⟨_,rfl,_,rfl,in_mks (s6 _ _ em2) (SqL.of (s6 _ _ hk5)) (mk5.tsame s6.tups) ?_⟩
      refine⟨_,rfl,?_⟩
      by_cases hm:mks T tl (h++[(i:Int)])∈hs5.map (mks T tl)
      ·rw[decide_eq_true hm]
       exact iteF ⟨hs5,qs5,_,_,rfl,by omega,F6,s6 _ _ hb5,mb5.tsame s6.tups,s6 _ _ hk5,mk5.tsame s6.tups,s6 _ _ hq5,V5.old hm,hgr,by rw[Gl,<- eL,if_pos hm]⟩
      ·rw[decide_eq_false hm]
       refine iteT ?_
       have lk5:qs5.length=hs5.length:=by rw[mk5.1,List.length_map]
       refine⟨_,rfl,.inl ⟨rfl,_,SqL.of (s6 _ _ hk5)⟩,_,rfl,kl,_,_,rfl,rfl,s6 _ _ hk5,small1000 (by rw[List.length_map];omega),?_⟩
       have ts7:TSame H6 (upd H6 kl (.lst (qs5.map V.ref++[.ref qm]))):=fun b xs e=>by rw[upd_ne (ne_of e (s6 _ _ hk5) (fun z=>by cases z))];exact e
       have F7:Fs P w C S J T a many tl ms ts H hs as (17*tl.length+d*(8*tl.length)+many.toNat*tl.length) (upd H6 kl (.lst (qs5.map V.ref++[.ref qm]))) hs5 as4:=F6.upd X hkl (s6 _ _ hk5) (fun _ z=>by cases z)
       have q7:upd H6 kl (.lst (qs5.map V.ref++[.ref qm])) kl=some (.lst (qs5.map V.ref++[.ref qm])):=upd_same
       have b7:upd H6 kl (.lst (qs5.map V.ref++[.ref qm])) bl=some (.lst (qb.map V.ref)):=by rw[upd_ne nkb];exact s6 _ _ hb5
       generalize upd H6 kl (.lst (qs5.map V.ref++[.ref qm]))=H7 at ts7 F7 q7 b7 ⊢
       obtain⟨ps7,g7,t7⟩:=F7.tb.hd
       have l7:ps7.length=hs5.length:=t7.1
       have hq7:=ts7 _ _ (s6 _ _ hq5)
       refine⟨_,rfl,a.o,C,a.dx,_,_,rfl,F7.tb.ob,Y.cls,Y.nH,rfl,.inl ⟨rfl,_,SqL.of g7⟩,_,rfl,_,rfl,⟨by show 1<=sizeLine;decide,fun p1 hp1=>?_⟩⟩
       have s8:Same H7 (upd H7 p1 (.tup [.int (i:Nat)])):=(Same.refl H7).upd_free hp1
       have q8:upd H7 p1 (.tup [.int (i:Nat)]) p1=some (.tup [.int (i:Nat)]):=upd_same
       generalize upd H7 p1 (.tup [.int (i:Nat)])=H8 at s8 q8 ⊢
       refine⟨q,p1,_,_,rfl,rfl,s8 _ _ hq7,q8,Nat.le_of_lt (small1000 (by rw[List.length_map];show h.length+1<=1000;omega)),fun pr H9 s9 hpr=>?_⟩
       have F9:=(F7.same X s8).same X s9
       have hpr':RA H9 pr (h++[(i:Int)]):=by show H9 pr=_;rw[hpr,List.map_append];rfl
       have g9:=s9 _ _ (s8 _ _ g7)
       have t9':=(t7.tsame s8.tups).tsame s9.tups
       refine⟨a.hA,_,_,rfl,rfl,g9,small1000 (by rw[List.length_map];omega),?_⟩
       have FA:=F9.grow X hpr' g9 t9'
       have tsA:TSame H9 (upd H9 a.hA (.lst (ps7.map V.ref++[.ref pr]))):=fun b xs e=>by rw[upd_ne (ne_of e g9 (fun z=>by cases z))];exact e
       have nklh:kl≠a.hA:=fun z=>by rw[z,hA1] at hkl;cases hkl
       have nblh:bl≠a.hA:=fun z=>by rw[z,hA1] at hbl0;cases hbl0
       refine⟨hs5++[h++[(i:Int)]],qs5++[qm],_,_,rfl,by rw[List.length_append,List.length_singleton];omega,FA,by rw[upd_ne nblh];exact s9 _ _ (s8 _ _ b7),((((mb5.tsame s6.tups).tsame ts7).tsame s8.tups).tsame s9.tups).tsame tsA,by rw[upd_ne nklh,List.map_append];exact s9 _ _ (s8 _ _ q7),?_,tsA _ _ (s9 _ _ (s8 _ _ hq7)),V5.new (by omega) hm,.inr (by rw[List.length_append,List.length_singleton];rcases hgr with z|z<;>omega),by rw[Gl,<- eL,if_neg hm]⟩
       rw[List.map_append]
       exact mks_snoc (((((mk5.tsame s6.tups).tsame ts7).tsame s8.tups).tsame s9.tups).tsame tsA) (tsA _ _ (s9 _ _ (s8 _ _ (ts7 _ _ (s6 _ _ em2)))))
     ·rintro σ H5 ⟨hs5,qs5,v7,v8,rfl,hl5,F5,hb5,mb5,hk5,mk5,hq5,V5,hgr,eL⟩
      rw[List.length_map,lqb] at V5 hl5 eL
      refine⟨_,rfl,_,_,rfl,rfl,?_⟩
      have em:(d+1)*(8*tl.length)=d*(8*tl.length)+8*tl.length:=Nat.succ_mul _ _
      refine⟨30-(d+1),by omega,d+1,hs5,as4,qs5,_,_,_,_,rfl,rfl,by omega,by have:=(List.getElem?_eq_some_iff.mp V5.pl).1;omega,by omega,fun z=>by rcases hgr with y|y<;>omega,⟨F5.ap,F5.tk,F5.tb0,F5.sb,F5.tb,F5.j,F5.ex.mono (by omega) (fun _ z=>z),F5.more⟩,hk5,mk5,V5.hd,V5.nd,V5.done (by omega),by rw[Gh,<- eG,eL];congr 1;rw[List.getD_eq_getElem?_getD,h0];rfl,fun d' hd'=>?_⟩
      by_cases e:d'=d
      ·rw[e,<- eG];exact hlt'
      ·exact lG d' (by omega)
   ·have hge':¬(d:Int)<(hs2.length:Int):=fun z=>hge (decide_eq_true z)
    have ed:d=hs2.length:=by omega
    have hmul:d*(8*tl.length)<=17*(8*tl.length):=Nat.mul_le_mul_right _ (by omega)
    exact k1 H2 hs2 as2 ⟨F2.ap,F2.tk,F2.tb0,F2.sb,F2.tb,F2.j,F2.ex.mono (by omega) (fun _ z=>z),F2.more⟩ D2 N2 (by rw[<- ed];exact C2) (dlast ed) ⟨by rw[<- ed];exact eG,by rw[<- ed];exact lG⟩
end
end LN
namespace LN
open PySem L2 SO K20 K21 K60 K23 K24
section
variable {P:Program} {w:World} {K:W.Frag} {mg:Str->Option Value} {base:Heap} {C:Addr}
variable {S:Addr->Prop} {J:JT} {T:List Int->Bool} {many:Int} {top k:Nat} {Ans:Rms->List Int->Prop} {fm fp:Addr} {a:Ad} {hs tl:List (List Int)} {ms:List Rms} {ts:Told} {U:List Int->Prop} {H0 H H':Hp} {as0 as as':List (List Int)} {n m:Nat}
theorem As.free (A:As P w C S J T a many hs tl ms ts U H0 as0 n H as)(X:Tea P w K mg base k S J T many top Ans fm fp){D:Addr}(hD:H D=none):H0 D=none:=by
 cases e:H0 D with
 |none=>rfl
 |some o=>
  by_cases m:Ma S a D
  ·rcases m with z|z
   ·exact absurd hD (X.trk _ _ _ _ A.j D z)
   ·obtain⟨xs,ob,q,_⟩:=A.tb.an
    rw[z,q] at hD;cases hD
  ·rw[A.sb.2 _ _ m e] at hD;cases hD
end
def spLm (P:Program)(w:World)(K:W.Frag)(mg:Str->Option Value)(base:Heap)(C:Addr)(k:Nat):Sp:=fun vs H Q _=>∃(S:Addr->Prop) (J:JT) (T:List Int->Bool) (top:Nat) (Ans:Rms->List Int->Prop) (fm fp:Addr) (a:Ad) (many:Int) (hs tl as:List (List Int)) (ms:List Rms) (ts:Told),vs=[.ref a.o,.ref fm]∧
 Tea P w K mg base k S J T many top Ans fm fp/\Apt S a/\TbAt P w C T H a many hs tl as/\J H as ms ts/\0<=many/\many<=8/\Hd many hs/\Cl T many hs tl hs.length/\[]∈tl/\hs.length<=17/\as.length+200*tl.length<=16000000/\tl.length<=900/\(∀t∈tl,t.length<=400)/\(∀t∈tl,Lts many t)∧
 ∀H' q as' ns ch,As P w C S J T a many hs tl ms ts (Cv many hs tl) H as (200*tl.length) H' as'->MAt H' q many (minM (rsM T many hs tl) ns ch)->Cls (rsM T many hs tl) many ns->LB (rsM T many hs tl) many ns ch ch.length->(∀r,Cv many hs tl r->r∈as')->Q (.ref q) H'
def spAt (P:Program)(w:World)(C:Addr):Sp:=fun vs H Q _=>∃(T:List Int->Bool) (a:Ad) (many:Int) (hs tl as:List (List Int)) (p:Addr) (r:List Int),vs=[.ref a.o,.ref p]/\TbAt P w C T H a many hs tl as/\a.aA≠a.tA/\a.hA≠a.tA/\RA H p r/\r.length<=90/\tl.length<=800∧
 ∀H',Sb (fun b=>b=a.tA) H H'->TbAt P w C T H' a many hs (adT tl r r.length) as->Q .non H'
section
variable {P:Program} {w:World} {K:W.Frag} {mg:Str->Option Value} {base:Heap} {C:Addr}
abbrev nLm:List Str:=["self","may","known","rooms","head","nexts"]
theorem scLm:FnScope nLm ["self","may"] (defScope sLm):=.of (by decide +kernel)
def scopeLm1:Scope:=⟨.function,[(".0",.local),("head",.local),("may",.free),("self",.free)],false,false,[]⟩
def scopeLm2:Scope:=⟨.function,[(".0",.local),("marks",.local),("known",.free)],false,false,[]⟩
theorem scLm1:BlkScope (defScope sLm) nLm ["head"] ["may","self"] [1,0] scopeLm1:=.of (by decide +kernel)
theorem scLm2:BlkScope (defScope sLm) nLm ["marks"] ["known"] [2] scopeLm2:=.of (by decide +kernel)
theorem ok_lm (F:Fun K "least_machine" "Table.least_machine" sLm f fd)(Y:TK K C)(tup:mg "tuple"=none)(k:Nat)(hk:3<=k+3)
  (mA:Meth K C "answer" fA) (bA:Binds K dA ["self","run","may"] []) (GA:FnOk P w K mg base CX0 (k+1) fA dA ["self","run","may"] (spAn P w K mg base C k))
  (mO:Meth K C "marks_of" fO) (bO:Binds K dO nMo []) (GO:FnOk P w K mg base CX0 (k+2) fO dO nMo (spMo P w K mg base C k))
  (mB:Meth K C "marks_behind" fB) (bB:Binds K dB nMo []) (GB:FnOk P w K mg base CX0 (k+3) fB dB nMo (spMb P w K mg base C k))
  (FL:Fun K "least" "least" sLs fL dL) (bL:Binds K dL ["machine"] []) (gL:mg "least"=some (.ref fL)) (GL:FnOk P w K mg base CX0 3 fL dL ["machine"] spLs):
  FnOk P w K mg base CX0 (k+4) f fd ["self","may"] (spLm P w K mg base C k):=by
 refine F.ok scLm (fun vs H Q E h=>?_) (fun cdv A outer s H vs Q E hr h=>?_)
 ·obtain⟨_,_,_,_,_,_,_,_,_,_,_,_,_,_,rfl,_⟩:=h
  rfl
 ·obtain⟨S,J,T,top,Ans,fm,fp,a,many,hs,tl,as,ms,ts,rfl,X,Ap,B,j,m0,m8,D,CL,tz,hsl,hb,t9,htl,hLt,k'⟩:=h
  have hr1:Room (k+1) _:=hr.mono (by omega)
  have hrO:Room (k+2) _:=hr.mono (by omega)
  have hr3:Room 3 _:=hr.mono (by omega)
  have hu64:=hr.units
  refine⟨_,pss_cons (ps_set (i:=2) scLm.nd rfl (Or.inr rfl) (pe_lc scLm1 rfl rfl rfl (pi_list (pe_fld (pv 0) rfl)) (fun fp C s1 H1=>pg_name (i:=0) scLm1.nd rfl (Or.inl rfl)) (fun fp C s1 H1=>pts_nil)
    (fun fp C s1 H1=>pe_meth (pv 2) Y.cls mO GO hrO bO .nil pass0 (pa_cons (pv 0) (pa_cons (pv 1) pa_nil)))))
   (pss_cons (ps_set (i:=3) scLm.nd rfl (Or.inl rfl) (pe_lst pa_nil))
   (pss_cons (ps_for PassesOwn.never rfl (pi_list (pe_fld (pv 0) rfl)) (pg_name (i:=4) scLm.nd rfl (Or.inl rfl))
    (pss_cons (ps_set (i:=5) scLm.nd rfl (Or.inl rfl) (pe_callTy call_tuple_of (by rfl) tup PyProof.Rows.boot_tuple (pa_cons
     (pe_lc scLm2 rfl rfl rfl (pi_list (pe_meth (pv 0) Y.cls mB GB hr bB .nil pass0 (pa_cons (pv 4) (pa_cons (pv 1) pa_nil)))) (fun fp C s1 H1=>pg_name (i:=0) scLm2.nd rfl (Or.inl rfl)) (fun fp C s1 H1=>pts_nil)
      (fun fp C s1 H1=>pe_bmK (K:=K) (r:=rIdx K) rfl PySem.F.plainAttrs_list PySem.F.slot_list_index PySem.F.type_list_index (mt_index hu64) (pv 1) (pa_cons (pv 0) pa_nil))) pa_nil)))
    (pss_one (ps_expr (pe_bm PySem.F.plainAttrs_list PySem.F.slot_list_append PySem.F.type_list_append mt_append (pv 3) (pa_cons (pe_tup (pa_cons (pe_meth (pv 0) Y.cls mA GA hr1 bA .nil pass0 (pa_cons (pv 4) (pa_cons (pv 1) pa_nil))) (pa_cons (pv 5) pa_nil))) pa_nil))))))
   (pss_one (ps_ret (pe_call GL hr3 rfl gL FL.kp bL .nil pass0 (pa_cons (pe_tup (pa_cons (pe_fld (pv 0) rfl) (pa_cons (pe_callTy call_tuple_of (by rfl) tup PyProof.Rows.boot_tuple (pa_cons (pv 3) pa_nil)) pa_nil))) pa_nil)))))),?_⟩
  obtain⟨ps,hA1,hA2⟩:=B.hd
  refine⟨_,rfl,a.o,C,a.dx,_,_,rfl,B.ob,Y.cls,Y.nH,rfl,a.hA,rfl,⟨_,SqL.of hA1⟩,fun kl hkl=>?_⟩
  have A0:As P w C S J T a many hs tl ms ts (Cv many hs tl) H as 0 H as:=As.start X Ap B j
  have nkl:=A0.new hkl
  have nhA:¬Ma S a a.hA:=fun z=>by
   rcases z with z|z
   ·exact Ap.hA z
   ·exact Ap.n1 z.symm
  refine lc_list (K:=K) (a:=a.hA) (xs:=ps.map V.ref) (fun i ys H3=>∃(as':List (List Int)) (qs:List Addr),ys=qs.map V.ref/\As P w C S J T a many hs tl ms ts (Cv many hs tl) H as (i*tl.length) H3 as'/\MksAt H3 qs ((hs.take i).map (mks T tl))/\qs.length=i/\H3 kl=some (.lst ys)/\∀h∈hs.take i,∀t∈tl,h++t∈as') (Nat.le_of_lt (small1000 (by rw[List.length_map,hA2.1];omega)))
   ⟨as,[],rfl,by rw[Nat.zero_mul];exact A0.same X ((Same.refl H).upd_free hkl),mks_nil,rfl,upd_same,fun h hh=>by simp at hh⟩ (fun i ys H3 ⟨_,qs,e,_,_,e2,_⟩=>by rw[e,List.length_map,e2];exact Nat.le_refl _) (fun i ys H3 ⟨_,_,_,A3,_⟩=>SqL.of (A3.sb.2 _ _ nhA hA1)) ?_ ?_
  ·rintro i ys H3 x NN MM hx ⟨as3,qs,rfl,A3,mk3,lq,hD3,in3⟩ hN hM
   rw[List.getElem?_map] at hx
   have hi:i<hs.length:=by
    rw[<- hA2.1]
    cases e:ps[i]? with
    |none=>rw[e] at hx;cases hx
    |some q=>exact(List.getElem?_eq_some_iff.mp e).1
   have et:hs[i]?=some hs[i]:=List.getElem?_eq_getElem hi
   generalize hs[i]=h at et
   obtain⟨q,e1,e2⟩:=hA2.2 i h et
   have mt:h∈hs:=List.mem_of_getElem? et
   rw[e1] at hx
   cases hx
   have hq3:=A3.sb.1 _ _ e2
   have l3:=A3.len
   have l4:=D.len i h et
   have hmul:i*tl.length<=17*tl.length:=Nat.mul_le_mul_right _ (by omega)
   refine⟨_,rfl,a.o,a.dx,_,rfl,A3.tb.ob,rfl,_,rfl,_,rfl,S,J,T,top,Ans,fm,fp,a,many,hs,tl,as3,ms,ts,q,h,rfl,X,Ap,A3.tb,A3.j,hq3,by omega,t9,by omega,htl,D.lts i h et,hLt,fun H6 q6 as6 A6 hq6 in6=>?_⟩
   have A7:=A3.next A6.sb A6.tb A6.j A6.ex (fun r ⟨t,ht,e⟩=>⟨h,mt,t,ht,.inl e⟩)
   have hD6:=A6.sb.2 _ _ nkl hD3
   have ts7:TSame H6 (upd H6 kl (.lst (qs.map V.ref++[.ref q6]))):=fun b xs e=>by rw[upd_ne (ne_of e hD6 (fun z=>by cases z))];exact e
   refine hN _ H6 hD6 ⟨as6,qs++[q6],by rw[List.map_append];rfl,?_,?_,by rw[List.length_append,lq];rfl,upd_same,fun h' hh' t ht=>?_⟩
   ·rw[Nat.succ_mul]
    exact A7.upd X hkl hD6 (fun _ z=>by cases z)
   ·rw[List.take_add_one,et,List.map_append]
    exact mks_snoc (mk3.tsame (A6.sb.1.trans ts7)) (ts7 _ _ hq6)
   ·rw[List.take_add_one,et] at hh'
    rcases List.mem_append.mp hh' with z|z
    ·exact A6.ex.sub (in3 h' z t ht)
    ·rw[Option.toList_some,List.mem_singleton] at z
     rw[z]
     exact in6 t ht
  ·rintro ys H3 ⟨as3,qs,rfl,A3,mk3,lq,hD3,in3⟩
   rw[List.length_map,hA2.1] at A3 lq mk3 in3
   rw[List.take_of_length_le (Nat.le_refl _)] at mk3 in3
   have hm0:hs.length*tl.length<=17*tl.length:=Nat.mul_le_mul_right _ (by omega)
   have tpos:1<=tl.length:=List.length_pos_of_mem tz
   refine⟨Nat.zero_le _,fun rl hrl=>?_⟩
   have hrl0:H rl=none:=A3.free X hrl
   have nrl:=A3.new hrl0
   have nkr:kl≠rl:=fun z=>by rw[<- z,hD3] at hrl;cases hrl
   have s4:Same H3 (upd H3 rl (.lst [])):=(Same.refl H3).upd_free hrl
   have q4:upd H3 rl (.lst []) rl=some (.lst []):=upd_same
   generalize upd H3 rl (.lst [])=H4 at s4 q4 ⊢
   have A4:=A3.same X s4
   refine⟨_,rfl,a.o,C,a.dx,_,_,rfl,A4.tb.ob,Y.cls,Y.nH,rfl,a.hA,rfl,⟨_,SqL.of (A4.sb.2 _ _ nhA hA1)⟩,?_⟩
   refine for_list (K:=K) (a:=a.hA) (xs:=ps.map V.ref) (fun i σ H5=>∃(as5:List (List Int)) (rq:List Addr) (v4 v5:Option V),σ=[some (.ref a.o),some (.ref fm),some (.ref kl),some (.ref rl),v4,v5]/\As P w C S J T a many hs tl ms ts (Cv many hs tl) H as (17*tl.length+i*(9*tl.length)) H5 as5/\H5 kl=some (.lst (qs.map V.ref))/\MksAt H5 qs (hs.map (mks T tl))/\H5 rl=some (.lst (rq.map V.ref))/\RowsAt H5 rq ((hs.take i).map (rowM T many hs tl))/\(∀r∈as3,r∈as5)/\∀h∈hs.take i,∀x∈lsI many,∀t∈tl,h++[x]++t∈as5)
    ⟨as3,[],none,none,rfl,A4.mono (by omega) (fun _ z=>z),s4 _ _ hD3,mk3.tsame s4.tups,q4,⟨rfl,fun i r e=>by simp at e⟩,fun r hr=>hr,fun h hh=>by simp at hh⟩ (fun i σ H5 _ ⟨_,_,_,_,_,A5,_⟩=>SqL.of (A5.sb.2 _ _ nhA hA1)) ?_ ?_
   ·rintro i x σ H5 hx ⟨as5,rq,v4,v5,rfl,A5,hk5,mk5,hr5,rw5,sub5,in5⟩
    rw[List.getElem?_map] at hx
    have hi:i<hs.length:=by
     rw[<- hA2.1]
     cases e:ps[i]? with
     |none=>rw[e] at hx;cases hx
     |some q=>exact(List.getElem?_eq_some_iff.mp e).1
    have et:hs[i]?=some hs[i]:=List.getElem?_eq_getElem hi
    generalize hs[i]=h at et
    obtain⟨q,e1,e2⟩:=hA2.2 i h et
    have mt:h∈hs:=List.mem_of_getElem? et
    rw[e1] at hx
    cases hx
    have hq5:=A5.sb.1 _ _ e2
    have l5:=A5.len
    have l4:=D.len i h et
    have hmul:i*(9*tl.length)<=16*(9*tl.length):=Nat.mul_le_mul_right _ (by omega)
    refine⟨_,rfl,a.o,a.dx,_,rfl,A5.tb.ob,rfl,_,rfl,_,rfl,S,J,T,top,Ans,fm,fp,a,many,hs,tl,as5,ms,ts,q,h,rfl,X,Ap,A5.tb,A5.j,hq5,m0,m8,by omega,t9,by omega,htl,D.lts i h et,hLt,fun H6 bl qb as6 A6 hbl mkb hblf in6=>?_⟩
    have A6':=A5.next A6.sb A6.tb A6.j A6.ex (fun r ⟨x,hx,t,htm,e⟩=>⟨h,mt,t,htm,.inr ⟨x,(lsI_mem.mp hx).1,(lsI_mem.mp hx).2,e⟩⟩)
    have hk6:=A6.sb.2 _ _ nkl hk5
    have mk6:=mk5.tsame A6.sb.1
    have hr6:=A6.sb.2 _ _ nrl hr5
    have lqb:qb.length=many.toNat:=by
     rw[mkb.1,List.length_map]
     unfold lsI
     rw[List.length_map,List.length_range]
    refine⟨bl,rfl,⟨_,SqL.of hbl⟩,fun D2 hD2=>?_⟩
    refine lc_list (K:=K) (a:=bl) (xs:=qb.map V.ref) (fun c ys H7=>ys=(((lsI many).take c).map fun x=>V.int (ixM T hs tl (h++[x])))/\Same H6 H7/\H7 D2=some (.lst ys)) (Nat.le_of_lt (small1000 (by rw[List.length_map];omega)))
     ⟨rfl,(Same.refl H6).upd_free hD2,upd_same⟩ (fun c ys H7 ⟨e,_,_⟩=>by rw[e,List.length_map,List.length_take];exact Nat.min_le_left _ _) (fun c ys H7 ⟨_,s7,_⟩=>SqL.of (s7 _ _ hbl)) ?_ ?_
    ·rintro c ys H7 x NN MM hx ⟨rfl,s7,hD7⟩ hN hM
     rw[List.getElem?_map] at hx
     have hc:c<many.toNat:=by
      rw[<- lqb]
      cases e:qb[c]? with
      |none=>rw[e] at hx;cases hx
      |some q=>exact(List.getElem?_eq_some_iff.mp e).1
     obtain⟨qm,em1,em2⟩:=mkb.2 c (mks T tl (h++[(c:Int)])) (by rw[List.getElem?_map,lsI_get hc];rfl)
     rw[em1] at hx
     cases hx
     have hin:mks T tl (h++[(c:Int)])∈hs.map (mks T tl):=CL i h hi et c (by omega) (by omega)
     refine⟨_,rfl,.inl ⟨rfl,_,SqL.of (s7 _ _ hk6)⟩,_,rfl,kl,_,_,_,_,_,rfl,rfl,SqL.of (s7 _ _ hk6),mks_dat (mk6.tsame s7.tups),mk_dat (s7 _ _ em2),dMk_ok _,dMks_lay _,dMks_ix _ _ hin,by rw[List.length_map,List.length_map];omega,?_⟩
     refine hN _ H7 hD7 ⟨?_,fun b o e=>?_,upd_same⟩
     ·rw[List.take_add_one,lsI_get hc,List.map_append]
      rfl
     ·rw[upd_ne (ne_of_none e hD2)]
      exact s7 _ _ e
    ·rintro ys H7 ⟨rfl,s7,hD7⟩
     rw[List.length_map,lqb,List.take_of_length_le (by unfold lsI;rw[List.length_map,List.length_range];exact Nat.le_refl _)] at hD7
     refine⟨D2,_,rfl,.inl ⟨SqL.of hD7,fun zt hzt=>?_⟩⟩
     have s8:Same H6 (upd H7 zt (.tup ((lsI many).map fun x=>V.int (ixM T hs tl (h++[x]))))):=s7.trans ((Same.refl H7).upd_free hzt)
     have q8:upd H7 zt (.tup ((lsI many).map fun x=>V.int (ixM T hs tl (h++[x])))) zt=some (.tup ((lsI many).map fun x=>V.int (ixM T hs tl (h++[x])))):=upd_same
     generalize upd H7 zt (.tup ((lsI many).map fun x=>V.int (ixM T hs tl (h++[x]))))=H8 at s8 q8 ⊢
     have A8:=A6'.same X s8
     have l8:=A8.len
     have mm4:many.toNat*tl.length<=8*tl.length:=Nat.mul_le_mul_right _ (by omega)
     have hr8:=s8 _ _ hr6
     refine⟨_,rfl,.inl ⟨rfl,_,SqL.of hr8⟩,?_⟩
     refine⟨_,rfl,a.o,a.dx,_,rfl,A8.tb.ob,rfl,_,rfl,_,rfl,S,J,T,top,Ans,fm,fp,a,many,hs,tl,as6,ms,ts,q,h,rfl,X,Ap,A8.tb,A8.j,s8 _ _ (A6.sb.1 _ _ hq5),D.lts i h et,by omega,fun H9 as9 s9 tb9 j9 ex9 _=>?_⟩
     have A9:=A8.next s9 tb9 j9 ex9 (fun r hr=>⟨h,mt,[],tz,.inl (by rw[List.append_nil];exact hr)⟩)
     have hr9:=s9.2 _ _ nrl hr8
     refine⟨_,rfl,by show 2<=sizeLine;decide,fun pr hpr=>?_⟩
     have sA:Same H9 (upd H9 pr (.tup [.bl (T h),.ref zt])):=(Same.refl H9).upd_free hpr
     have qA:upd H9 pr (.tup [.bl (T h),.ref zt]) pr=some (.tup [.bl (T h),.ref zt]):=upd_same
     generalize upd H9 pr (.tup [.bl (T h),.ref zt])=HA at sA qA ⊢
     have AA:=A9.same X sA
     have hrA:=sA _ _ hr9
     have lrq:rq.length=i:=by
      rw[rw5.1,List.length_map,List.length_take]
      omega
     refine⟨rl,_,_,rfl,rfl,hrA,small1000 (by rw[List.length_map];omega),?_⟩
     have tsB:TSame HA (upd HA rl (.lst (rq.map V.ref++[.ref pr]))):=fun b xs e=>by rw[upd_ne (ne_of e hrA (fun z=>by cases z))];exact e
     have ts:TSame H5 (upd HA rl (.lst (rq.map V.ref++[.ref pr]))):=((A6.sb.1.trans s8.tups).trans s9.1).trans (sA.tups.trans tsB)
     refine⟨as9,rq++[pr],_,_,rfl,(AA.upd X hrl0 hrA (fun _ z=>by cases z)).mono ?_ (fun _ z=>z),by rw[upd_ne nkr];exact sA _ _ (s9.2 _ _ nkl (s8 _ _ hk6)),mk5.tsame ts,by rw[upd_same,List.map_append];rfl,?_,fun r hr=>ex9.sub (A6.ex.sub (sub5 r hr)),fun h' hh' x hx t ht=>?_⟩
     ·have em:(i+1)*(9*tl.length)=i*(9*tl.length)+9*tl.length:=Nat.succ_mul _ _
      rw[em]
      omega
     ·rw[List.take_add_one,et,List.map_append]
      refine rows_snoc (z:=zt) ⟨rw5.1,fun c r e=>?_⟩ (tsB _ _ qA) ?_
      ·obtain⟨q',z',h1,h2,h3⟩:=rw5.2 c r e
       exact⟨q',z',h1,ts _ _ h2,ts _ _ h3⟩
      ·show _=some (HO.tup (((lsI many).map fun l=>ixM T hs tl (h++[l])).map V.int))
       rw[List.map_map]
       exact tsB _ _ (sA.tups _ _ (s9.1 _ _ q8))
     ·rw[List.take_add_one,et] at hh'
      rcases List.mem_append.mp hh' with z|z
      ·exact ex9.sub (A6.ex.sub (in5 h' z x hx t ht))
      ·rw[Option.toList_some,List.mem_singleton] at z
       rw[z]
       exact ex9.sub (in6 x hx t ht)
   ·rintro σ H5 ⟨as5,rq,v4,v5,rfl,A5,hk5,mk5,hr5,rw5,sub5,in5⟩
    rw[List.length_map,hA2.1] at A5 rw5 in5
    rw[List.take_of_length_le (Nat.le_refl _)] at rw5 in5
    have hmul:hs.length*(9*tl.length)<=17*(9*tl.length):=Nat.mul_le_mul_right _ (by omega)
    refine⟨_,rfl,a.o,C,a.dx,_,_,rfl,A5.tb.ob,Y.cls,Y.nM,rfl,_,rfl,rl,_,rfl,.inl ⟨SqL.of hr5,fun zt hzt=>?_⟩⟩
    have s6:Same H5 (upd H5 zt (.tup (rq.map V.ref))):=(Same.refl H5).upd_free hzt
    have q6:upd H5 zt (.tup (rq.map V.ref)) zt=some (.tup (rq.map V.ref)):=upd_same
    generalize upd H5 zt (.tup (rq.map V.ref))=H6 at s6 q6 ⊢
    refine⟨by show 2<=sizeLine;decide,fun m hm=>?_⟩
    have s7:Same H6 (upd H6 m (.tup [.int many,.ref zt])):=(Same.refl H6).upd_free hm
    have q7:upd H6 m (.tup [.int many,.ref zt]) m=some (.tup [.int many,.ref zt]):=upd_same
    generalize upd H6 m (.tup [.int many,.ref zt])=H7 at s7 q7 ⊢
    refine⟨m,many,rsM T many hs tl,rfl,⟨zt,rq,q7,s7 _ _ q6,(rw5.same s6).same s7⟩,rs_good D CL m0 m8 (by omega),fun q ns ch H8 s8 hM hC hL=>?_⟩
    exact k' H8 q as5 ns ch ((((A5.same X s6).same X s7).same X s8).mono (by omega) (fun _ z=>z)) hM hC hL fun r ⟨h,hh,t,ht,c⟩=>by
     rcases c with e|⟨l,l0,l1,e⟩
     ·rw[e];exact sub5 _ (in3 h hh t ht)
     ·rw[e];exact in5 h hh l (lsI_mem.mpr ⟨l0,l1⟩) t ht
abbrev nAt:List Str:=["self","run","start"]
theorem scAt:FnScope nAt ["self","run"] (defScope sAt):=.of (by decide +kernel)
theorem ok_at (F:Fun K "add_tails" "Table.add_tails" sAt f fd)(Y:TK K C)(len:mg "len"=none)(rng:mg "range"=none):FnOk P w K mg base CX0 1 f fd ["self","run"] (spAt P w C):=by
 refine F.ok scAt (fun vs H Q E h=>?_) (fun cdv A outer s H vs Q E hr h=>?_)
 ·obtain⟨_,_,_,_,_,_,_,_,rfl,_⟩:=h
  rfl
 ·obtain⟨T,a,many,hs,tl,as,p,r,rfl,B,n2,n3,hp,hl,t8,k⟩:=h
  have hu64:=hr.units
  refine⟨_,pss_one (ps_for PassesOwn.never rfl (pi_range1 rfl rng (pa_cons (pe_callB call_len_seq (by rfl) len PySem.boot_len (pa_cons (pv 1) pa_nil)) pa_nil)) (pg_name (i:=2) scAt.nd rfl (Or.inl rfl))
   (pss_one (ps_if (pt_cmpR (op_notInD hu64) (pe_slice sl_tupA (pv 1) (po_some (pv 2)) po_none) (pe_fld (pv 0) rfl) (by with_unfolding_all rfl))
    (pss_one (ps_expr (pe_bm PySem.F.plainAttrs_list PySem.F.slot_list_append PySem.F.type_list_append mt_append (pe_fld (pv 0) rfl) (pa_cons (pe_slice sl_tupA (pv 1) (po_some (pv 2)) po_none) pa_nil)))) pss_nil))),?_⟩
  refine⟨_,rfl,p,_,rfl,.inr (SqT.of hp),_,rfl,by rw[List.length_map];omega,by rw[List.length_map];omega,?_⟩
  refine for_range (lo:=0) (n:=((r.map V.int).length:Int).toNat) (fun i σ H2=>∃v2:Option V,σ=[some (.ref a.o),some (.ref p),v2]/\Sb (fun b=>b=a.tA) H H2/\TbAt P w C T H2 a many hs (adT tl r i) as) ⟨none,rfl,Sb.refl,B⟩ ?_ ?_
  ·rintro i σ H2 hi ⟨v2,rfl,s2,B2⟩
   rw[List.length_map,Int.toNat_natCast] at hi
   have hp2:=s2.1 _ _ hp
   have ei:(0:Int)+(i:Int)=((i:Nat):Int):=by omega
   rw[ei]
   refine⟨_,rfl,_,rfl,_,rfl,p,_,rfl,hp2,fun q H3 s3 hq=>?_⟩
   rw[cut_drop,<- List.map_drop] at hq
   have B3:=B2.same s3
   obtain⟨ts,g1,g2⟩:=B3.tl
   refine⟨_,rfl,a.o,C,a.dx,_,_,rfl,B3.ob,Y.cls,Y.nT,rfl,in_runs hq (.inl (SqL.of g1)) g2 ?_⟩
   refine⟨_,rfl,?_⟩
   have tlen:=adT_len tl r i
   by_cases hm:r.drop i∈adT tl r i
   ·rw[decide_eq_true hm]
    refine iteF ⟨_,rfl,s2.same s3,?_⟩
    rw[adT_succ,if_pos hm]
    exact B3
   ·rw[decide_eq_false hm]
    refine iteT ?_
    refine⟨_,rfl,a.o,C,a.dx,_,_,rfl,B3.ob,Y.cls,Y.nT,rfl,.inl ⟨rfl,_,SqL.of g1⟩,_,rfl,_,rfl,_,rfl,p,_,rfl,s3 _ _ hp2,fun q4 H4 s4 hq4=>?_⟩
    rw[cut_drop,<- List.map_drop] at hq4
    have B4:=B3.same s4
    have g4:=s4 _ _ g1
    refine⟨a.tA,_,_,rfl,rfl,g4,small1000 (by rw[List.length_map,g2.1];omega),?_⟩
    have ts5:TSame H4 (upd H4 a.tA (.lst (ts.map V.ref++[.ref q4]))):=fun b xs e=>by rw[upd_ne (ne_of e g4 (fun z=>by cases z))];exact e
    refine⟨_,rfl,((s2.same s3).same s4).upd rfl g4 (fun _ z=>by cases z),?_⟩
    obtain⟨h1,⟨hps,h2,h3⟩,_,xs,ob,h6,h7,h8,h9⟩:=B4
    rw[adT_succ,if_neg hm]
    exact⟨by rw[upd_ne (fun z=>by rw[z,g4] at h1;cases h1)];exact h1,⟨hps,by rw[upd_ne n3];exact h2,h3.tsame ts5⟩,⟨ts++[q4],by rw[upd_same,List.map_append];rfl,tups_snoc ((g2.tsame s4.tups).tsame ts5) (ts5 _ _ hq4)⟩,xs,ob,by rw[upd_ne n2];exact h6,h7.same ts5,h8,h9⟩
  ·rintro σ H2 ⟨v2,rfl,s2,B2⟩
   rw[List.length_map,Int.toNat_natCast] at B2
   exact k H2 s2 B2
end
end LN
namespace L2
open PySem PyProof
theorem FunD.okX {P:Program}{w:World}{K:W.Frag}{mg:Str->Option Value}{base:Heap}{x qual:Str}{st:Stmt}{f:Addr}{fd:FuncData}{its:Array Value}{N ps:List Str}{k:Nat}{sp:Sp}(F:FunD K x qual st f fd its)(S:FnScope N ps (defScope st))(len:∀vs H Q E,sp vs H Q E->vs.length=ps.length)
  (hbody:∀(cdv:Value) (A:Around) (outer:List Env) (s:Shared) (H:Hp) (vs:List V) (Q:VK) (E:XK),Room k (A.deeper (PyProof.Rows.envOfC qual (defScope st) s.heap.objs.size f cdv))->sp vs H Q E→
   ∃t,PSs (cxOf (CX1 P w) P w K mg base N qual (defScope st) f cdv A outer s H E) (defBody st) t/\t { nx:=fun _ H'=>Q .non H',rt:=Q } (start N vs) H):FnOk P w K mg base (CX1 P w) (k+1) f fd ps sp:=by
 obtain⟨oc,od,dT,kV,doc,pm,an,cdv,ct,osl,rfl,lk,hcd,_⟩:=F.ex
 exact fn_of lk hcd S len fun A outer s H vs Q E hr hsp=>hbody cdv A outer s H vs Q E hr hsp
end L2
namespace LN
open PySem L2 SO K20 K21 K60 K23 K24
theorem Sb.out {S M:Addr->Prop}{H H1 H2:Hp}(a:Sb S H H1)(b:Sb M H1 H2)(h:∀c,M c->S c\/H c=none):Sb S H H2:=⟨a.1.trans b.1,fun c o n e=>b.2 c o (fun z=>by
 rcases h c z with z|z
 ·exact n z
 ·rw[e] at z;cases z) (a.2 c o n e)⟩
theorem MAt.ts {H H':Hp}{a:Addr}{many:Int}{rs:Rms}(h:MAt H a many rs)(s:TSame H H'):MAt H' a many rs:=by
 obtain⟨p,qs,h1,h2,h3,h4⟩:=h
 refine⟨p,qs,s _ _ h1,s _ _ h2,h3,fun i r e=>?_⟩
 obtain⟨q,z,e1,e2,e3⟩:=h4 i r e
 exact⟨q,z,e1,s _ _ e2,s _ _ e3⟩
def sumT (ts:Told):Nat:=(ts.map fun o=>match o with|some r=>r.length|none=>0).sum
theorem sumT_snoc (ts:Told)(r:List Int):sumT (ts++[some r])=sumT ts+r.length:=by
 unfold sumT
 rw[List.map_append,List.sum_append]
 simp
theorem sumT_none (ts:Told):sumT (ts++[none])=sumT ts:=by
 unfold sumT
 rw[List.map_append,List.sum_append]
 simp
theorem nd_sub {α:Type}[DecidableEq α]:∀(b c:List α),b.Nodup->(∀x∈b,x∈c)->b.length<=c.length
 | [],_,_,_=>Nat.zero_le _
 |x::b,c,nd,h=>by
  obtain⟨n1,n2⟩:=List.nodup_cons.mp nd
  have hx:=h x List.mem_cons_self
  have ih:=nd_sub b (c.erase x) n2 fun y hy=>(List.mem_erase_of_ne (fun e=>n1 (by rw[<- e];exact hy))).mpr (h y (List.mem_cons_of_mem _ hy))
  rw[List.length_erase_of_mem hx] at ih
  have:=List.length_pos_of_mem hx
  rw[List.length_cons]
  omega
def allC (many:Int)(hs tl:List (List Int)):List (List Int):=hs.flatMap fun h=>tl.flatMap fun t=>(h++t)::(lsI many).map fun l=>h++[l]++t
theorem allC_len {many:Int}{hs tl:List (List Int)}:(allC many hs tl).length=hs.length*(tl.length*(many.toNat+1)):=by
 have l1:∀h:List Int,(tl.flatMap fun t=>(h++t)::(lsI many).map fun l=>h++[l]++t).length=tl.length*(many.toNat+1):=fun h=>by
  induction tl with
  |nil=>simp
  |cons t tl ih=>
   rw[List.flatMap_cons,List.length_append,ih,List.length_cons,List.length_cons,List.length_map,Nat.succ_mul]
   unfold lsI
   rw[List.length_map,List.length_range]
   omega
 unfold allC
 induction hs with
 |nil=>simp
 |cons h hs ih=>rw[List.flatMap_cons,List.length_append,ih,l1,List.length_cons,Nat.succ_mul,Nat.add_comm]
theorem cv_count {many:Int}{hs tl as:List (List Int)}(nd:as.Nodup)(h:∀r∈as,Cv many hs tl r):as.length<=hs.length*(tl.length*(many.toNat+1)):=by
 rw[<- allC_len]
 refine nd_sub as _ nd fun r hr=>?_
 obtain⟨g,a,t,b,c⟩:=h r hr
 unfold allC
 refine List.mem_flatMap.mpr ⟨g,a,List.mem_flatMap.mpr ⟨t,b,?_⟩⟩
 rcases c with rfl|⟨l,l0,l1,rfl⟩
 ·exact List.mem_cons_self
 ·exact List.mem_cons_of_mem _ (List.mem_map.mpr ⟨l,lsI_mem.mpr ⟨l0,l1⟩,rfl⟩)
def spNr (CN:Addr):Sp:=fun vs H Q _=>∃(a:Addr) (x:V),vs=[.ref a,x]/\H a=some (.ext (ExcNew a CN none))/\∀d,H d=none->d≠a->Q .non (upd (upd H a (.ext (ExcNew a CN (some d)))) d (.xd [("run",x)]))
theorem raiseR {K:W.Frag}{CN:Addr}{H:Hp}{E:XK}{x:V}(rz:excRz K CN=true)(H2:Hp)(E0':XK)(hfree:∀a,H2 a=none->H a=none)(kE:∀d H',Same H2 H'->H' d=some (.xd [("run",x)])->E (.ref CN) (some d) H'):∀a,H2 a=none->spNr CN (.ref a::([x]++[])) (upd H2 a (.ext (ExcNew a CN none))) (fun v H3=>v=.non/\∃a' C dd,V.ref a=.ref a'/\H3 a'=some (.ext (ExcNew a' C dd))/\H a'=none/\excRz K C=true/\E (.ref C) dd (untr H3 a')) E0':=by
 intro a ha
 refine⟨a,_,rfl,upd_same,fun d hd hn=>⟨rfl,a,CN,some d,rfl,by rw[upd_ne (Ne.symm hn),upd_same],hfree a ha,rz,?_⟩⟩
 have hd2:H2 d=none:=by rw[upd_ne hn] at hd;exact hd
 refine kE d _ (fun b o e=>?_) ?_
 ·have nb:b≠a:=ne_of_none e ha
  rw[untr_ne nb,upd_ne (ne_of_none e hd2),upd_ne nb,upd_ne nb]
  exact e
 ·rw[untr_ne hn,upd_same]
structure Lo (P:Program)(w:World)(C:Addr)(S:Addr->Prop)(J:JT)(T:List Int->Bool)(a:Ad)(many most:Int)(H0 H:Hp)(hs tl as:List (List Int))(ms:List Rms)(ts:Told):Prop where
 sb:Sb S H0 H
 tb:TbAt P w C T H a many hs tl as
 j:J H as ms ts
 hd:Hd many hs
 nd:Nd T hs tl
 qt:Tl many tl
 le:(hs.length:Int)<=most
 cov:∀r∈as,Cv many hs tl r
 tn:tl.length<=1+90*ms.length
 tu:tl.length<=1+sumT ts
 tt:∀t∈tl,t.length<=90
 an:as.length<=400000*ms.length
 da:as.Nodup
 tl2:ms.length=ts.length
 tr:∀(i:Nat) (m:Rms) (r:List Int),ms[i]?=some m->ts[i]?=some (some r)->gd m (walkM m 0 r)≠T r
 ml:ms.length<=hs.length
 hi:Hi T many ms ts hs tl
 pg:ms=[]\/∃(tl0:List (List Int)) (m:Rms),ms.getLast?=some m/\(∀t∈tl0,t∈tl)/\Nd T hs tl0/\m.length=hs.length/\∃r∈tl,gd (rsM T many hs tl0) (walkM (rsM T many hs tl0) 0 r)≠T r
def spLt (P:Program)(w:World)(K:W.Frag)(mg:Str->Option Value)(base:Heap)(CG CP:Addr)(k:Nat):Sp:=fun vs H Q E=>∃(S:Addr->Prop) (J:JT) (T:List Int->Bool) (Ans:Rms->List Int->Prop) (fm fp:Addr) (many most:Int),vs=[.int many,.ref fm,.ref fp,.int most]∧
 Tea P w K mg base k S J T many most.toNat Ans fm fp/\J H [] [] []/\0<=many/\many<=8/\1<=most/\most<=9∧
 (∀H' q mA as ms m ts,Sb S H H'->J H' as (ms++[m]) (ts++[none])->MAt H' mA many m->H' q=some (.tup [.ref mA,.int as.length])->as.length<=m.length*((1+sumT ts)*(many.toNat+1))->Fin T many as ms m ts->(∃hs,Hd many hs/\m.length=hs.length/\∃tl,Nd T hs tl/\∀t∈tl,Lts many t)->Q (.ref q) H')∧
 (∀d H' as ms ts,Sb S H H'->J H' as ms ts->H' d=some (.xd [("number",.int most)])->(∃hs tl,Hd many hs/\Nd T hs tl/\(∀t∈tl,Lts many t)/\most<(hs.length:Int))->(∀(i:Nat) (m:Rms) (r:List Int),ms[i]?=some m->ts[i]?=some (some r)->gd m (walkM m 0 r)≠T r)->E (.ref CG) (some d) H')∧
 ∀d H' as ms ts m p r,Sb S H H'->J H' as (ms++[m]) (ts++[some r])->RA H' p r->Ans m r->gd m (walkM m 0 r)=T r->H' d=some (.xd [("run",.ref p)])->E (.ref CP) (some d) H'
section
variable {P:Program} {w:World} {K:W.Frag} {mg:Str->Option Value} {base:Heap} {C CG CP:Addr}
theorem scXp:FnScope ["self","run"] ["self","run"] (defScope sXp):=.of (by decide +kernel)
theorem ok_xp (F:Fun K "__init__" "NoParting.__init__" sXp f fd)(hS:excSet K CP "run"=true):FnOk P w K mg base CX0 1 f fd ["self","run"] (spNr CP):=by
 refine F.ok scXp (fun vs H Q E h=>?_) (fun cdv A outer s H vs Q E hr h=>?_)
 ·obtain⟨a,x,rfl,_⟩:=h
  rfl
 ·obtain⟨a,x,rfl,ha,k⟩:=h
  exact⟨_,pss_one (ps_xfld (pv 0) (pv 1) rfl),_,rfl,_,rfl,a,CP,rfl,ha,hS,fun d hd hn=>k d hd hn⟩
abbrev nLt:List Str:=["many","may","parting","most","table","machine","run"]
theorem scLt:FnScope nLt ["many","may","parting","most"] (defScope sLt):=.of (by decide +kernel)
theorem ok_lt {fM fP:Addr}{dM:FuncData}{its:Array Value}(F:FunD K "learnt" "learnt" sLt f fd its)(Y:TK K C)(len:mg "len"=none)(k:Nat)
  (M:Mk K C fI) (gT:mg "Table"=some (.ref C)) (bI:Binds K dI ["self","many"] []) (GI:FnOk P w K mg base CX0 1 fI dI ["self","many"] (spTi P w C))
  (mA:Meth K C "answer" fA) (bA:Binds K dA ["self","run","may"] []) (GA:FnOk P w K mg base CX0 (k+1) fA dA ["self","run","may"] (spAn P w K mg base C k))
  (mF:Meth K C "find_heads" fF) (bF:Binds K dF ["self","may","most"] []) (GF:FnOk P w K mg base (CX1 P w) (k+4) fF dF ["self","may","most"] (spFh P w K mg base C CG k))
  (mM:Meth K C "least_machine" fM) (bM:Binds K dM ["self","may"] []) (GM:FnOk P w K mg base CX0 (k+4) fM dM ["self","may"] (spLm P w K mg base C k))
  (mT:Meth K C "add_tails" fT) (bT:Binds K dT ["self","run"] []) (GT:FnOk P w K mg base CX0 1 fT dT ["self","run"] (spAt P w C))
  (FB:Fun K "lets_by" "lets_by" sLB fB dB) (bB:Binds K dB ["machine","run"] []) (gB:mg "lets_by"=some (.ref fB)) (GB:FnOk P w K mg base CX0 2 fB dB ["machine","run"] spLB)
  (MP:MkX K CP fP) (gP:mg "NoParting"=some (.ref CP)) (bP:Binds K dP ["self","run"] []) (GP:FnOk P w K mg base CX0 1 fP dP ["self","run"] (spNr CP)) (rzP:excRz K CP=true):
  FnOk P w K mg base (CX1 P w) (k+5) f fd ["many","may","parting","most"] (spLt P w K mg base CG CP k):=by
 refine F.okX scLt (fun vs H Q E h=>?_) (fun cdv A outer s H vs Q E hr h=>?_)
 ·obtain⟨_,_,_,_,_,_,_,_,rfl,_⟩:=h
  rfl
 ·obtain⟨S,J,T,Ans,fm,fp,many,most,rfl,X,j,m0,m8,o1,o9,k1,k2,k3⟩:=h
  have hr1:Room 1 _:=hr.mono (by omega)
  have hr2:Room 2 _:=hr.mono (by omega)
  have hrk:Room k _:=hr.mono (by omega)
  have hrA:Room (k+1) _:=hr.mono (by omega)
  obtain⟨fdp,xp,op,gp,dp,Fp,bp⟩:=X.par
  refine⟨_,pss_cons (ps_set (i:=4) scLt.nd rfl (Or.inl rfl) (pe_make M GI hr2 rfl gT bI .nil pass0 (pa_cons (pv 0) pa_nil)))
   (pss_one (ps_while PassesOwn.leaving (pt_val pe_bl)
    (pss_cons (ps_expr (pe_meth (pv 4) Y.cls mF GF hr bF .nil pass1 (pa_cons (pv 1) (pa_cons (pv 3) pa_nil))))
    (pss_cons (ps_set (i:=5) scLt.nd rfl (Or.inl rfl) (pe_meth (pv 4) Y.cls mM GM hr bM .nil pass0 (pa_cons (pv 1) pa_nil)))
    (pss_cons (ps_set (i:=6) scLt.nd rfl (Or.inl rfl) (pe_callVW (P:=P) (w:=w) (K:=K) (mg:=mg) (base:=base) rfl rfl rfl rfl rfl (pv 2) hrk pass0 (pa_cons (pv 5) pa_nil) rfl rfl))
    (pss_cons (ps_if (pt_cmpR op_isN (pv 6) pe_non (nomark _)) (pss_one (ps_ret (pe_tup (pa_cons (pv 5) (pa_cons (pe_callB (call_lenTW (P:=P) (w:=w) rfl rfl) (by rfl) len PySem.boot_len (pa_cons (pe_fld (pv 4) rfl) pa_nil)) pa_nil))))) pss_nil)
    (pss_cons (ps_if (pt_cmpR op_eq (pe_meth (pv 4) Y.cls mA GA hrA bA .nil pass0 (pa_cons (pv 6) (pa_cons (pv 1) pa_nil))) (pe_call GB hr2 rfl gB FB.kp bB .nil pass0 (pa_cons (pv 5) (pa_cons (pv 6) pa_nil))) (nomark _)) (pss_one (ps_raiseV rfl throwsV_cx (pe_makeX MP GP hr2 rfl gP bP .nil pass0 (pa_cons (pv 6) pa_nil)))) pss_nil)
    (pss_one (ps_expr (pe_meth (pv 4) Y.cls mT GT hr1 bT .nil pass0 (pa_cons (pv 6) pa_nil))))))))))),?_⟩
  refine⟨_,rfl,fun x dx hx hdx ndx=>?_⟩
  have n0:∀b u,H b=some u->upd (upd H dx (.own x)) x (.ins C dx []) b=some u:=fun b u e=>by rw[upd_ne (ne_of_none e hx),upd_ne (ne_of_none e hdx)];exact e
  have fr0:∀b,upd (upd H dx (.own x)) x (.ins C dx []) b=none->H b=none:=fun b e=>by
   cases q:H b with
   |none=>rfl
   |some u=>rw[n0 b u q] at e;cases e
  refine⟨x,dx,many,rfl,upd_same,by rw[upd_ne ndx,upd_same],fun a H1 B1 ea f1 f2 f3 n1 n2 n3 kp=>⟨rfl,?_⟩⟩
  have hh:=fr0 _ f1
  have ht:=fr0 _ f2
  have hn:=fr0 _ f3
  have hao:H a.o=none:=by rw[ea];exact hx
  have trk:=X.trk H [] [] [] j
  have Ap:Apt S a:=⟨fun z=>trk _ z hao,fun z=>trk _ z hh,fun z=>trk _ z ht,fun z=>trk _ z hn,n1,n2,n3⟩
  have same1:∀b u,H b=some u->H1 b=some u:=fun b u e=>kp b u (ne_of_none e hx) (n0 b u e)
  have xo:x=a.o:=ea.symm
  subst xo
  have L0:Lo P w C S J T a many most H H1 [[]] [[]] [] [] []:=by
   refine⟨⟨fun b xs e=>same1 _ _ e,fun b u _ e=>same1 _ _ e⟩,B1 T,X.same j same1,⟨rfl,fun i h e=>?_⟩,by show[mks T [[]] []].Nodup;simp,⟨by simp,fun l r e=>by simp at e,fun t ht=>?_⟩,by simpa using o1,fun r hr=>by(cases hr),by simp,by simp[sumT],fun t ht=>?_,by simp,List.nodup_nil,rfl,fun i m r e=>by simp at e,by simp,.nil,.inl rfl⟩
   ·cases i with
    |zero=>exact .inl rfl
    |succ i=>simp at e
   ·rw[List.mem_singleton] at ht
    subst ht
    exact Lts.nil
   ·rw[List.mem_singleton] at ht
    subst ht
    exact Nat.zero_le _
  refine⟨fun mm σ H2=>∃(hs tl as:List (List Int)) (ms:List Rms) (ts:Told) (v5 v6:Option V),σ=[some (.int many),some (.ref fm),some (.ref fp),some (.int most),some (.ref a.o),v5,v6]/\mm=10-ms.length/\Lo P w C S J T a many most H H2 hs tl as ms ts,⟨_,[[]],[[]],[],[],[],none,none,rfl,rfl,L0⟩,?_⟩
  rintro mm σ H2 ⟨hs,tl,as,ms,ts,v5,v6,rfl,rfl,L⟩
  refine⟨_,rfl,iteT ?_⟩
  refine⟨fun σ' H'=>∃m',m'<10-ms.length/\∃(hs tl as:List (List Int)) (ms:List Rms) (ts:Told) (v5 v6:Option V),σ'=[some (.int many),some (.ref fm),some (.ref fp),some (.int most),some (.ref a.o),v5,v6]/\m'=10-ms.length/\Lo P w C S J T a many most H H' hs tl as ms ts,fun σ' H' z=>z,?_⟩
  have lml:=L.ml
  have lle:=L.le
  have ltn:=L.tn
  have lan:=L.an
  have t600:∀t∈tl,t.length<=400:=fun t ht=>Nat.le_trans (L.tt t ht) (by decide)
  have outH:∀c,Mh S a c->S c\/H c=none:=fun c z=>by
   rcases z with z|z|z
   ·exact .inl z
   ·exact .inr (by rw[z];exact hn)
   ·exact .inr (by rw[z];exact hh)
  refine⟨_,rfl,a.o,a.dx,_,rfl,L.tb.ob,rfl,_,rfl,_,rfl,S,J,T,most.toNat,Ans,fm,fp,a,many,most,hs,tl,as,ms,ts,rfl,X,Ap,L.tb,L.j,m0,m8,o1,o9,L.hd,L.nd,by omega,by omega,by omega,t600,L.qt.lt,fun H3 hs3 as3 F3 D3 N3 C3 le3 gr3=>?_,fun d H' as' j' hd' kp' ts' hx=>k2 d H' as' ms ts (L.sb.out (M:=Mh S a) ⟨ts',kp'⟩ outH) j' hd' (let ⟨hs',h1,h2,h3⟩:=hx;⟨hs',tl,h1,h2,L.qt.lt,h3⟩) L.tr⟩
  have sb3:Sb S H H3:=L.sb.out F3.sb (fun c z=>by
   rcases z with z|z|z
   ·exact .inl z
   ·exact .inr (by rw[z];exact hn)
   ·exact .inr (by rw[z];exact hh))
  obtain⟨more,hmore⟩:=F3.more
  have cov3:∀r∈as3,Cv many hs3 tl r:=fun r hr=>by
   rcases F3.ex.mem hr with z|z
   ·exact(L.cov r z).mono (fun h hm=>by rw[hmore];exact List.mem_append_left _ hm) (fun t ht=>ht)
   ·exact z
  have al3:=F3.ex.len
  have hs3l:hs.length<=hs3.length:=by rw[hmore,List.length_append];omega
  have grow:ms≠[]->hs.length<hs3.length:=fun hne=>by
   rcases L.pg with z|⟨tl0,m,_,sub,N0,_,r,hr,hbad⟩
   ·exact absurd z hne
   ·refine Nat.lt_of_le_of_ne hs3l fun e=>?_
    have e3:hs3=hs:=by
     have:more=[]:=by
      cases more with
      |nil=>rfl
      |cons x xs=>rw[hmore,List.length_append] at e;simp at e
     rw[hmore,this,List.append_nil]
    rw[e3] at C3 N3 D3
    have es:=rs_same (many:=many) sub N0 C3 N3
    refine hbad ?_
    rw[es]
    exact rs_cov D3 L.qt N3 C3 ⟨[],List.mem_of_getElem? D3.z,r,hr,.inl rfl⟩
  refine⟨_,rfl,a.o,a.dx,_,rfl,F3.tb.ob,rfl,_,rfl,S,J,T,most.toNat,Ans,fm,fp,a,many,hs3,tl,as3,ms,ts,rfl,X,Ap,F3.tb,F3.j,m0,m8,D3,C3,L.qt.z,by omega,by omega,by omega,t600,L.qt.lt,fun H4 q as4 ns ch A4 hM hC hL in4=>?_⟩
  have G:=rs_good (T:=T) D3 C3 m0 m8 (by omega)
  have Cn:=can_of G hC hL
  have Bi0:=min_whole G hC hL
  have ml1:(minM (rsM T many hs3 tl) ns ch).length=hs3.length:=by
   have e1:(minM (rsM T many hs3 tl) ns ch).length=ch.length:=by unfold minM;rw[List.length_map]
   have e2:=ch_len hL.nd hL.ok
   rw[rs_len] at e2
   have e3:=rs_size D3 L.qt N3 C3 Cn.good Bi0
   omega
  generalize minM (rsM T many hs3 tl) ns ch=m at hM Cn Bi0 ml1
  have mch:Mach T many hs3 tl m:=⟨Cn,G,Bi0⟩
  have sb4:Sb S H H4:=sb3.out A4.sb (fun c z=>by
   rcases z with z|z
   ·exact .inl z
   ·exact .inr (by rw[z];exact hn))
  have cov4:∀r∈as4,Cv many hs3 tl r:=fun r hr=>by
   rcases A4.ex.mem hr with z|z
   ·exact cov3 r z
   ·exact z
  have al4:=A4.ex.len
  have hand:Hand T many most.toNat as4 ms m:=by
   refine⟨Cn,by omega,fun r hr=>?_,fun m' hm'=>?_,?_⟩
   ·have c:=cov4 r hr
    have lt:=c.lts D3 L.qt
    exact⟨lt,by rw[<- Bi0 r lt];exact rs_cov D3 L.qt N3 C3 c⟩
   ·rcases L.pg with z|⟨tl0,m2,hlast,_,_,hml,_⟩
    ·rw[z] at hm';cases hm'
    ·rw[hlast] at hm'
     cases hm'
     have:=grow (fun z=>by rw[z] at hlast;cases hlast)
     omega
   ·by_cases z:ms=[]
    ·rw[z];show 0<most.toNat;omega
    ·have:=grow z
     omega
  refine⟨_,rfl,fp,fdp,[xp],spPar S J T many most.toNat Ans,op,rfl,gp,dp,Fp,bp,_,rfl,q,m,as4,ms,ts,rfl,hM,A4.j,hand,fun H5 s5 j5=>?_,fun H5 p r s5 j5 hp hlt hlen hans=>?_⟩
  ·
   have B5:=A4.tb.sb s5 Ap
   obtain⟨xs,ob,g1,g2,g3,g4⟩:=B5.an
   refine⟨_,rfl,rfl,_,rfl,iteTK (by rfl) ?_⟩
   refine⟨_,rfl,_,rfl,a.o,C,a.dx,_,_,rfl,B5.ob,Y.cls,Y.nA,rfl,a.aA,xs,ob,rfl,g1,by show 2<=sizeLine;decide,fun pr hpr=>?_⟩
   have s6:Same H5 (upd H5 pr (.tup [.ref q,.int xs.length])):=(Same.refl H5).upd_free hpr
   have exl:xs.length=as4.length:=by rw[<- g3,List.length_map]
   have nd4:=A4.ex.nd (F3.ex.nd L.da)
   have cnt:=cv_count nd4 cov4
   have ltu:=L.tu
   refine k1 _ pr q as4 ms m ts ((sb4.trans s5).same s6) (X.same j5 s6) ((LN.MAt.ts (LN.MAt.ts hM s5.1) s6.tups)) ?_ ?_ ⟨nd4,hs,tl,hs3,L.hi,gr3,mch,fun r=>⟨cov4 r,in4 r⟩⟩ ⟨hs3,D3,ml1,tl,N3,L.qt.lt⟩
   ·rw[upd_same,exl]
   ·rw[ml1]
    exact Nat.le_trans cnt (Nat.mul_le_mul_left _ (Nat.mul_le_mul_right _ ltu))
  ·have B5:=A4.tb.sb s5 Ap
   refine⟨_,rfl,rfl,_,rfl,iteFK (by rfl) ?_⟩
   refine⟨_,rfl,a.o,a.dx,_,rfl,B5.ob,rfl,_,rfl,_,rfl,S,J,T,most.toNat,Ans,fm,fp,a,many,hs3,tl,as4,ms++[m],ts++[some r],p,r,rfl,X,Ap,B5,j5,hp,hlt,by omega,fun H6 as6 s6 B6 j6 ex6 _=>?_⟩
   have hM6:=LN.MAt.ts (LN.MAt.ts hM s5.1) s6.1
   have hp6:=s6.1 _ _ hp
   refine⟨_,rfl,_,rfl,q,p,many,m,r,rfl,hM6,Cn.good,hp6,hlt,?_⟩
   have sb6:Sb S H H6:=(sb4.trans s5).out s6 (fun c z=>by
    rcases z with z|z
    ·exact .inl z
    ·exact .inr (by rw[z];exact hn))
   refine⟨rfl,_,rfl,?_⟩
   by_cases heq:gd m (walkM m 0 r)=T r
   ·refine iteTK (decide_eq_true (congrArg V.bl heq.symm)) ?_
    refine⟨_,rfl,by show 1<=sizeLine;decide,raiseR rzP H6 _ (fun b hb=>?_) fun dd H' s' hd'=>?_⟩
    ·show H b=none
     cases e:H b with
     |none=>rfl
     |some o=>
      by_cases z:S b
      ·exact absurd hb (X.trk _ _ _ _ j6 b z)
      ·rw[sb6.2 b o z e] at hb;cases hb
    ·exact k3 dd H' as6 ms ts m p r (sb6.same s') (X.same j6 s') (s' _ _ hp6) hans heq hd'
   have hneq:gd m (walkM m 0 r)≠T r:=heq
   have few:=hand.few
   refine iteFK (decide_eq_false (fun z=>hneq (by
    have z':=V.bl.inj z
    exact z'.symm))) ?_
   refine⟨_,rfl,a.o,a.dx,_,rfl,B6.ob,rfl,_,rfl,T,a,many,hs3,tl,as6,p,r,rfl,B6,n2,n3,hp6,hlen,by omega,fun H7 s7 B7=>?_⟩
   have sb7:Sb S H H7:=sb6.out s7 (fun c z=>.inr (by rw[z];exact ht))
   have j7:=X.stay _ H7 _ _ _ j6 (fun b u sb e=>s7.2 b u (fun z=>Ap.tA (by rw[<- z];exact sb)) e) s7.1
   have al6:=ex6.len
   have tln:=adT_len tl r r.length
   have lm:(ms++[m]).length=ms.length+1:=by rw[List.length_append];rfl
   have mstep:ms.length+1<=hs3.length:=by
    by_cases z:ms=[]
    ·rw[z]
     have:=(List.getElem?_eq_some_iff.mp D3.z).1
     show 0+1<=hs3.length
     omega
    ·have:=grow z
     omega
   refine⟨10-(ms++[m]).length,by omega,hs3,adT tl r r.length,as6,ms++[m],ts++[some r],_,_,rfl,rfl,⟨sb7,B7,j7,D3,nd_more (fun t ht=>(adT_mem tl r _ t).mpr (.inl ht)) N3,adT_tl L.qt hlt,le3,fun x hx=>?_,by omega,by rw[sumT_snoc];have:=L.tu;omega,fun t ht=>?_,by omega,ex6.nd (A4.ex.nd (F3.ex.nd L.da)),by rw[List.length_append,List.length_append,L.tl2];rfl,fun i m' r' e1 e2=>?_,by omega,.step L.hi gr3 mch,.inr ⟨tl,m,by simp,fun t ht=>(adT_mem tl r _ t).mpr (.inl ht),N3,ml1,r,adT_self L.qt,?_⟩⟩⟩
   ·rcases ex6.mem hx with z|z
    ·exact(cov4 x z).mono (fun h hm=>hm) (fun t ht=>(adT_mem tl r _ t).mpr (.inl ht))
    ·exact⟨[],List.mem_of_getElem? D3.z,r,adT_self L.qt,.inl z⟩
   ·rcases(adT_mem tl r _ t).mp ht with z|⟨i,_,z⟩
    ·exact L.tt t z
    ·rw[z,List.length_drop]
     omega
   ·by_cases hi:i<ms.length
    ·rw[List.getElem?_append_left hi] at e1
     rw[List.getElem?_append_left (by rw[<- L.tl2];exact hi)] at e2
     exact L.tr i m' r' e1 e2
    ·have hl2:=(List.getElem?_eq_some_iff.mp e1).1
     rw[lm] at hl2
     have hi':i-ms.length=0:=by omega
     rw[List.getElem?_append_right (by omega),hi'] at e1
     rw[List.getElem?_append_right (by rw[<- L.tl2];omega),<- L.tl2,hi'] at e2
     cases e1
     cases e2
     exact hneq
   ·rw[Bi0 r hlt]
    exact hneq
end
end LN
namespace LN
open PySem L2 K20 K21 K60 K23 K22
abbrev nPt:List Str:=["_law_one","_law_other","_law_met","_law_waiting","_law_later","_law_left","_law_right","_law_run_here","_law_letter","_law_pair"]
abbrev pPt:List Str:=["_law_one","_law_other"]
abbrev EAt (H:Hp):List Addr->List EnP->Prop:=Paired fun w e=>∃z,H w=some (.tup [.int e.1.1,.int e.1.2,.ref z])/\H z=some (.tup (e.2.map V.int))
theorem eAt_tsame {H H':Hp}{ws:List Addr}{es:List EnP}(h:EAt H ws es)(s:TSame H H'):EAt H' ws es:=Paired.mapP h fun _ _ ⟨z,h1,h2⟩=>⟨z,s _ _ h1,s _ _ h2⟩
theorem eAt_get {H:Hp}{ws:List Addr}{es:List EnP}(h:EAt H ws es):∀{i:Nat} {w:Addr},ws[i]?=some w->∃e z,es[i]?=some e/\H w=some (.tup [.int e.1.1,.int e.1.2,.ref z])/\H z=some (.tup (e.2.map V.int)):=by
 induction h with
 |nil=>intro i w e;simp at e
 |@cons w e ws es h t ih=>
  intro i w' g
  cases i with
  |zero=>
   cases g
   obtain⟨z,h1,h2⟩:=h
   exact⟨e,z,rfl,h1,h2⟩
  |succ i=>
   obtain⟨e',z,h1,h2⟩:=ih (i:=i) (by simpa using g)
   exact⟨e',z,by simpa using h1,h2⟩
def dE (e:EnP):PyData:=.tuple [.int e.1.1,.int e.1.2,.tuple (e.2.map PyData.int)]
theorem ints_layE:∀ns:List Int,PyData.canLayAll0 (ns.map PyData.int)=true
 | []=>rfl
 |n::ns=>by
  rw[List.map_cons,PyData.canLayAll0,ints_layE ns]
  rfl
theorem ints_depE:∀ns:List Int,PyData.depthAll (ns.map PyData.int)=0
 | []=>by rw[List.map_nil,PyData.depthAll]
 |n::ns=>by
  rw[List.map_cons,PyData.depthAll,ints_depE ns,PyData.depth]
  rfl
theorem dE_lay (e:EnP):(dE e).canLay0=true:=by
 show(PyData.canLay0 (.int e.1.1)&&(PyData.canLay0 (.int e.1.2)&&(PyData.canLayAll0 (e.2.map PyData.int)&&PyData.canLayAll0 [])))=true
 rw[ints_layE]
 rfl
theorem dE_all:∀es:List EnP,PyData.canLayAll0 (es.map dE)=true
 | []=>rfl
 |e::es=>by
  rw[List.map_cons,PyData.canLayAll0,dE_lay,dE_all es]
  rfl
theorem dE_dep (e:EnP):(dE e).depth<=2:=by
 unfold dE
 rw[PyData.depth,PyData.depthAll,PyData.depthAll,PyData.depthAll,PyData.depthAll,PyData.depth,PyData.depth,PyData.depth,ints_depE]
 decide
theorem dEs_dep:∀es:List EnP,PyData.depthAll (es.map dE)<=2
 | []=>Nat.zero_le _
 |e::es=>by
  rw[List.map_cons,PyData.depthAll]
  have h1:=dE_dep e
  have h2:=dEs_dep es
  omega
theorem dE_ok (es:List EnP):DOk (.list (es.map dE)):=⟨dE_all es,by
 rw[PyData.depth]
 have:=dEs_dep es
 omega⟩
theorem intsE {K:W.Frag}{H:Hp}:∀ns:List Int,DsAt K H (ns.map V.int) (ns.map PyData.int)
 | []=>.nil
 |n::ns=>.cons (.int n) (intsE ns)
theorem eAt_data {K:W.Frag}{H:Hp}{ws:List Addr}{es:List EnP}(h:EAt H ws es):DsAt K H (ws.map V.ref) (es.map dE):=by
 induction h with
 |nil=>exact .nil
 |cons e t ih=>
  obtain⟨z,h1,h2⟩:=e
  exact .cons (.tup (SqT.of h1) (.cons (.int _) (.cons (.int _) (.cons (.tup (SqT.of h2) (intsE _)) .nil)))) ih
theorem upd_sw {H:Hp}{a b:Addr}{o o' o2:HO}:upd (upd (upd H a o) b o') a o2=upd (upd H b o') a o2:=by
 funext c
 unfold upd
 by_cases e1:c=a
 ·simp[e1]
 ·simp[e1]
theorem truthE {rs:Rms}{H:Hp}{qs:List Addr}(R:RowsAt H qs rs){h:Int}(hh:Inr rs h):∃q z,atI (qs.map V.ref) h=some (.ref q)/\H q=some (.tup [.bl (gd rs h),.ref z]):=by
 obtain⟨r,er⟩:=some_at rs h hh.1 hh.2
 obtain⟨q,z,e1,e2,e3⟩:=R.2 _ _ er
 exact⟨q,z,atI_int hh.1 (by rw[List.getElem?_map,e1];rfl),by unfold gd;rw[getD_of er];exact e2⟩
def spPt:Sp:=fun vs H Q _=>∃(m1 m2:Addr) (many:Int) (r1 r2:Rms),vs=[.ref m1,.ref m2]/\MAt H m1 many r1/\MAt H m2 many r2/\Good many r1/\Good many r2/\r1.length*r2.length<=90∧
 (∀H',Same H H'->Bi r1 r2 many 0 0->Q .non H')/\∀(p:Addr) (run:List Int) (H':Hp),Same H H'->H' p=some (.tup (run.map V.int))->First r1 r2 many 0 0 run->run.length<=r1.length*r2.length->Q (.ref p) H'
section
variable {P:Program} {w:World} {K:W.Frag} {mg:Str->Option Value} {base:Heap}
theorem scPt:FnScope nPt pPt (defScope sPt):=.of (by decide +kernel)
theorem ok_pt (F:Fun K "_law_part" "_law_part" sPt f fd)(T:Txt mg):FnOk P w K mg base CX0 1 f fd pPt spPt:=by
 refine F.ok scPt (fun vs H Q E h=>?_) (fun cdv A outer s H vs Q E hr h=>?_)
 ·obtain⟨m1,m2,many,r1,r2,rfl,_⟩:=h
  rfl
 ·obtain⟨m1,m2,many,r1,r2,rfl,M1,M2,G1,G2,hmul,kN,kS⟩:=h
  have hx:Inr r1 0:=⟨Int.le_refl 0,by have:=G1.pos;omega⟩
  have hy:Inr r2 0:=⟨Int.le_refl 0,by have:=G2.pos;omega⟩
  obtain⟨pr1,qs1,a1,a2,a3⟩:=id M1
  obtain⟨pr2,qs2,b1,b2,b3⟩:=id M2
  have hu:=hu_of hr
  have hu64:=hr.units
  have gmn:=G1.mn
  refine⟨_,pss_cons (ps_set (i:=2) scPt.nd rfl (Or.inl rfl) (pe_dispT (Nat.lt_of_succ_lt hu) (pe_tup (pa_cons pe_int (pa_cons pe_int pa_nil))) pe_bl))
   (pss_cons (ps_set (i:=3) scPt.nd rfl (Or.inl rfl) (pe_lst (pa_cons (pe_tup (pa_cons pe_int (pa_cons pe_int (pa_cons (pe_tup pa_nil) pa_nil)))) pa_nil)))
   (pss_cons (ps_while PassesOwn.never (pt_cmpR (op_neD hu64) (pv 3) (pe_lst pa_nil) (nomark _))
    (pss_cons (ps_set (i:=4) scPt.nd rfl (Or.inl rfl) (pe_lst pa_nil))
    (pss_cons (ps_for PassesOwn.never rfl (pi_list (pv 3)) (pg_tup (n:=3) rfl (pgs_cons (pg_name (i:=5) scPt.nd rfl (Or.inl rfl)) (pgs_cons (pg_name (i:=6) scPt.nd rfl (Or.inl rfl)) (pgs_cons (pg_name (i:=7) scPt.nd rfl (Or.inl rfl)) pgs_nil))))
     (pss_cons (ps_if (pt_cmpR op_ne (pe_ix ix_tup (pe_ix ix_tup (pe_ix ix_tup (pv 0) pe_int (fun _ _=>rfl)) (pv 5) (fun _ _=>rfl)) pe_int (fun _ _=>rfl)) (pe_ix ix_tup (pe_ix ix_tup (pe_ix ix_tup (pv 1) pe_int (fun _ _=>rfl)) (pv 6) (fun _ _=>rfl)) pe_int (fun _ _=>rfl)) (nomark _)) (pss_one (ps_ret (pv 7))) pss_nil)
     (pss_one (ps_for PassesOwn.never rfl (pi_range1 rfl T.range (pa_cons (pe_ix ix_tup (pv 0) pe_int (fun _ _=>rfl)) pa_nil)) (pg_name (i:=8) scPt.nd rfl (Or.inl rfl))
      (pss_cons (ps_set (i:=9) scPt.nd rfl (Or.inl rfl) (pe_tup (pa_cons (pe_ix ix_tup (pe_ix ix_tup (pe_ix ix_tup (pe_ix ix_tup (pv 0) pe_int (fun _ _=>rfl)) (pv 5) (fun _ _=>rfl)) pe_int (fun _ _=>rfl)) (pv 8) (fun _ _=>rfl))
       (pa_cons (pe_ix ix_tup (pe_ix ix_tup (pe_ix ix_tup (pe_ix ix_tup (pv 1) pe_int (fun _ _=>rfl)) (pv 6) (fun _ _=>rfl)) pe_int (fun _ _=>rfl)) (pv 8) (fun _ _=>rfl)) pa_nil))))
      (pss_one (ps_if (pt_cmp (pc_dnotin hu (pv 9) (pv 2)))
       (pss_cons (ps_dput hu (pv 2) (pv 9) pe_bl rfl)
       (pss_one (ps_expr (pe_bm PySem.F.plainAttrs_list PySem.F.slot_list_append PySem.F.type_list_append mt_append (pv 4) (pa_cons (pe_tup (pa_cons (pe_ix ix_tup (pv 9) pe_int (fun _ _=>rfl)) (pa_cons (pe_ix ix_tup (pv 9) pe_int (fun _ _=>rfl)) (pa_cons (pe_op op_catA (pv 7) (pe_tup (pa_cons (pv 8) pa_nil))) pa_nil)))) pa_nil)))))
       pss_nil)))))))
    (pss_one (ps_set (i:=3) scPt.nd rfl (Or.inl rfl) (pv 4))))))
   (pss_one (ps_ret pe_non)))),?_⟩
  intro dm hdm
  refine⟨(by show 2<=sizeLine;decide),fun t0 ht0=>?_⟩
  have n0:dm≠t0:=fun e=>by rw[e,upd_same] at ht0;cases ht0
  have ht0H:H t0=none:=by rw[upd_ne (Ne.symm n0)] at ht0;exact ht0
  refine⟨by rw[upd_ne n0];exact upd_same,t0,.bl true,keyP (0,0),rfl,upd_same,?_⟩
  rw[upd_sw]
  have s0:Same H (upd (upd H t0 (.tup [.int 0,.int 0])) dm (.dT [(keyP (0,0),.bl true)])):=((Same.refl H).upd_free ht0H).upd_free hdm
  generalize hH1:upd (upd H t0 (.tup [.int 0,.int 0])) dm (.dT [(keyP (0,0),.bl true)])=H1 at s0
  have hD1:H1 dm=some (.dT (metK [(0,0)])):=by rw[<- hH1,upd_same];rfl
  refine⟨Nat.zero_le _,fun t1 ht1=>⟨(by show 3<=sizeLine;decide),fun t2 ht2=>⟨(by show 1<=sizeLine;decide),fun lw hlw=>?_⟩⟩⟩
  have n12:t1≠t2:=fun e=>by rw[e,upd_same] at ht2;cases ht2
  have w1:Same H1 (upd H1 t1 (.tup [])):=(Same.refl H1).upd_free ht1
  have w2:Same H1 (upd (upd H1 t1 (.tup [])) t2 (.tup [.int 0,.int 0,.ref t1])):=w1.upd_free (w1.free ht2)
  generalize hH2:upd (upd H1 t1 (.tup [])) t2 (.tup [.int 0,.int 0,.ref t1])=H2 at hlw w2
  have hE2:EAt H2 [t2] [((0,0),[])]:=.cons ⟨t1,by rw[<- hH2,upd_same],by rw[<- hH2,upd_ne n12,upd_same];rfl⟩ .nil
  have ndl:dm≠lw:=ne_of_none (w2 _ _ hD1) hlw
  have w3:Same H2 (upd H2 lw (.lst [.ref t2])):=(Same.refl H2).upd_free hlw
  refine⟨fun mm σ H3=>∃(fs:List EnP) (d:Nat) (ws:List Addr) (lw:Addr) (v6 v7 v8 v9 v10 v11:Option V),σ=[some (.ref m1),some (.ref m2),some (.ref dm),some (.ref lw),v6,v7,v8,v9,v10,v11]/\mm=r1.length*r2.length-d/\Same H H3/\dm≠lw/\H3 dm=some (.dT (metK (fs.map (·.1))))/\H3 lw=some (.lst (ws.map V.ref))/\EAt H3 ws (fs.drop d)/\d<=fs.length/\BI r1 r2 many (0,0) fs d/\∀(i:Nat) (e':EnP),i<d->fs[i]?=some e'->gd r1 e'.1.1=gd r2 e'.1.2,
   ⟨_,[((0,0),[])],0,[t2],lw,none,none,none,none,none,none,rfl,rfl,(s0.trans w2).trans w3,ndl,w3 _ _ (w2 _ _ hD1),upd_same,eAt_tsame hE2 w3.tups,Nat.zero_le _,BI.init ⟨hx,hy⟩,fun i e' hi=>by omega⟩,?_⟩
  rintro mm σ H3 ⟨fs,d,ws,lw,v6,v7,v8,v9,v10,v11,rfl,rfl,t3,nd,hD,hL,hW,hdl,B,like⟩
  have hfl:fs.length<=r1.length*r2.length:=by
   have:=pairs_le (met:=fs.map (·.1)) B.nd fun p hp=>by
    obtain⟨e,he,q⟩:=List.mem_map.mp hp
    subst q
    exact(B.ok e he).1
   rwa [List.length_map] at this
  have hwl:=Paired.length hW
  rw[List.length_drop] at hwl
  refine⟨_,rfl,Nat.zero_le _,fun le hle=>?_⟩
  have u1:Same H3 (upd H3 le (.lst [])):=(Same.refl H3).upd_free hle
  refine⟨.list ((fs.drop d).map dE),.list [],.lst (SqL.of (u1 _ _ hL)) (eAt_data (eAt_tsame hW u1.tups)),.lst (SqL.of upd_same) .nil,dE_ok _,dE_ok [],_,rfl,?_⟩
  generalize hH4:upd H3 le (.lst [])=H4 at u1
  by_cases hde:fs.length<=d
  ·have e0:fs.drop d=[]:=List.drop_eq_nil_of_le hde
   rw[e0]
   have er:PyData.eqv (.list (([]:List EnP).map dE)) (.list [])=true:=SeqAt.eqv_refl _ rfl
   rw[er]
   refine iteF ?_
   exact kN H4 (t3.trans u1) (B.alike hde like)
  ·have er:PyData.eqv (.list ((fs.drop d).map dE)) (.list [])=false:=by
    cases q:fs.drop d with
    |nil=>have:=congrArg List.length q;rw[List.length_drop] at this;simp at this;omega
    |cons p r=>rfl
   rw[er]
   refine iteT ?_
   refine⟨fun σ' H'=>∃m',m'<r1.length*r2.length-d/\∃(fs:List EnP) (d:Nat) (ws:List Addr) (lw:Addr) (v6 v7 v8 v9 v10 v11:Option V),σ'=[some (.ref m1),some (.ref m2),some (.ref dm),some (.ref lw),v6,v7,v8,v9,v10,v11]/\m'=r1.length*r2.length-d/\Same H H'/\dm≠lw/\H' dm=some (.dT (metK (fs.map (·.1))))/\H' lw=some (.lst (ws.map V.ref))/\EAt H' ws (fs.drop d)/\d<=fs.length/\BI r1 r2 many (0,0) fs d/\∀(i:Nat) (e':EnP),i<d->fs[i]?=some e'->gd r1 e'.1.1=gd r2 e'.1.2,fun σ' H' z=>z,?_⟩
   refine⟨Nat.zero_le _,fun ll hll=>?_⟩
   have hD4:=u1 _ _ hD
   have hL4:=u1 _ _ hL
   have ndll:dm≠ll:=ne_of_none hD4 hll
   have nwll:lw≠ll:=ne_of_none hL4 hll
   have hllH:H ll=none:=(t3.trans u1).free hll
   have u4:Same H4 (upd H4 ll (.lst [])):=(Same.refl H4).upd_free hll
   have hW4:=eAt_tsame (eAt_tsame hW u1.tups) u4.tups
   generalize hH5:upd H4 ll (.lst [])=H5 at u4 hW4
   have hll5:H5 ll=some (.lst []):=by rw[<- hH5,upd_same]
   refine⟨_,rfl,lw,rfl,⟨_,SqL.of (u4 _ _ hL4)⟩,?_⟩
   refine for_list (K:=K) (a:=lw) (xs:=ws.map V.ref) (fun i σ H6=>∃(la:List EnP) (ls:List Addr) (v7 v8 v9 v10 v11:Option V),σ=[some (.ref m1),some (.ref m2),some (.ref dm),some (.ref lw),some (.ref ll),v7,v8,v9,v10,v11]/\Same H H6/\TSame H5 H6/\H6 lw=some (.lst (ws.map V.ref))/\H6 dm=some (.dT (metK ((fs++la).map (·.1))))/\H6 ll=some (.lst (ls.map V.ref))/\EAt H6 ls la/\BI r1 r2 many (0,0) (fs++la) (d+i)/\∀(i':Nat) (e':EnP),i'<d+i->(fs++la)[i']?=some e'->gd r1 e'.1.1=gd r2 e'.1.2)
    ⟨[],[],_,_,_,_,_,rfl,(t3.trans u1).trans u4,fun _ _ e=>e,u4 _ _ hL4,by rw[List.append_nil];exact u4 _ _ hD4,hll5,.nil,by rw[List.append_nil];exact B,by rw[List.append_nil];exact like⟩ (fun i σ H6 _ ⟨_,_,_,_,_,_,_,_,_,_,h,_⟩=>SqL.of h) ?_ ?_
   ·rintro i v σ H6 hv ⟨la,ls,v7,v8,v9,v10,v11,rfl,t6,ts6,hL6,hD6,hl6,hE6,B6,like6⟩
    rw[List.getElem?_map] at hv
    cases ew:ws[i]? with
    |none=>rw[ew] at hv;cases hv
    |some wq=>
     rw[ew] at hv
     cases hv
     obtain⟨e,z,ge,h1,h2⟩:=eAt_get hW4 ew
     rw[List.getElem?_drop] at ge
     have gfe:(fs++la)[d+i]?=some e:=by rw[List.getElem?_append_left (List.getElem?_eq_some_iff.mp ge).1];exact ge
     have oke:=B6.ok e (List.mem_of_getElem? gfe)
     have lne:=B6.ln _ e gfe
     have hdi:d+i<fs.length:=(List.getElem?_eq_some_iff.mp ge).1
     refine⟨wq,_,rfl,SqT.of (ts6 _ _ h1),rfl,_,_,rfl,_,_,rfl,_,_,rfl,rfl,?_⟩
     obtain⟨q1,z1,c1,c2⟩:=truthE (a3.same t6) oke.1.1
     obtain⟨q2,z2,d1,d2⟩:=truthE (b3.same t6) oke.1.2
     refine⟨_,rfl,m1,_,_,_,rfl,rfl,SqT.of (t6 _ _ a1),rfl,_,rfl,pr1,_,_,_,rfl,rfl,SqT.of (t6 _ _ a2),c1,q1,_,_,_,rfl,rfl,SqT.of c2,rfl,_,rfl,m2,_,_,_,rfl,rfl,SqT.of (t6 _ _ b1),rfl,_,rfl,pr2,_,_,_,rfl,rfl,SqT.of (t6 _ _ b2),d1,q2,_,_,_,rfl,rfl,SqT.of d2,rfl,rfl,_,rfl,?_⟩
     by_cases hg:gd r1 e.1.1=gd r2 e.1.2
     ·rw[hg,decide_eq_true rfl]
      refine iteF ?_
      refine⟨_,rfl,m1,_,_,_,rfl,rfl,SqT.of (t6 _ _ a1),rfl,_,rfl,by omega,by omega,?_⟩
      refine for_range (n:=many.toNat) (fun j σ H7=>∃(lb:List EnP) (ls:List Addr) (v10 v11:Option V),σ=[some (.ref m1),some (.ref m2),some (.ref dm),some (.ref lw),some (.ref ll),some (.int e.1.1),some (.int e.1.2),some (.ref z),v10,v11]/\Same H H7/\TSame H5 H7/\H7 lw=some (.lst (ws.map V.ref))/\H7 dm=some (.dT (metK ((fs++lb).map (·.1))))/\H7 ll=some (.lst (ls.map V.ref))/\EAt H7 ls lb/\VI r1 r2 many (0,0) (fs++lb) (d+i) e j/\∀(i':Nat) (e':EnP),i'<d+i->(fs++lb)[i']?=some e'->gd r1 e'.1.1=gd r2 e'.1.2)
       ⟨la,ls,_,_,rfl,t6,ts6,hL6,hD6,hl6,hE6,VI.start B6 gfe,like6⟩ ?_ ?_
      ·rintro j σ H7 hj ⟨lb,ls,v10,v11,rfl,t7,ts7,hL7,hD7,hl7,hE7,V7,like7⟩
       have j1:(j:Int)<many:=by omega
       have j0:0+(j:Int)=(j:Int):=Int.zero_add _
       have hfl7:(fs++lb).length<=r1.length*r2.length:=by
        have:=pairs_le (met:=(fs++lb).map (·.1)) V7.nd fun p hp=>by
         obtain⟨e,he,q⟩:=List.mem_map.mp hp
         subst q
         exact(V7.ok e he).1
        rwa [List.length_map] at this
       rw[List.length_append] at hfl7
       have hel:=Paired.length hE7
       obtain⟨rq,rz,bb,rns,f1,f2,f3,f4,_⟩:=arrow G1 (a3.same t7) oke.1.1.1 oke.1.1.2 (l:=(j:Int)) (by omega) j1
       obtain⟨sq,sz,bb',sns,g1,g2,g3,g4,_⟩:=arrow G2 (b3.same t7) oke.1.2.1 oke.1.2.2 (l:=(j:Int)) (by omega) j1
       refine⟨_,rfl,m1,_,_,_,rfl,rfl,SqT.of (t7 _ _ a1),rfl,_,rfl,pr1,_,_,_,rfl,rfl,SqT.of (t7 _ _ a2),f1,rq,_,_,_,rfl,rfl,SqT.of f2,rfl,_,rfl,rz,_,_,_,rfl,rfl,SqT.of f3,by rw[j0];exact f4,_,rfl,m2,_,_,_,rfl,rfl,SqT.of (t7 _ _ b1),rfl,_,rfl,pr2,_,_,_,rfl,rfl,SqT.of (t7 _ _ b2),g1,sq,_,_,_,rfl,rfl,SqT.of g2,rfl,_,rfl,sz,_,_,_,rfl,rfl,SqT.of g3,by rw[j0];exact g4,(by show 2<=sizeLine;decide),fun pp hpp=>?_⟩
       have s8:Same H7 (upd H7 pp (.tup [.int (nextOf r1 e.1.1 j),.int (nextOf r2 e.1.2 j)])):=(Same.refl H7).upd_free hpp
       generalize hH8:upd H7 pp (.tup [.int (nextOf r1 e.1.1 j),.int (nextOf r2 e.1.2 j)])=H8 at s8
       have hP8:H8 pp=some (.tup ((keyP (sc r1 r2 e.1 j)).map kV)):=by rw[<- hH8,upd_same];rfl
       refine⟨_,rfl,_,rfl,dm,_,rfl,DGet.t (k:=keyP (sc r1 r2 e.1 j)) (s8 _ _ hD7) hP8,_,rfl,?_⟩
       rw[metK_some]
       by_cases hm:sc r1 r2 e.1 j∈(fs++lb).map (·.1)
       ·rw[decide_eq_true hm]
        refine iteF ?_
        exact⟨lb,ls,_,_,rfl,t7.trans s8,ts7.trans s8.tups,s8 _ _ hL7,s8 _ _ hD7,s8 _ _ hl7,eAt_tsame hE7 s8.tups,V7.old hm,like7⟩
       ·rw[decide_eq_false hm]
        refine iteT ?_
        have hmet:(metK ((fs++lb).map (·.1))).length=(fs++lb).length:=by unfold metK;rw[List.length_map,List.length_map]
        rw[List.length_append] at hmet
        refine⟨_,rfl,_,rfl,dm,_,rfl,DPut.t (k:=keyP (sc r1 r2 e.1 j)) (s8 _ _ hD7) hP8 (small1000 (by omega)),?_⟩
        rw[metK_put hm]
        generalize hH9:upd H8 dm (.dT (metK ((fs++lb).map (·.1)++[sc r1 r2 e.1 j])))=H9
        have ts9:TSame H8 H9:=fun c ys e=>by rw[<- hH9,upd_ne (ne_of e (s8 _ _ hD7) (fun z=>nomatch z))];exact e
        have t9:Same H H9:=by rw[<- hH9];exact(t7.trans s8).upd_free hdm
        have hl9:H9 ll=some (.lst (ls.map V.ref)):=by rw[<- hH9,upd_ne (Ne.symm ndll)];exact s8 _ _ hl7
        have hL9:H9 lw=some (.lst (ws.map V.ref)):=by rw[<- hH9,upd_ne (Ne.symm nd)];exact s8 _ _ hL7
        have hD9:H9 dm=some (.dT (metK ((fs++lb).map (·.1)++[sc r1 r2 e.1 j]))):=by rw[<- hH9,upd_same]
        have hz9:=ts9 _ _ (s8.tups _ _ (ts7 _ _ h2))
        have hp9:H9 pp=some (.tup [.int (nextOf r1 e.1.1 j),.int (nextOf r2 e.1.2 j)]):=ts9 _ _ hP8
        refine⟨_,rfl,.inl ⟨rfl,_,SqL.of hl9⟩,_,rfl,pp,_,_,_,rfl,rfl,SqT.of hp9,rfl,_,rfl,pp,_,_,_,rfl,rfl,SqT.of hp9,rfl,_,rfl,_,rfl,(by show 1<=sizeLine;decide),fun pl hpl=>?_⟩
        have s10:Same H9 (upd H9 pl (.tup [.int (0+(j:Int))])):=(Same.refl H9).upd_free hpl
        refine⟨z,pl,_,_,rfl,rfl,s10 _ _ hz9,upd_same,Nat.le_of_lt (small1000 (by rw[List.length_map];simp only[List.length_cons,List.length_nil];omega)),fun pn H11 s11 hpn=>?_⟩
        have s911:Same H9 H11:=s10.trans s11
        refine⟨(by show 3<=sizeLine;decide),fun tq htq=>?_⟩
        have s12:Same H9 (upd H11 tq (.tup [.int (nextOf r1 e.1.1 j),.int (nextOf r2 e.1.2 j),.ref pn])):=s911.upd_free (s911.free htq)
        have hpn12:(upd H11 tq (.tup [.int (nextOf r1 e.1.1 j),.int (nextOf r2 e.1.2 j),.ref pn])) pn=some (.tup ((e.2++[(j:Int)]).map V.int)):=by
         rw[upd_ne (ne_of_none hpn htq),hpn,List.map_append,j0]
         rfl
        generalize hH12:upd H11 tq (.tup [.int (nextOf r1 e.1.1 j),.int (nextOf r2 e.1.2 j),.ref pn])=H12 at s12 hpn12
        have htq12:H12 tq=some (.tup [.int (nextOf r1 e.1.1 j),.int (nextOf r2 e.1.2 j),.ref pn]):=by rw[<- hH12,upd_same]
        refine⟨ll,_,_,rfl,rfl,s12 _ _ hl9,small1000 (by rw[List.length_map];omega),?_⟩
        have ts13:TSame H12 (upd H12 ll (.lst (ls.map V.ref++[.ref tq]))):=TSame.upd_lst (fun _ _ e=>e) (s12 _ _ hl9)
        have eapp:fs++(lb++[(sc r1 r2 e.1 j,e.2++[(j:Int)])])=(fs++lb)++[(sc r1 r2 e.1 j,e.2++[(j:Int)])]:=(List.append_assoc _ _ _).symm
        refine⟨lb++[(sc r1 r2 e.1 j,e.2++[(j:Int)])],ls++[tq],_,_,rfl,(t9.trans s12).upd_free hllH,(((ts7.trans s8.tups).trans ts9).trans s12.tups).trans ts13,?_,?_,?_,?_,?_,?_⟩
        ·rw[upd_ne nwll]
         exact s12 _ _ hL9
        ·rw[upd_ne ndll,eapp,List.map_append]
         exact s12 _ _ hD9
        ·rw[upd_same,List.map_append]
         rfl
        ·refine Paired.snoc (eAt_tsame hE7 (((s8.tups.trans ts9).trans s12.tups).trans ts13)) ⟨pn,ts13 _ _ htq12,ts13 _ _ hpn12⟩
        ·rw[eapp]
         exact V7.new G1 G2 j1 hm
        ·rw[eapp]
         intro i' e' hi' ge'
         rw[List.getElem?_append_left (by rw[List.length_append];omega)] at ge'
         exact like7 i' e' hi' ge'
      ·rintro σ H7 ⟨lb,ls,v10,v11,rfl,t7,ts7,hL7,hD7,hl7,hE7,V7,like7⟩
       refine⟨lb,ls,_,_,_,_,_,rfl,t7,ts7,hL7,hD7,hl7,hE7,V7.done (by omega),fun i' e' hi' ge'=>?_⟩
       by_cases h:i'<d+i
       ·exact like7 i' e' h ge'
       ·have ei:i'=d+i:=by omega
        subst ei
        rw[V7.pl] at ge'
        cases ge'
        exact hg
     ·have hne:¬(V.bl (gd r1 e.1.1)=V.bl (gd r2 e.1.2)):=fun z=>hg (by injection z)
      rw[decide_eq_false hne]
      refine iteT ?_
      exact⟨_,rfl,kS z e.2 H6 t6 (ts6 _ _ h2) (B6.first gfe hg like6) (by omega)⟩
   ·rintro σ H6 ⟨la,ls,v7,v8,v9,v10,v11,rfl,t6,ts6,hL6,hD6,hl6,hE6,B6,like6⟩
    rw[List.length_map,hwl,Nat.add_sub_cancel' hdl] at B6 like6
    refine⟨_,rfl,?_⟩
    refine⟨r1.length*r2.length-fs.length,by omega,fs++la,fs.length,ls,ll,_,_,_,_,_,_,rfl,rfl,t6,ndll,hD6,hl6,?_,by rw[List.length_append];omega,B6,like6⟩
    rw[List.drop_left]
    exact hE6
end
end LN
namespace LN
open PySem L2 SO K20 K21 K60 K23 K24
section
variable {P:Program} {w:World} {K:W.Frag} {mg:Str->Option Value} {base:Heap}
theorem scLB:FnScope ["machine","run"] ["machine","run"] (defScope sLB):=.of (by decide +kernel)
theorem ok_lb (F:Fun K "lets_by" "lets_by" sLB f fd)(FR:Fun K "room_behind" "room_behind" sRB fr fdr)(bR:Binds K fdr ["machine","room","run"] [])(gR:mg "room_behind"=some (.ref fr)):
  FnOk P w K mg base CX0 2 f fd ["machine","run"] spLB:=by
 have GR:FnOk P w K mg base CX0 1 fr fdr ["machine","room","run"] spRB:=ok_rb FR
 refine F.ok scLB (fun vs H Q E h=>?_) (fun cdv A outer s H vs Q E hr h=>?_)
 ·obtain⟨a,p,many,rs,run,rfl,_⟩:=h
  rfl
 ·obtain⟨a,p,many,rs,run,rfl,M,G,hp,hl,k⟩:=h
  obtain⟨pr,qs,m1,m2,m3⟩:=id M
  refine⟨_,pss_one (ps_ret (pe_ix ix_tup (pe_ix ix_tup (pe_ix ix_tup (pv 0) pe_int (fun _ _=>rfl)) (pe_call GR hr rfl gR FR.kp bR .nil pass0 (pa_cons (pv 0) (pa_cons pe_int (pa_cons (pv 1) pa_nil)))) (fun _ _=>rfl)) pe_int (fun _ _=>rfl))),?_⟩
  have hpos:(0:Int)<rs.length:=by have:=G.pos;omega
  have hw:=walk_in G run 0 (Int.le_refl 0) hpos hl
  obtain⟨q,z,e1,e2⟩:=truth G m3 hw.1 hw.2
  refine⟨_,rfl,a,_,_,_,rfl,rfl,SqT.of m1,rfl,_,rfl,_,rfl,a,p,0,many,rs,run,rfl,M,G,Int.le_refl 0,hpos,hp,hl,?_⟩
  exact⟨pr,_,_,_,rfl,rfl,SqT.of m2,e1,q,_,_,_,rfl,rfl,SqT.of e2,rfl,k⟩
theorem scGo:FnScope ["_law_machine_here","_law_run_here","_law_room","_law_letter"] ["_law_machine_here","_law_run_here"] (defScope sGo):=.of (by decide +kernel)
theorem ok_go (F:Fun K "_law_good" "_law_good" sGo f fd):FnOk P w K mg base CX0 1 f fd ["_law_machine_here","_law_run_here"] spLB:=by
 refine F.ok scGo (fun vs H Q E h=>?_) (fun cdv A outer s H vs Q E hr h=>?_)
 ·obtain⟨a,p,many,rs,run,rfl,_⟩:=h
  rfl
 ·obtain⟨a,p,many,rs,run,rfl,M,G,hp,hl,k⟩:=h
  obtain⟨pr,qs,m1,m2,m3⟩:=M
  have hpos:(0:Int)<rs.length:=by have:=G.pos;omega
  refine⟨_,pss_cons (ps_set (i:=2) scGo.nd rfl (Or.inl rfl) pe_int)
   (pss_cons (ps_for PassesOwn.never rfl (pi_tup (pv 1)) (pg_name (i:=3) scGo.nd rfl (Or.inl rfl))
    (pss_one (ps_set (i:=2) scGo.nd rfl (Or.inl rfl) (pe_ix ix_tup (pe_ix ix_tup (pe_ix ix_tup (pe_ix ix_tup (pv 0) pe_int (fun _ _=>rfl)) (pv 2) (fun _ _=>rfl)) pe_int (fun _ _=>rfl)) (pv 3) (fun _ _=>rfl)))))
   (pss_one (ps_ret (pe_ix ix_tup (pe_ix ix_tup (pe_ix ix_tup (pv 0) pe_int (fun _ _=>rfl)) (pv 2) (fun _ _=>rfl)) pe_int (fun _ _=>rfl))))),?_⟩
  refine⟨_,rfl,p,rfl,⟨_,SqT.of hp⟩,?_⟩
  refine for_tup (K:=K) (a:=p) (xs:=run.map V.int) (fun i σ H2=>H2=H/\∃v,σ=[some (.ref a),some (.ref p),some (.int (walkM rs 0 (run.take i))),v]) ⟨rfl,none,rfl⟩ (fun i σ H2 _ ⟨e,_⟩=>by rw[e];exact SqT.of hp) ?_ ?_
  ·rintro i x σ H2 hx ⟨rfl,v,rfl⟩
   rw[List.getElem?_map] at hx
   cases el:run[i]? with
   |none=>rw[el] at hx;cases hx
   |some l=>
    rw[el] at hx
    cases hx
    have hw:=walk_in G (run.take i) 0 (Int.le_refl 0) hpos (fun l' h'=>hl l' (List.mem_of_mem_take h'))
    have hll:=hl l (List.mem_of_getElem? el)
    obtain⟨q,z,b,ns,e1,e2,e3,e4,_⟩:=arrow G m3 hw.1 hw.2 hll.1 hll.2
    refine⟨_,rfl,a,_,_,_,rfl,rfl,SqT.of m1,rfl,_,rfl,pr,_,_,_,rfl,rfl,SqT.of m2,e1,q,_,_,_,rfl,rfl,SqT.of e2,rfl,_,rfl,z,_,_,_,rfl,rfl,SqT.of e3,e4,?_⟩
    refine⟨rfl,some (.int l),?_⟩
    rw[walk_take rs 0 run i l el]
    rfl
  ·rintro σ H2 ⟨rfl,v,rfl⟩
   rw[List.length_map,List.take_of_length_le (Nat.le_refl _)]
   have hw:=walk_in G run 0 (Int.le_refl 0) hpos hl
   obtain⟨q,z,e1,e2⟩:=truth G m3 hw.1 hw.2
   exact⟨_,rfl,a,_,_,_,rfl,rfl,SqT.of m1,rfl,_,rfl,pr,_,_,_,rfl,rfl,SqT.of m2,e1,q,_,_,_,rfl,rfl,SqT.of e2,rfl,k⟩
def rnS (c many:Int):Nat->Int×List Int
 |0=>(c,[])
 |i+1=>(((rnS c many i).1+(0+(i:Int))+1)*742938285%2147483647,(rnS c many i).2++[((rnS c many i).1+(0+(i:Int))+1)*742938285%2147483647%many])
def rnM (c many:Int):List Int:=if many=0 then[] else(rnS c many (c%5).toNat).2
theorem rnS_len (c many:Int):∀i,(rnS c many i).2.length=i
 |0=>rfl
 |i+1=>by rw[rnS,List.length_append,rnS_len c many i];rfl
theorem rnM_len (c many:Int):(rnM c many).length<=4:=by
 unfold rnM
 split
 ·exact Nat.zero_le _
 ·rw[rnS_len];omega
theorem rnM_lts (c many:Int)(h:0<=many):Lts many (rnM c many):=by
 unfold rnM
 split
 ·exact Lts.nil
 ·rename_i hz
  have q:∀i,∀x∈(rnS c many i).2,0<=x/\x<many:=fun i=>by
   induction i with
   |zero=>intro x hx;cases hx
   |succ i ih=>
    intro x hx
    rw[rnS] at hx
    rcases List.mem_append.mp hx with z|z
    ·exact ih x z
    ·rw[List.mem_singleton] at z
     rw[z]
     exact⟨Int.emod_nonneg _ (by omega),Int.emod_lt_of_pos _ (by omega)⟩
  exact q _
def spRk:Sp:=fun vs H Q _=>∃(c many:Int),vs=[.int c,.int many]/\0<=many/\many<=8/\∀(p:Addr) (H':Hp),Same H H'->RA H' p (rnM c many)->Q (.ref p) H'
theorem scRu:FnScope ["_law_number","_law_many","_law_run_here","_law_k"] ["_law_number","_law_many"] (defScope sRu):=.of (by decide +kernel)
theorem ok_ru (F:Fun K "_law_run" "_law_run" sRu f fd)(T:Txt mg):FnOk P w K mg base CX0 1 f fd ["_law_number","_law_many"] spRk:=by
 refine F.ok scRu (fun vs H Q E h=>?_) (fun cdv A outer s H vs Q E hr h=>?_)
 ·obtain⟨c,many,rfl,_⟩:=h
  rfl
 ·obtain⟨c,many,rfl,m0,m1,k⟩:=h
  refine⟨_,pss_cons (ps_if (pt_cmpR op_eq (pv 1) pe_int (nomark _)) (pss_one (ps_ret (pe_tup pa_nil))) pss_nil)
   (pss_cons (ps_set (i:=2) scRu.nd rfl (Or.inl rfl) (pe_lst pa_nil))
   (pss_cons (ps_for PassesOwn.never rfl (pi_range1 rfl T.range (pa_cons (pe_op op_mod (pv 0) pe_int) pa_nil)) (pg_name (i:=3) scRu.nd rfl (Or.inl rfl))
    (pss_cons (ps_set (i:=0) scRu.nd rfl (Or.inl rfl) (pe_op op_mod (pe_op op_mul (pe_op op_add (pe_op op_add (pv 0) (pv 3)) pe_int) pe_int) pe_int))
    (pss_one (ps_expr (pe_bm PySem.F.plainAttrs_list PySem.F.slot_list_append PySem.F.type_list_append mt_append (pv 2) (pa_cons (pe_op op_mod (pv 0) (pv 1)) pa_nil))))))
   (pss_one (ps_ret (pe_callTy call_tuple_of (by rfl) T.tuple PyProof.Rows.boot_tuple (pa_cons (pv 2) pa_nil)))))),?_⟩
  refine⟨_,rfl,rfl,_,rfl,?_⟩
  refine ite2 (fun hz=>?_) (fun hz=>?_)
  ·refine⟨Nat.zero_le _,fun p hp=>?_⟩
   have e:rnM c many=[]:=by
    unfold rnM
    rw[if_pos (V.int.inj (of_decide_eq_true hz))]
   exact k p _ ((Same.refl H).upd_free hp) (by rw[e];exact upd_same)
  ·have hm:0<many:=by
    have:¬many=0:=fun e=>hz (by rw[e];rfl)
    omega
   refine⟨Nat.zero_le _,fun l hl=>?_⟩
   refine⟨_,rfl,_,_,rfl,rfl,(by show(0:Int)<5;decide),?_⟩
   have b0:0<=c%5:=by omega
   have b1:c%5<5:=by omega
   refine⟨_,rfl,by omega,by omega,?_⟩
   refine for_range (n:=(c%5).toNat) (fun i σ H2=>∃(v:Option V),σ=[some (.int (rnS c many i).1),some (.int many),some (.ref l),v]/\Same H H2/\H2 l=some (.lst ((rnS c many i).2.map V.int)))
    ⟨none,rfl,(Same.refl H).upd_free hl,upd_same⟩ ?_ ?_
   ·rintro i σ H2 hi ⟨v,rfl,s2,hL⟩
    have i1:(i:Int)<=5:=by omega
    refine⟨_,rfl,_,rfl,_,_,rfl,rfl,_,_,rfl,rfl,_,_,rfl,rfl,.inr ⟨by decide,by decide⟩,_,_,rfl,rfl,(by show(0:Int)<2147483647;decide),?_⟩
    refine⟨_,rfl,.inl ⟨rfl,_,SqL.of hL⟩,_,rfl,_,rfl,_,_,rfl,rfl,hm,l,_,_,rfl,rfl,hL,?_,?_⟩
    ·rw[List.length_map,rnS_len]
     exact small1000 (by omega)
    ·refine⟨_,rfl,s2.upd_free hl,?_⟩
     rw[upd_same,rnS,List.map_append]
     rfl
   ·rintro σ H2 ⟨v,rfl,s2,hL⟩
    refine⟨_,rfl,l,_,rfl,.inl ⟨SqL.of hL,fun p hp=>?_⟩⟩
    have e:rnM c many=(rnS c many (c%5).toNat).2:=by
     unfold rnM
     rw[if_neg (by omega)]
    exact k p _ (s2.trans ((Same.refl H2).upd_free hp)) (by rw[e];exact upd_same)
def spMq (K:W.Frag):Sp:=fun vs H Q _=>∃(a:Addr) (ns:List Int) (st most:Int),vs=[.ref a,.int st,.int most]/\SqL K H a (ns.map V.int)/\0<=st/\st<=500/\1<=most/\most<=12/\3<=most/\∀(m:Addr) (many:Int) (rs:Rms) (H':Hp),Same H H'->MAt H' m many rs->Good many rs->(rs.length:Int)<=most->(many<=3\/rs.length<=3)->Q (.ref m) H'
theorem scMa:FnScope ["_law_script","_law_start","_law_most","_law_head","_law_many","_law_size","_law_rooms","_law_k","_law_at","_law_nexts"] ["_law_script","_law_start","_law_most"] (defScope sMa):=.of (by decide +kernel)
def scopeJ:Scope:=⟨.function,[(".0",.local),("_law_j",.local),("_law_cell_at",.globalImplicit),("_law_at",.free),("_law_script",.free),("_law_size",.free)],false,false,[]⟩
theorem scJ:BlkScope (defScope sMa) ["_law_script","_law_start","_law_most","_law_head","_law_many","_law_size","_law_rooms","_law_k","_law_at","_law_nexts"] ["_law_j"] ["_law_at","_law_script","_law_size"] [8,0,5] scopeJ:=
 .of (by decide +kernel)
theorem ok_ma (F:Fun K "_law_machine" "_law_machine" sMa f fd)(T:Txt mg)(FC:Fun K "_law_cell_at" "_law_cell_at" sCe fc fdc)(bC:Binds K fdc ["_law_script","_law_k"] [])(gC:mg "_law_cell_at"=some (.ref fc)):
  FnOk P w K mg base CX0 2 f fd ["_law_script","_law_start","_law_most"] (spMq K):=by
 have GC:FnOk P w K mg base CX0 1 fc fdc ["_law_script","_law_k"] (spCe K):=ok_ce FC T
 refine F.ok scMa (fun vs H Q E h=>?_) (fun cdv A outer s H vs Q E hr h=>?_)
 ·obtain⟨a,ns,st,most,rfl,_⟩:=h
  rfl
 ·obtain⟨a,ns,st,most,rfl,hS,st0,st1,mo0,mo1,mo3,k⟩:=h
  refine⟨_,pss_cons (ps_set (i:=3) scMa.nd rfl (Or.inl rfl) (pe_call GC hr rfl gC FC.kp bC .nil pass0 (pa_cons (pv 0) (pa_cons (pv 1) pa_nil))))
   (pss_cons (ps_set (i:=4) scMa.nd rfl (Or.inl rfl) (pe_op op_mod (pv 3) pe_int))
   (pss_cons (ps_cut (ps_if (pt_cmpR op_eq (pe_op op_mod (pe_op op_fdiv (pv 3) pe_int) pe_int) pe_int (nomark _)) (pss_one (ps_set (i:=4) scMa.nd rfl (Or.inl rfl) pe_int)) pss_nil))
   (pss_cons (ps_cut (ps_set (i:=5) scMa.nd rfl (Or.inr rfl) (pe_op op_add pe_int (pe_op op_mod (pe_op op_fdiv (pv 3) pe_int) (pe_ix ix_list (pe_lst (pa_cons (pv 2) (pa_cons pe_int pa_nil))) (pe_callTy call_int1 (by rfl) T.int PyProof.Rows.boot_int (pa_cons (pe_cmpR op_eq (pv 4) pe_int (nomark _)) pa_nil)) (fun _ _=>rfl))))))
   (pss_cons (ps_set (i:=6) scMa.nd rfl (Or.inl rfl) (pe_lst pa_nil))
   (pss_cons (ps_for PassesOwn.never rfl (pi_range1 rfl T.range (pa_cons (pv 5) pa_nil)) (pg_name (i:=7) scMa.nd rfl (Or.inl rfl))
    (pss_cons (ps_cut (ps_set (i:=8) scMa.nd rfl (Or.inr rfl) (pe_op op_add (pe_op op_add (pv 1) pe_int) (pe_op op_mul (pv 7) (pe_op op_add (pv 4) pe_int)))))
    (pss_cons (ps_setlc (i:=9) scJ rfl rfl rfl (pi_range1 rfl T.range (pa_cons (pv 4) pa_nil)) (fun fp C s1 H1=>pg_name (i:=0) scJ.nd rfl (Or.inl rfl)) (fun fp C s1 H1=>pts_nil)
     (fun fp C s1 H1=>pe_op op_mod (pe_call GC hr rfl gC FC.kp bC .nil pass0 (pa_cons (pv 2) (pa_cons (pe_op op_add (pe_op op_add (pv 1) pe_int) (pv 0)) pa_nil))) (pv 3)) scMa.nd rfl rfl rfl)
    (pss_one (ps_expr (pe_bm PySem.F.plainAttrs_list PySem.F.slot_list_append PySem.F.type_list_append mt_append (pv 6) (pa_cons (pe_tup (pa_cons (pe_cmpR op_eq (pe_op op_mod (pe_call GC hr rfl gC FC.kp bC .nil pass0 (pa_cons (pv 0) (pa_cons (pv 8) pa_nil))) pe_int) pe_int (nomark _))
     (pa_cons (pe_callTy call_tuple_of (by rfl) T.tuple PyProof.Rows.boot_tuple (pa_cons (pv 9) pa_nil)) pa_nil))) pa_nil)))))))
   (pss_one (ps_ret (pe_tup (pa_cons (pv 4) (pa_cons (pe_callTy call_tuple_of (by rfl) T.tuple PyProof.Rows.boot_tuple (pa_cons (pv 6) pa_nil)) pa_nil)))))))))),?_⟩
  refine⟨_,rfl,_,rfl,a,ns,st,rfl,hS,by omega,by omega,fun hd H1 s1=>?_⟩
  refine⟨_,rfl,_,_,rfl,rfl,(by show(0:Int)<4;decide),?_⟩
  refine⟨fun σ' H'=>∃many:Int,0<=many/\many<=8/\(many<=3\/many=8)/\σ'=[some (.ref a),some (.int st),some (.int most),some (.int hd),some (.int many),none,none,none,none,none]/\H'=H1,?_,?_⟩
  ·refine⟨_,rfl,_,_,rfl,rfl,⟨by decide,by decide⟩,_,_,rfl,rfl,(by show(0:Int)<8;decide),rfl,_,rfl,?_⟩
   refine ite2 (fun _=>?_) (fun _=>?_)
   ·exact⟨8,by decide,by decide,.inr rfl,rfl,rfl⟩
   ·exact⟨hd%4,by omega,by omega,.inl (by omega),rfl,rfl⟩
  rintro σ' H' ⟨many,m0,m1,m38,rfl,rfl⟩
  refine⟨fun σ' H2=>∃size:Int,1<=size/\size<=most/\(many<=3\/size<=3)/\σ'=[some (.ref a),some (.int st),some (.int most),some (.int hd),some (.int many),some (.int size),none,none,none,none]/\Same H' H2,?_,?_⟩
  ·refine⟨_,rfl,_,_,rfl,rfl,⟨by decide,by decide⟩,_,rfl,(by show 2<=sizeLine;decide),fun pl hpl=>?_⟩
   have sl:Same H' (upd H' pl (.lst [.int most,.int 3])):=(Same.refl H').upd_free hpl
   have ql:upd H' pl (.lst [.int most,.int 3]) pl=some (.lst [.int most,.int 3]):=upd_same
   generalize upd H' pl (.lst [.int most,.int 3])=H0 at sl ql ⊢
   have fin:∀z:Int,1<=z->z<=most->(many<=3\/z<=3)->∃size:Int,1<=size/\size<=most/\(many<=3\/size<=3)/\[some (V.ref a),some (.int st),some (.int most),some (.int hd),some (.int many),some (.int (1+hd / 32%z)),none,none,none,none]=[some (.ref a),some (.int st),some (.int most),some (.int hd),some (.int many),some (.int size),none,none,none,none]/\Same H' H0:=fun z z0 z1 z3=>by
    have q0:0<=hd / 32%z:=Int.emod_nonneg _ (by omega)
    have q1:hd / 32%z<z:=Int.emod_lt_of_pos _ (by omega)
    exact⟨1+hd / 32%z,by omega,by omega,by omega,rfl,sl⟩
   by_cases h8:decide (V.int many=V.int 8)=true
   ·refine⟨_,rfl,rfl,.inr ⟨_,rfl,pl,_,_,.int 3,rfl,rfl,SqL.of ql,by rw[h8];rfl,_,_,rfl,rfl,(by show(0:Int)<3;decide),_,_,rfl,rfl,fin 3 (by decide) mo3 (.inr (by decide))⟩⟩
   ·have h8':decide (V.int many=V.int 8)=false:=by simpa using h8
    exact⟨_,rfl,rfl,.inr ⟨_,rfl,pl,_,_,.int most,rfl,rfl,SqL.of ql,by rw[h8'];rfl,_,_,rfl,rfl,(by show(0:Int)<most;omega),_,_,rfl,rfl,fin most (by omega) (Int.le_refl _) (by
     rcases m38 with z|z
     ·exact .inl z
     ·rw[z] at h8';simp at h8')⟩⟩
  rintro σ' H2 ⟨size,z0,z1,z38,rfl,sS⟩
  have s1:=s1.trans sS
  refine⟨Nat.zero_le _,fun l hl=>?_⟩
  have s2:Same H (upd H2 l (.lst [])):=s1.upd_free (s1.free hl)
  have hlH:H l=none:=s1.free hl
  refine⟨_,rfl,_,rfl,by omega,by omega,?_⟩
  refine for_range (n:=size.toNat) (fun i σ H2=>∃(qs:List Addr) (rs:Rms) (v7 v8 v9:Option V),σ=[some (.ref a),some (.int st),some (.int most),some (.int hd),some (.int many),some (.int size),some (.ref l),v7,v8,v9]∧
    Same H H2/\H2 l=some (.lst (qs.map V.ref))/\RowsAt H2 qs rs/\rs.length=i/\∀r∈rs,(r.2.length:Int)=many/\∀n∈r.2,0<=n/\n<size)
   ⟨[],[],none,none,none,rfl,s2,upd_same,⟨rfl,fun i r e=>by simp at e⟩,rfl,fun r hr=>by simp at hr⟩ ?_ ?_
  ·rintro i σ H2 hi ⟨qs,rs,v7,v8,v9,rfl,t2,hL,hR,hlen,hrow⟩
   have i1:(i:Int)<size:=by omega
   have p0:0<=(i:Int)*(many+1):=Int.mul_nonneg (by omega) (by omega)
   have p1:(i:Int)*(many+1)<=12*9:=Int.mul_le_mul (by omega) (by omega) (by omega) (by omega)
   have e0:0+(i:Int)=(i:Int):=Int.zero_add _
   refine⟨fun σ' H'=>∃at':Int,0<=at'/\at'<=700/\σ'=[some (.ref a),some (.int st),some (.int most),some (.int hd),some (.int many),some (.int size),some (.ref l),some (.int (0+(i:Int))),some (.int at'),v9]/\H2=H',?_,?_⟩
   ·refine⟨_,rfl,_,_,rfl,rfl,_,rfl,_,rfl,_,_,rfl,rfl,_,_,rfl,rfl,.inr ⟨by omega,by omega⟩,_,_,rfl,rfl,?_⟩
    refine⟨st+1+(0+(i:Int))*(many+1),?_,?_,rfl,rfl⟩
    ·rw[e0];omega
    ·rw[e0];omega
   rintro σ' H' ⟨at',a0,a1,rfl,rfl⟩
   refine⟨_,rfl,_,rfl,by omega,by omega,fun D hD=>?_⟩
   have hDH:H D=none:=t2.free hD
   have sD:Same H2 (upd H2 D (.lst [])):=(Same.refl H2).upd_free hD
   refine lc_range (n:=many.toNat) (fun j ys H3=>Same H2 H3/\H3 D=some (.lst ys)/\ys.length=j/\∃xs:List Int,ys=xs.map V.int/\∀x∈xs,0<=x/\x<size) (Nat.le_of_lt (small1000 (by omega)))
    ⟨sD,upd_same,rfl,[],rfl,fun x hx=>by simp at hx⟩ (fun j ys H3 h=>Nat.le_of_eq h.2.2.1) ?_ ?_
   ·rintro j ys H3 N M hj ⟨u1,u2,u3,xs,rfl,u5⟩ hN hM
    refine⟨_,rfl,_,rfl,_,_,rfl,rfl,_,rfl,_,_,rfl,rfl,a,ns,_,rfl,(t2.trans u1).seq hS,by omega,by omega,fun z H4 u6=>?_⟩
    refine⟨_,rfl,_,_,rfl,rfl,by omega,?_⟩
    refine hN _ H4 (u6 _ _ u2) ⟨(u1.trans u6).upd_free hD,upd_same,by rw[List.length_append,List.length_singleton,u3],xs++[z%size],by rw[List.map_append];rfl,fun x hx=>?_⟩
    rcases List.mem_append.mp hx with hx|hx
    ·exact u5 x hx
    ·rw[List.mem_singleton] at hx
     subst hx
     exact⟨Int.emod_nonneg _ (by omega),Int.emod_lt_of_pos _ (by omega)⟩
   ·rintro ys H3 ⟨u1,u2,u3,xs,rfl,u5⟩
    have xl:(xs.length:Int)=many:=by rw[List.length_map] at u3;omega
    have nlD:l≠D:=ne_of_none hL hD
    refine⟨_,rfl,.inl ⟨rfl,_,SqL.of (u1 _ _ hL)⟩,_,rfl,_,rfl,a,ns,_,rfl,(t2.trans u1).seq hS,by omega,by omega,fun z H4 u6=>?_⟩
    refine⟨_,_,rfl,rfl,(by show(0:Int)<cMod;decide),rfl,_,rfl,D,_,rfl,.inl ⟨SqL.of (u6 _ _ u2),fun zt hzt=>?_⟩⟩
    refine⟨(by show 2<=sizeLine;decide),fun q hq=>?_⟩
    have nzq:zt≠q:=fun e=>by rw[e,upd_same] at hq;cases hq
    have hq4:H4 q=none:=by rw[upd_ne (Ne.symm nzq)] at hq;exact hq
    have v1:Same H2 H4:=u1.trans u6
    have v2:Same H2 (upd H4 zt (.tup (xs.map V.int))):=v1.upd_free (v1.free hzt)
    have v3:Same H2 (upd (upd H4 zt (.tup (xs.map V.int))) q (.tup [.bl (decide (V.int (z%cMod)=V.int 1)),.ref zt])):=v2.upd_free (v1.free hq4)
    refine⟨l,_,_,rfl,rfl,v3 _ _ hL,?_,?_⟩
    ·rw[List.length_map,hR.1,hlen]
     exact small1000 (by omega)
    ·have nlq:l≠q:=ne_of_none hL (v1.free hq4)
     have nlz:l≠zt:=ne_of_none hL (v1.free hzt)
     have w1:Same H (upd (upd (upd H4 zt (.tup (xs.map V.int))) q (.tup [.bl (decide (V.int (z%cMod)=V.int 1)),.ref zt])) l (.lst (qs.map V.ref++[.ref q]))):=(t2.trans v3).upd_free hlH
     refine⟨qs++[q],rs++[(decide (V.int (z%cMod)=V.int 1),xs)],_,_,_,rfl,w1,?_,⟨?_,?_⟩,?_,?_⟩
     ·rw[upd_same,List.map_append]
      rfl
     ·rw[List.length_append,List.length_append,hR.1]
      rfl
     ·intro i' r' e'
      by_cases hlt:i'<rs.length
      ·rw[List.getElem?_append_left hlt] at e'
       obtain⟨q',z',f1,f2,f3⟩:=hR.2 i' r' e'
       have n2:q'≠l:=ne_of f2 hL (by intro z;cases z)
       have n3:z'≠l:=ne_of f3 hL (by intro z;cases z)
       refine⟨q',z',?_,?_,?_⟩
       ·rw[List.getElem?_append_left (by rw[hR.1];exact hlt)]
        exact f1
       ·rw[upd_ne n2]
        exact v3 _ _ f2
       ·rw[upd_ne n3]
        exact v3 _ _ f3
      ·rw[List.getElem?_append_right (by omega)] at e'
       have hi':i'-rs.length=0:=by
        cases h:i'-rs.length with
        |zero=>rfl
        |succ n=>rw[h] at e';simp at e'
       rw[hi'] at e'
       cases e'
       refine⟨q,zt,?_,?_,?_⟩
       ·have:i'=qs.length:=by rw[hR.1];omega
        rw[this,List.getElem?_append_right (Nat.le_refl _),Nat.sub_self]
        rfl
       ·rw[upd_ne (Ne.symm nlq),upd_same]
       ·rw[upd_ne (Ne.symm nlz),upd_ne nzq,upd_same]
     ·rw[List.length_append,hlen]
      rfl
     ·intro r hr'
      rcases List.mem_append.mp hr' with hr'|hr'
      ·exact hrow r hr'
      ·rw[List.mem_singleton] at hr'
       subst hr'
       exact⟨xl,u5⟩
  ·rintro σ H2 ⟨qs,rs,v7,v8,v9,rfl,t2,hL,hR,hlen,hrow⟩
   refine⟨_,rfl,_,rfl,l,_,rfl,.inl ⟨SqL.of hL,fun p hp=>?_⟩⟩
   refine⟨(by show 2<=sizeLine;decide),fun m hm=>?_⟩
   have npm:p≠m:=fun e=>by rw[e,upd_same] at hm;cases hm
   have hm2:H2 m=none:=by rw[upd_ne (Ne.symm npm)] at hm;exact hm
   have v1:Same H2 (upd H2 p (.tup (qs.map V.ref))):=(Same.refl H2).upd_free hp
   have v2:Same H2 (upd (upd H2 p (.tup (qs.map V.ref))) m (.tup [.int many,.ref p])):=v1.upd_free hm2
   refine k m many rs _ (t2.trans v2) ⟨p,qs,upd_same,?_,hR.same v2⟩ ⟨⟨m0,m1⟩,by omega,by omega,fun r hr'=>?_⟩ ?_ (by omega)
   ·rw[upd_ne npm,upd_same]
   ·have q:=hrow r hr'
    refine⟨q.1,fun n hn=>?_⟩
    have q2:=q.2 n hn
    omega
   ·omega
end
end LN
namespace K23
open PySem L2 K20 K21 K60
def spIm:Sp:=fun vs H Q _=>∃(m:Addr) (many:Int) (rs:Rms),vs=[.ref m,.int many]/\MAt H m many rs/\Good many rs/\Q (.bl true) H
section
variable {P:Program} {w:World} {K:W.Frag} {mg:Str->Option Value} {base:Heap}
theorem scIm:FnScope ["_law_found","_law_many","_law_room","_law_there"] ["_law_found","_law_many"] (defScope sIm):=.of (by decide +kernel)
theorem ok_im (F:Fun K "_law_is_machine" "_law_is_machine" sIm f fd)(T:Txt mg)(FW:Fun K "_law_whole" "_law_whole" sWh fW fdW)(bW:Binds K fdW ["_law_found"] [])(gW:mg "_law_whole"=some (.ref fW)):FnOk P w K mg base CX0 2 f fd ["_law_found","_law_many"] spIm:=by
 have GW:FnOk P w K mg base CX0 1 fW fdW ["_law_found"] spWh:=ok_wh FW T
 refine F.ok scIm (fun vs H Q E h=>?_) (fun cdv A outer s H vs Q E hr h=>?_)
 ·obtain⟨m,many,rs,rfl,_⟩:=h
  rfl
 ·obtain⟨m,many,rs,rfl,M,G,k⟩:=h
  obtain⟨p,qs,m1,m2,m3⟩:=id M
  have gle:=G.le
  have gpos:=G.pos
  have hql:(qs.map V.ref).length=rs.length:=by rw[List.length_map];exact m3.1
  refine⟨_,pss_cons (ps_if (PW.pt (pw_or (pt_not (pt_val (pe_callB call_isinst (by rfl) T.isin PyProof.Rows.boot_isinstance (pa_cons (pv 0) (pa_cons (pe_bltn (v:=.ty "tuple") (by rfl) T.tuple PyProof.Rows.boot_tuple rfl) pa_nil)))))
    (pw_or (pt_cmpR op_ne (pe_callB call_len_seq (by rfl) T.len PySem.boot_len (pa_cons (pv 0) pa_nil)) pe_int (nomark _))
    (pw_or (pt_not (pt_val (pe_call GW hr rfl gW FW.kp bW .nil pass0 (pa_cons (pe_ix ix_tup (pv 0) pe_int (fun _ _=>rfl)) pa_nil))))
    (pw_or1 (pt_cmpR op_ne (pe_ix ix_tup (pv 0) pe_int (fun _ _=>rfl)) (pv 1) (nomark _))))))) (pss_one (ps_ret pe_bl)) pss_nil)
   (pss_cons (ps_if (PW.pt (pw_or (pt_not (pt_val (pe_callB call_isinst (by rfl) T.isin PyProof.Rows.boot_isinstance (pa_cons (pe_ix ix_tup (pv 0) pe_int (fun _ _=>rfl)) (pa_cons (pe_bltn (v:=.ty "tuple") (by rfl) T.tuple PyProof.Rows.boot_tuple rfl) pa_nil)))))
    (pw_or1 (pt_cmpR op_eq (pe_callB call_len_seq (by rfl) T.len PySem.boot_len (pa_cons (pe_ix ix_tup (pv 0) pe_int (fun _ _=>rfl)) pa_nil)) pe_int (nomark _))))) (pss_one (ps_ret pe_bl)) pss_nil)
   (pss_cons (ps_for PassesOwn.never rfl (pi_tup (pe_ix ix_tup (pv 0) pe_int (fun _ _=>rfl))) (pg_name (i:=2) scIm.nd rfl (Or.inl rfl))
    (pss_cons (ps_if (PW.pt (pw_or (pt_not (pt_val (pe_callB call_isinst (by rfl) T.isin PyProof.Rows.boot_isinstance (pa_cons (pv 2) (pa_cons (pe_bltn (v:=.ty "tuple") (by rfl) T.tuple PyProof.Rows.boot_tuple rfl) pa_nil)))))
     (pw_or (pt_cmpR op_ne (pe_callB call_len_seq (by rfl) T.len PySem.boot_len (pa_cons (pv 2) pa_nil)) pe_int (nomark _))
     (pw_or1 (pt_not (pt_val (pe_callB call_isinst (by rfl) T.isin PyProof.Rows.boot_isinstance (pa_cons (pe_ix ix_tup (pv 2) pe_int (fun _ _=>rfl)) (pa_cons (pe_bltn (v:=.ty "bool") (by rfl) T.bool PyProof.Rows.boot_bool rfl) pa_nil))))))))) (pss_one (ps_ret pe_bl)) pss_nil)
    (pss_cons (ps_if (PW.pt (pw_or (pt_not (pt_val (pe_callB call_isinst (by rfl) T.isin PyProof.Rows.boot_isinstance (pa_cons (pe_ix ix_tup (pv 2) pe_int (fun _ _=>rfl)) (pa_cons (pe_bltn (v:=.ty "tuple") (by rfl) T.tuple PyProof.Rows.boot_tuple rfl) pa_nil)))))
     (pw_or1 (pt_cmpR op_ne (pe_callB call_len_seq (by rfl) T.len PySem.boot_len (pa_cons (pe_ix ix_tup (pv 2) pe_int (fun _ _=>rfl)) pa_nil)) (pv 1) (nomark _))))) (pss_one (ps_ret pe_bl)) pss_nil)
    (pss_one (ps_for PassesOwn.never rfl (pi_tup (pe_ix ix_tup (pv 2) pe_int (fun _ _=>rfl))) (pg_name (i:=3) scIm.nd rfl (Or.inl rfl))
     (pss_one (ps_if (PW.pt (pw_or (pt_not (pt_val (pe_call GW hr rfl gW FW.kp bW .nil pass0 (pa_cons (pv 3) pa_nil))))
      (pw_or (pt_cmpR op_lt (pv 3) pe_int (nomark _))
      (pw_or1 (pt_cmpR op_ge (pv 3) (pe_callB call_len_seq (by rfl) T.len PySem.boot_len (pa_cons (pe_ix ix_tup (pv 0) pe_int (fun _ _=>rfl)) pa_nil)) (nomark _)))))) (pss_one (ps_ret pe_bl)) pss_nil)))))))
   (pss_one (ps_ret pe_bl)))),?_⟩
  refine⟨_,rfl,_,_,_,true,rfl,.tup m1,rfl,true,rfl,iteF ?_⟩
  refine⟨_,rfl,m,_,rfl,.inr (SqT.of m1),rfl,_,rfl,?_⟩
  rw[decide_eq_true (show V.int (([V.int many,V.ref p].length:Nat):Int)=V.int 2 from rfl)]
  refine iteF ?_
  refine⟨_,rfl,m,_,_,_,rfl,rfl,SqT.of m1,rfl,many,rfl,true,rfl,iteF ?_⟩
  refine⟨_,rfl,m,_,_,_,rfl,rfl,SqT.of m1,rfl,_,rfl,rfl,_,rfl,?_⟩
  rw[decide_eq_true (show V.int many=V.int many from rfl)]
  refine iteF ?_
  refine⟨_,rfl,m,_,_,_,rfl,rfl,SqT.of m1,rfl,_,_,_,true,rfl,.tup m2,rfl,true,rfl,iteF ?_⟩
  refine⟨_,rfl,m,_,_,_,rfl,rfl,SqT.of m1,rfl,p,_,rfl,.inr (SqT.of m2),rfl,_,rfl,?_⟩
  have n0:¬(V.int (((qs.map V.ref).length:Nat):Int)=V.int 0):=fun z=>by
   injection z with z
   omega
  rw[decide_eq_false n0]
  refine iteF ?_
  refine⟨_,rfl,m,_,_,_,rfl,rfl,SqT.of m1,rfl,p,rfl,⟨_,SqT.of m2⟩,?_⟩
  refine for_tup (K:=K) (a:=p) (xs:=qs.map V.ref) (fun i σ H2=>∃(v2 v3:Option V),σ=[some (.ref m),some (.int many),v2,v3]/\H2=H) ⟨none,none,rfl,rfl⟩ (fun i σ H2 _ ⟨_,_,_,e⟩=>by rw[e];exact SqT.of m2) ?_ ?_
  ·rintro i x σ H2 hx ⟨v2,v3,rfl,rfl⟩
   have hi:i<rs.length:=by
    have:=(List.getElem?_eq_some_iff.mp hx).1
    omega
   obtain⟨r,er⟩:∃r,rs[i]?=some r:=⟨rs[i],by simp[hi]⟩
   obtain⟨q,z,e1,e2,e3⟩:=m3.2 i r er
   rw[List.getElem?_map,e1] at hx
   cases hx
   have hrow:=G.row r (List.mem_of_getElem? er)
   refine⟨_,rfl,_,_,_,true,rfl,.tup e2,rfl,true,rfl,iteF ?_⟩
   refine⟨_,rfl,q,_,rfl,.inr (SqT.of e2),rfl,_,rfl,?_⟩
   rw[decide_eq_true (show V.int (([V.bl r.1,V.ref z].length:Nat):Int)=V.int 2 from rfl)]
   refine iteF ?_
   refine⟨_,rfl,q,_,_,_,rfl,rfl,SqT.of e2,rfl,_,_,_,true,rfl,.bl r.1,rfl,true,rfl,?_⟩
   refine iteF ?_
   refine⟨_,rfl,q,_,_,_,rfl,rfl,SqT.of e2,rfl,_,_,_,true,rfl,.tup e3,rfl,true,rfl,iteF ?_⟩
   refine⟨_,rfl,q,_,_,_,rfl,rfl,SqT.of e2,rfl,z,_,rfl,.inr (SqT.of e3),_,rfl,rfl,_,rfl,?_⟩
   rw[decide_eq_true (show V.int (((r.2.map V.int).length:Nat):Int)=V.int many by rw[List.length_map,hrow.1])]
   refine iteF ?_
   refine⟨_,rfl,q,_,_,_,rfl,rfl,SqT.of e2,rfl,z,rfl,⟨_,SqT.of e3⟩,?_⟩
   refine for_tup (K:=K) (a:=z) (xs:=r.2.map V.int) (fun j σ H3=>∃(v3:Option V),σ=[some (.ref m),some (.int many),some (.ref q),v3]/\H3=H2) ⟨v3,rfl,rfl⟩ (fun i σ H2 _ ⟨_,_,e⟩=>by rw[e];exact SqT.of e3) ?_ ?_
   ·rintro j x σ H3 hx ⟨v3,rfl,rfl⟩
    rw[List.getElem?_map] at hx
    cases et:r.2[j]? with
    |none=>rw[et] at hx;cases hx
    |some t=>
     rw[et] at hx
     cases hx
     have ht:=hrow.2 t (List.mem_of_getElem? et)
     refine⟨_,rfl,t,rfl,true,rfl,iteF ?_⟩
     refine⟨_,rfl,_,_,rfl,rfl,_,rfl,?_⟩
     rw[decide_eq_false (show ¬t<0 by omega)]
     refine iteF ?_
     refine⟨_,rfl,_,rfl,m,_,_,_,rfl,rfl,SqT.of m1,rfl,p,_,rfl,.inr (SqT.of m2),_,_,rfl,rfl,_,rfl,?_⟩
     rw[decide_eq_false (show ¬(((qs.map V.ref).length:Nat):Int)<=t by omega)]
     exact iteF ⟨_,rfl,rfl⟩
   ·rintro σ H3 ⟨v3,rfl,rfl⟩
    exact⟨_,_,rfl,rfl⟩
  ·rintro σ H2 ⟨v2,v3,rfl,rfl⟩
   exact k
end
end K23
namespace LN
open PySem L2 SO K20 K21 K60 K23 K24 K22
def unI (a b:Int):Int:=if (!decide (V.int a=V.int b))=true then 1 else 0
theorem unI_le (a b:Int):0<=unI a b/\unI a b<=1:=by unfold unI;split<;>decide
def pts (M m:Rms)(z:List Int):Bool:=!decide (gd M (walkM M 0 z)=gd m (walkM m 0 z))
def loZ (many:Int)(r:List Int)(c:Int):List (List Int):=[rnM (c / 4*unI (c%4) 2) many++r++rnM (c / 20*unI (c%4) 1) many,r++rnM (c / 20*unI (c%4) 1) many,rnM (c / 4*unI (c%4) 2) many++r]
def longM (M m:Rms)(many:Int)(r:List Int)(c:Int):List Int:=if c%4=0 then r else((loZ many r c).find? (pts M m)).getD r
theorem loZ_ok {many:Int}{r:List Int}{c:Int}(h:0<=many)(hr:Lts many r):∀z∈loZ many r c,Lts many z/\z.length<=r.length+8:=by
 have l1:=rnM_len (c / 4*unI (c%4) 2) many
 have l2:=rnM_len (c / 20*unI (c%4) 1) many
 have t1:=rnM_lts (c / 4*unI (c%4) 2) many h
 have t2:=rnM_lts (c / 20*unI (c%4) 1) many h
 intro z hz
 unfold loZ at hz
 rcases List.mem_cons.mp hz with e|hz
 ·rw[e]
  refine⟨(t1.app hr).app t2,?_⟩
  rw[List.length_append,List.length_append]
  omega
 ·rcases List.mem_cons.mp hz with e|hz
  ·rw[e]
   refine⟨hr.app t2,?_⟩
   rw[List.length_append]
   omega
  ·rw[List.mem_singleton] at hz
   rw[hz]
   refine⟨t1.app hr,?_⟩
   rw[List.length_append]
   omega
theorem longM_ok {M m:Rms}{many:Int}{r:List Int}{c:Int}(h:0<=many)(hr:Lts many r)(hp:gd M (walkM M 0 r)≠gd m (walkM m 0 r)):Lts many (longM M m many r c)/\(longM M m many r c).length<=r.length+8/\gd M (walkM M 0 (longM M m many r c))≠gd m (walkM m 0 (longM M m many r c)):=by
 unfold longM
 split
 ·exact⟨hr,by omega,hp⟩
 ·cases e:(loZ many r c).find? (pts M m) with
  |none=>exact⟨hr,by show r.length<=_;omega,hp⟩
  |some z=>
   have h1:=List.find?_some e
   have h2:=loZ_ok (c:=c) h hr z (List.mem_of_find?_eq_some e)
   refine⟨h2.1,h2.2,fun q=>?_⟩
   unfold pts at h1
   rw[show gd M (walkM M 0 z)=gd m (walkM m 0 z) from q,decide_eq_true rfl] at h1
   cases h1
theorem find_at {α:Type}{p:α->Bool}:∀(zs:List α) (i:Nat) (z:α),zs[i]?=some z->(∀y∈zs.take i,p y=false)->p z=true->zs.find? p=some z
 | [],i,z,e,_,_=>by simp at e
 |x::zs,0,z,e,_,h=>by
  simp at e
  subst e
  rw[List.find?_cons,h]
 |x::zs,i+1,z,e,hn,h=>by
  rw[List.find?_cons,hn x (by simp)]
  exact find_at zs i z (by simpa using e) (fun y hy=>hn y (by rw[List.take_succ_cons];exact List.mem_cons_of_mem _ hy)) h
def spLo:Sp:=fun vs H Q _=>∃(mA oA:Addr) (many c:Int) (M m:Rms) (vr:V),vs=[.ref mA,.ref oA,vr,.int c]/\MAt H mA many M/\MAt H oA many m/\Good many M/\Good many m∧
 ((vr=.non/\Q .non H)\/∃(p:Addr) (r:List Int),vr=.ref p/\RA H p r/\Lts many r/\r.length<=90/\∀(p':Addr) (H':Hp),Same H H'->RA H' p' (longM M m many r c)->Q (.ref p') H')
section
variable {P:Program} {w:World} {K:W.Frag} {mg:Str->Option Value} {base:Heap}
abbrev nLo:List Str:=["_law_machine_here","_law_other","_law_run_here","_law_cell","_law_ahead","_law_behind","_law_some"]
abbrev pLo:List Str:=["_law_machine_here","_law_other","_law_run_here","_law_cell"]
abbrev pGo:List Str:=["_law_machine_here","_law_run_here"]
theorem scLo:FnScope nLo pLo (defScope sLo):=.of (by decide +kernel)
theorem ok_lo {dR:FuncData}(F:Fun K "_law_longer" "_law_longer" sLo f fd)(int:mg "int"=none)
  (FR:Fun K "_law_run" "_law_run" sRu fR dR) (bR:Binds K dR ["_law_number","_law_many"] []) (gR:mg "_law_run"=some (.ref fR)) (GR:FnOk P w K mg base CX0 1 fR dR ["_law_number","_law_many"] spRk)
  (FG:Fun K "_law_good" "_law_good" sGo fG dG) (bG:Binds K dG pGo []) (gG:mg "_law_good"=some (.ref fG)) (GG:FnOk P w K mg base CX0 1 fG dG pGo spLB):FnOk P w K mg base CX0 2 f fd pLo spLo:=by
 refine F.ok scLo (fun vs H Q E h=>?_) (fun cdv A outer s H vs Q E hr h=>?_)
 ·obtain⟨_,_,_,_,_,_,_,rfl,_⟩:=h
  rfl
 ·obtain⟨mA,oA,many,c,M,m,vr,rfl,mac,oth,GM,Gm,k⟩:=h
  have mn:=GM.mn
  refine⟨_,pss_cons (ps_if (PW.pt (pw_or (pt_cmpR op_isN (pv 2) pe_non (nomark _)) (pw_or1 (pt_cmpR op_eq (pe_op op_mod (pv 3) pe_int) pe_int (nomark _))))) (pss_one (ps_ret (pv 2))) pss_nil)
   (pss_cons (ps_set (i:=4) scLo.nd rfl (Or.inl rfl) (pe_call GR hr rfl gR FR.kp bR .nil pass0 (pa_cons (pe_op op_mul (pe_op op_fdiv (pv 3) pe_int) (pe_callTy call_int1 (by rfl) int PyProof.Rows.boot_int (pa_cons (pe_cmpR op_ne (pe_op op_mod (pv 3) pe_int) pe_int (nomark _)) pa_nil))) (pa_cons (pe_ix ix_tup (pv 0) pe_int (fun _ _=>rfl)) pa_nil))))
   (pss_cons (ps_set (i:=5) scLo.nd rfl (Or.inl rfl) (pe_call GR hr rfl gR FR.kp bR .nil pass0 (pa_cons (pe_op op_mul (pe_op op_fdiv (pv 3) pe_int) (pe_callTy call_int1 (by rfl) int PyProof.Rows.boot_int (pa_cons (pe_cmpR op_ne (pe_op op_mod (pv 3) pe_int) pe_int (nomark _)) pa_nil))) (pa_cons (pe_ix ix_tup (pv 0) pe_int (fun _ _=>rfl)) pa_nil))))
   (pss_cons (ps_for PassesOwn.never rfl (pi_list (pe_lst (pa_cons (pe_op op_catA (pe_op op_catA (pv 4) (pv 2)) (pv 5)) (pa_cons (pe_op op_catA (pv 2) (pv 5)) (pa_cons (pe_op op_catA (pv 4) (pv 2)) pa_nil))))) (pg_name (i:=6) scLo.nd rfl (Or.inl rfl))
    (pss_one (ps_if (pt_cmpR op_ne (pe_call GG hr rfl gG FG.kp bG .nil pass0 (pa_cons (pv 0) (pa_cons (pv 6) pa_nil))) (pe_call GG hr rfl gG FG.kp bG .nil pass0 (pa_cons (pv 1) (pa_cons (pv 6) pa_nil))) (nomark _)) (pss_one (ps_ret (pv 6))) pss_nil)))
   (pss_one (ps_ret (pv 2)))))),?_⟩
  obtain⟨pr,qs,m1,m2,m3⟩:=id mac
  rcases k with⟨rfl,k⟩|⟨p,r,rfl,hp,hlr,r90,k⟩
  ·refine⟨_,rfl,rfl,_,rfl,iteTK (by rfl) (iteT ?_)⟩
   exact⟨_,rfl,k⟩
  ·refine⟨_,rfl,rfl,_,rfl,iteFK (by rfl) ?_⟩
   refine⟨_,rfl,_,_,rfl,rfl,(by show(0:Int)<4;decide),rfl,_,rfl,?_⟩
   by_cases h4:c%4=0
   ·refine iteTK (decide_eq_true (congrArg V.int h4)) ?_
    refine⟨_,rfl,k p H (Same.refl H) ?_⟩
    unfold longM
    rw[if_pos h4]
    exact hp
   ·refine iteFK (decide_eq_false (fun z=>h4 (V.int.inj z))) ?_
    have eL:longM M m many r c=((loZ many r c).find? (pts M m)).getD r:=by unfold longM;rw[if_neg h4]
    have u1:=unI_le (c%4) 2
    have u2:=unI_le (c%4) 1
    refine⟨_,rfl,_,_,rfl,rfl,⟨by decide,by decide⟩,_,rfl,_,_,rfl,rfl,(by show(0:Int)<4;decide),rfl,.inr ⟨_,rfl,_,_,rfl,rfl,.inr ⟨Int.lt_of_lt_of_le (by decide:(-2 ^ 64:Int)<0) u1.1,Int.lt_of_le_of_lt u1.2 (by decide:(1:Int)<2 ^ 64)⟩,?_⟩⟩
    refine⟨_,rfl,mA,_,_,_,rfl,rfl,SqT.of m1,rfl,c / 4*unI (c%4) 2,many,rfl,mn.1,mn.2,fun aA H1 s1 ha=>?_⟩
    refine⟨_,rfl,_,_,rfl,rfl,⟨by decide,by decide⟩,_,rfl,_,_,rfl,rfl,(by show(0:Int)<4;decide),rfl,.inr ⟨_,rfl,_,_,rfl,rfl,.inr ⟨Int.lt_of_lt_of_le (by decide:(-2 ^ 64:Int)<0) u2.1,Int.lt_of_le_of_lt u2.2 (by decide:(1:Int)<2 ^ 64)⟩,?_⟩⟩
    refine⟨_,rfl,mA,_,_,_,rfl,rfl,SqT.of (s1 _ _ m1),rfl,c / 20*unI (c%4) 1,many,rfl,mn.1,mn.2,fun bA H2 s2 hb=>?_⟩
    have s12:=s1.trans s2
    have ha2:=s2 _ _ ha
    have hp2:=s12 _ _ hp
    have la:=rnM_len (c / 4*unI (c%4) 2) many
    have lb:=rnM_len (c / 20*unI (c%4) 1) many
    have lz:=loZ_ok (c:=c) mn.1 hlr
    have ez:loZ many r c=[rnM (c / 4*unI (c%4) 2) many++r++rnM (c / 20*unI (c%4) 1) many,r++rnM (c / 20*unI (c%4) 1) many,rnM (c / 4*unI (c%4) 2) many++r]:=rfl
    generalize rnM (c / 4*unI (c%4) 2) many=ah at ha2 la ez
    generalize rnM (c / 20*unI (c%4) 1) many=be at hb lb ez
    generalize loZ many r c=zs at lz ez eL
    refine⟨_,rfl,_,rfl,aA,p,_,_,rfl,rfl,ha2,hp2,Nat.le_of_lt (small1000 (by rw[List.length_map,List.length_map];omega)),fun q1 H3 s3 hq1=>?_⟩
    refine⟨_,rfl,q1,bA,_,_,rfl,rfl,hq1,s3 _ _ hb,Nat.le_of_lt (small1000 (by rw[List.length_append,List.length_map,List.length_map,List.length_map];omega)),fun z1 H4 s4 hz1=>?_⟩
    have s24:=s3.trans s4
    refine⟨_,rfl,_,rfl,p,bA,_,_,rfl,rfl,s24 _ _ hp2,s24 _ _ hb,Nat.le_of_lt (small1000 (by rw[List.length_map,List.length_map];omega)),fun z2 H5 s5 hz2=>?_⟩
    have s25:=s24.trans s5
    refine⟨_,rfl,_,rfl,aA,p,_,_,rfl,rfl,s25 _ _ ha2,s25 _ _ hp2,Nat.le_of_lt (small1000 (by rw[List.length_map,List.length_map];omega)),fun z3 H6 s6 hz3=>?_⟩
    refine⟨(by show 3<=sizeLine;decide),fun lA hlA=>?_⟩
    have s7:=(Same.refl H6).upd_free (o:=.lst [.ref z1,.ref z2,.ref z3]) hlA
    have q7:upd H6 lA (.lst [.ref z1,.ref z2,.ref z3]) lA=some (.lst [.ref z1,.ref z2,.ref z3]):=upd_same
    generalize upd H6 lA (.lst [.ref z1,.ref z2,.ref z3])=H7 at s7 q7 ⊢
    have s57:=s6.trans s7
    have s07:Same H H7:=s12.trans (s25.trans s57)
    have T7:TupsAt H7 [z1,z2,z3] zs:=by
     rw[ez]
     refine⟨rfl,fun i z e=>?_⟩
     match i,e with
     |0,e=>cases e;exact⟨z1,rfl,by rw[List.map_append,List.map_append];exact(s5.trans s57) _ _ hz1⟩
     |1,e=>cases e;exact⟨z2,rfl,by rw[List.map_append];exact s57 _ _ hz2⟩
     |2,e=>cases e;exact⟨z3,rfl,by rw[List.map_append];exact s7 _ _ hz3⟩
     |i+3,e=>simp at e
    refine⟨lA,rfl,⟨_,SqL.of q7⟩,?_⟩
    refine for_list (K:=K) (a:=lA) (xs:=[V.ref z1,.ref z2,.ref z3]) (fun i σ H8=>H8=H7/\(∀y∈zs.take i,pts M m y=false)/\∃v6:Option V,σ=[some (.ref mA),some (.ref oA),some (.ref p),some (.int c),some (.ref aA),some (.ref bA),v6])
     ⟨rfl,fun y hy=>by simp at hy,none,rfl⟩ (fun i σ H8 _ ⟨e,_⟩=>by rw[e];exact SqL.of q7) ?_ ?_
    ·rintro i x σ H8 hx ⟨rfl,hn,v6,rfl⟩
     have hx':([z1,z2,z3].map V.ref)[i]?=some x:=hx
     rw[List.getElem?_map] at hx'
     obtain⟨y,ey,rfl⟩:=Option.map_eq_some_iff.mp hx'
     have hi:i<zs.length:=by rw[<- T7.1];exact(List.getElem?_eq_some_iff.mp ey).1
     have ezi:zs[i]?=some zs[i]:=List.getElem?_eq_getElem hi
     generalize zs[i]=z at ezi
     obtain⟨y',ey',hz⟩:=T7.2 i z ezi
     rw[ey] at ey'
     cases ey'
     have lzz:=lz z (List.mem_of_getElem? ezi)
     refine⟨_,rfl,_,rfl,mA,y,many,M,z,rfl,LN.MAt.ts mac s07.tups,GM,hz,lzz.1,_,rfl,_,rfl,oA,y,many,m,z,rfl,LN.MAt.ts oth s07.tups,Gm,hz,lzz.1,rfl,_,rfl,?_⟩
     by_cases hq:gd M (walkM M 0 z)=gd m (walkM m 0 z)
     ·refine iteFK (congrArg not (decide_eq_true (congrArg V.bl hq))) ⟨rfl,fun w hw=>?_,_,rfl⟩
      rw[List.take_add_one,ezi] at hw
      rcases List.mem_append.mp hw with e|e
      ·exact hn w e
      ·rw[Option.toList_some,List.mem_singleton] at e
       rw[e]
       unfold pts
       rw[decide_eq_true hq]
       rfl
     ·refine iteTK (congrArg not (decide_eq_false (fun e=>hq (V.bl.inj e)))) ⟨_,rfl,k y _ s07 ?_⟩
      rw[eL,find_at zs i z ezi hn (by unfold pts;rw[decide_eq_false hq];rfl)]
      exact hz
    ·rintro σ H8 ⟨rfl,hn,v6,rfl⟩
     refine⟨_,rfl,k p _ s07 ?_⟩
     have l3:zs.length=3:=by rw[ez];rfl
     rw[eL,List.find?_eq_none.mpr (fun y hy=>by rw[hn y (by rw[show[V.ref z1,V.ref z2,V.ref z3].length=3 from rfl,List.take_of_length_le (by omega)];exact hy)];exact Bool.false_ne_true)]
     exact s07 _ _ hp
end
end LN
namespace LN
open PySem L2 SO K20 K21 K60 K23 K24 K22
def MsAt (H:Hp)(many:Int)(hps:List Addr)(ms:List Rms):Prop:=hps.length=ms.length/\∀(i:Nat) (m:Rms),ms[i]?=some m->∃q,hps[i]?=some q/\MAt H q many m
theorem MsAt.ts {H H':Hp}{many:Int}{hps:List Addr}{ms:List Rms}(h:MsAt H many hps ms)(s:TSame H H'):MsAt H' many hps ms:=⟨h.1,fun i m e=>by
 obtain⟨q,h1,h2⟩:=h.2 i m e
 exact⟨q,h1,LN.MAt.ts h2 s⟩⟩
theorem MsAt.nil {H:Hp}{many:Int}:MsAt H many [] []:=⟨rfl,fun i m e=>by simp at e⟩
theorem MsAt.snoc {H:Hp}{many:Int}{hps:List Addr}{ms:List Rms}{q:Addr}{m:Rms}(h:MsAt H many hps ms)(e:MAt H q many m):MsAt H many (hps++[q]) (ms++[m]):=by
 refine⟨by rw[List.length_append,List.length_append,h.1];rfl,fun i n z=>?_⟩
 by_cases hi:i<ms.length
 ·rw[List.getElem?_append_left hi] at z
  obtain⟨t,e1,e2⟩:=h.2 i n z
  exact⟨t,by rw[List.getElem?_append_left (by rw[h.1];exact hi)];exact e1,e2⟩
 ·rw[List.getElem?_append_right (by omega)] at z
  have hl:=(List.getElem?_eq_some_iff.mp z).1
  rw[List.length_singleton] at hl
  have hi':i-ms.length=0:=by omega
  rw[hi'] at z
  cases z
  exact⟨q,by rw[List.getElem?_append_right (by rw[h.1];omega),h.1,hi'];rfl,e⟩
structure Mok (many:Int)(top:Nat)(ms:List Rms):Prop where
 can:∀m∈ms,Can many m/\m.length<=top
 up:∀(i:Nat) (m m':Rms),ms[i]?=some m->ms[i+1]?=some m'->m.length<m'.length
 len:ms.length<=top
theorem Mok.snoc {T:List Int->Bool}{many:Int}{top:Nat}{as:List (List Int)}{ms:List Rms}{m:Rms}(h:Mok many top ms)(d:Hand T many top as ms m):Mok many top (ms++[m]):=by
 refine⟨fun x hx=>?_,fun i a b e1 e2=>?_,by rw[List.length_append];have:=d.few;show ms.length+1<=top;omega⟩
 ·rcases List.mem_append.mp hx with z|z
  ·exact h.can x z
  ·rw[List.mem_singleton] at z
   subst z
   exact⟨d.can,d.le⟩
 ·by_cases hi:i+1<ms.length
  ·rw[List.getElem?_append_left (by omega)] at e1
   rw[List.getElem?_append_left hi] at e2
   exact h.up i a b e1 e2
  ·have hl:=(List.getElem?_eq_some_iff.mp e2).1
   rw[List.length_append,List.length_singleton] at hl
   rw[List.getElem?_append_right (by omega)] at e2
   have z:i+1-ms.length=0:=by omega
   rw[z] at e2
   cases e2
   rw[List.getElem?_append_left (by omega)] at e1
   refine d.more a ?_
   rw[List.getLast?_eq_getElem?,show ms.length-1=i by omega,e1]
   rfl
abbrev tM (M:Rms):List Int->Bool:=fun r=>gd M (walkM M 0 r)
theorem heads_le {many:Int}{M L:Rms}{hs tl:List (List Int)}(D:Hd many hs)(N:Nd (tM M) hs tl)(lt:∀t∈tl,Lts many t)(G:Good many L)(B:Bi M L many 0 0):hs.length<=L.length:=by
 have gp:=G.pos
 have q:(hs.map (walkM L 0)).Nodup:=by
  have N':=N
  unfold Nd at N'
  rw[List.Nodup,List.pairwise_map] at N' ⊢
  refine(List.pairwise_iff_getElem.mpr fun i j hi hj hij z=>?_)
  have z2:=(List.pairwise_iff_getElem.mp N') i j hi hj hij
  refine z2 (mks_iff.mpr fun t ht=>?_)
  have c:∀h∈hs,tM M (h++t)=gd L (walkM L (walkM L 0 h) t):=fun h hm=>by
   show gd M (walkM M 0 (h++t))=_
   rw[B (h++t) ((D.ltm hm).app (lt t ht))]
   unfold walkM
   rw[List.foldl_append]
  rw[c _ (List.getElem_mem hi),c _ (List.getElem_mem hj),z]
 have:=nodup_le L.length _ q fun x hx=>by
  obtain⟨h,hm,rfl⟩:=List.mem_map.mp hx
  exact walk_in G h 0 (Int.le_refl 0) (by omega) (D.ltm hm)
 rwa [List.length_map] at this
theorem pe_of_pex {X:Cx}{e:Expr}{t:TX}(h:PEX X e t):PE X e (fun σ H Q=>t σ H Q fun _ _ _ _=>False):=fun pins s σ H Q I hw=>wpAny_mono (h pins s σ H Q _ I hw) (fun _ _ z=>z) (fun _ _ ⟨_,_,_,_,_,_,_,_,_,_,z⟩=>z.elim)
def TCr (M:Rms)(many cell:Int)(i:Nat)(m:Rms)(o:Option (List Int)):Prop:=(o=none/\Bi M m many 0 0)\/∃r,First M m many 0 0 r/\r.length<=M.length*m.length/\o=some (longM M m many r (cell / (1+((i:Int)+1))))
theorem tcr_fu (M:Rms)(many cell:Int):Fu (TCr M many cell):=fun i m a b h1 h2=>by
 rcases h1 with⟨e1,b1⟩|⟨r1,f1,_,e1⟩
 ·rcases h2 with⟨e2,b2⟩|⟨r2,f2,_,e2⟩
  ·rw[e1,e2]
  ·exact absurd (b1 r2 f2.lts) f2.ne
 ·rcases h2 with⟨e2,b2⟩|⟨r2,f2,_,e2⟩
  ·exact absurd (b2 r1 f1.lts) f1.ne
  ·rw[e1,e2,f1.unique f2]
def TdAt (H:Hp)(vs:List V)(ts:Told):Prop:=vs.length=ts.length/\∀(i:Nat) (o:Option (List Int)),ts[i]?=some o->∃v,vs[i]?=some v/\((o=none/\v=.non)\/∃r p,o=some r/\v=.ref p/\RA H p r)
theorem TdAt.ts {H H':Hp}{vs:List V}{ts:Told}(h:TdAt H vs ts)(s:TSame H H'):TdAt H' vs ts:=⟨h.1,fun i o e=>by
 obtain⟨v,h1,h2⟩:=h.2 i o e
 refine⟨v,h1,?_⟩
 rcases h2 with z|⟨r,p,e1,e2,e3⟩
 ·exact .inl z
 ·exact .inr ⟨r,p,e1,e2,s _ _ e3⟩⟩
theorem TdAt.nil {H:Hp}:TdAt H [] []:=⟨rfl,fun i o e=>by simp at e⟩
theorem TdAt.snoc {H:Hp}{vs:List V}{ts:Told}{v:V}{o:Option (List Int)}(h:TdAt H vs ts)(e:(o=none/\v=.non)\/∃r p,o=some r/\v=.ref p/\RA H p r):TdAt H (vs++[v]) (ts++[o]):=by
 refine⟨by rw[List.length_append,List.length_append,h.1];rfl,fun i n z=>?_⟩
 by_cases hi:i<ts.length
 ·rw[List.getElem?_append_left hi] at z
  obtain⟨t,e1,e2⟩:=h.2 i n z
  exact⟨t,by rw[List.getElem?_append_left (by rw[h.1];exact hi)];exact e1,e2⟩
 ·have hl:=(List.getElem?_eq_some_iff.mp z).1
  rw[List.length_append,List.length_singleton] at hl
  rw[List.getElem?_append_right (by omega)] at z
  have hi':i-ts.length=0:=by omega
  rw[hi'] at z
  cases z
  exact⟨v,by rw[List.getElem?_append_right (by rw[h.1];omega),h.1,hi'];rfl,e⟩
structure Ta where
 mA:Addr
 asA:Addr
 hdA:Addr
 tdA:Addr
 cm:Addr
 cp:Addr
 com:Obj
 cop:Obj
def SA (t:Ta):Addr->Prop:=fun b=>b=t.asA\/b=t.hdA\/b=t.tdA\/b=t.cm\/b=t.cp
structure JA (t:Ta)(many cell:Int)(top:Nat)(M:Rms)(H:Hp)(as:List (List Int))(ms:List Rms)(ts:Told):Prop where
 mac:MAt H t.mA many M
 asd:∃aps:List Addr,H t.asA=some (.lst (aps.map V.ref))/\TupsAt H aps as
 hnd:∃hps:List Addr,H t.hdA=some (.lst (hps.map V.ref))/\MsAt H many hps ms
 tld:∃vs:List V,H t.tdA=some (.lst vs)/\TdAt H vs ts
 cm:H t.cm=some (CoO t.cm t.com)
 cp:H t.cp=some (CoO t.cp t.cop)
 ok:Mok many top ms
 len:ms.length=ts.length
 tc:Tc2 (TCr M many cell) ms ts
structure Td (t:Ta):Prop where
 d1:t.asA≠t.hdA
 d2:t.asA≠t.tdA
 d3:t.hdA≠t.tdA
theorem JA.stay {t:Ta}{many cell:Int}{top:Nat}{M:Rms}{H H':Hp}{as:List (List Int)}{ms:List Rms}{ts:Told}(j:JA t many cell top M H as ms ts)(h:∀a o,SA t a->H a=some o->H' a=some o)(s:TSame H H'):JA t many cell top M H' as ms ts:=by
 obtain⟨m,⟨aps,a1,a2⟩,⟨hps,b1,b2⟩,⟨vs,c1,c2⟩,e,f,g,l,tc⟩:=j
 exact⟨LN.MAt.ts m s,⟨aps,h _ _ (.inl rfl) a1,a2.tsame s⟩,⟨hps,h _ _ (.inr (.inl rfl)) b1,b2.ts s⟩,⟨vs,h _ _ (.inr (.inr (.inl rfl))) c1,c2.ts s⟩,h _ _ (.inr (.inr (.inr (.inl rfl)))) e,h _ _ (.inr (.inr (.inr (.inr rfl)))) f,g,l,tc⟩
theorem JA.trk {t:Ta}{many cell:Int}{top:Nat}{M:Rms}{H:Hp}{as:List (List Int)}{ms:List Rms}{ts:Told}(j:JA t many cell top M H as ms ts)(b:Addr)(h:SA t b):H b≠none:=by
 obtain⟨m,⟨aps,a1,a2⟩,⟨hps,b1,b2⟩,⟨vs,c1,c2⟩,e,f,g,_⟩:=j
 rcases h with z|z|z|z|z
 ·rw[z,a1];simp
 ·rw[z,b1];simp
 ·rw[z,c1];simp
 ·rw[z,e];simp
 ·rw[z,f];simp
abbrev JB (t:Ta)(many cell:Int)(top:Nat)(M:Rms):JT:=fun H as ms ts=>JA t many cell top M H as ms ts
abbrev sMay:Stmt:=(defBody sLe).getD 3 (.Pass ⟨0,0,0,0⟩)
abbrev sPar:Stmt:=(defBody sLe).getD 4 (.Pass ⟨0,0,0,0⟩)
abbrev qM:Str:=(("_law_lesson":Str)++(".<locals>.":Str))++("_law_may":Str)
abbrev qP:Str:=(("_law_lesson":Str)++(".<locals>.":Str))++("_law_parting":Str)
abbrev fM:List Str:=["_law_asked","_law_machine_here"]
abbrev fP:List Str:=["_law_cell","_law_handed","_law_machine_here","_law_told"]
theorem scMay:NScope ["_law_run_here"] [] fM (defScope sMay):=⟨rfl,rfl,rfl,by decide +kernel,by decide +kernel,by decide +kernel,by decide +kernel,by decide +kernel⟩
theorem scPar:NScope ["_law_other"] ["_law_run_here"] fP (defScope sPar):=⟨rfl,rfl,rfl,by decide +kernel,by decide +kernel,by decide +kernel,by decide +kernel,by decide +kernel⟩
abbrev AnsR (M:Rms):Rms->List Int->Prop:=fun m r=>gd m (walkM m 0 r)≠tM M r
section
variable {P:Program} {w:World} {K:W.Frag} {mg:Str->Option Value} {base:Heap}
variable {fG fT fL:Addr} {dG dT dL:FuncData}
theorem may_body (FG:Fun K "_law_good" "_law_good" sGo fG dG)(bG:Binds K dG pGo [])(gG:mg "_law_good"=some (.ref fG))(GG:FnOk P w K mg base CX0 1 fG dG pGo spLB)
  {t:Ta} (D:Td t) {many cell:Int} {top:Nat} {M:Rms} (GM:Good many M) {f c':Addr} (cl:List (Str×Addr)) (A:Around) (outer:List Env) (s:Shared) (H:Hp) (vs:List V) (Q:VK) (E:XK)
  (hr:Room 2 (A.deeper (W.envX qM (defScope sMay) s.heap.objs.size f (.ref c') cl))) (h:spMay (SA t) (JB t many cell top M) (tM M) many vs H Q E):
  ∃tt,PSs (cxN CX0 P w K mg base ((["_law_run_here"]:List Str)++[]++fM) qM (defScope sMay) f (.ref c') cl A outer s H E) (defBody sMay) tt/\tt { nx:=fun _ H'=>Q .non H',rt:=Q } (startN vs 0 [.ref t.asA,.ref t.mA]) H:=by
 obtain⟨p,r,as,ms,ts',rfl,hp,hlr,j,hm,hl,k⟩:=h
 have hr1:Room 1 _:=hr.mono (by decide)
 refine⟨_,pss_cons (ps_expr (pe_bm PySem.F.plainAttrs_list PySem.F.slot_list_append PySem.F.type_list_append mt_append (pv 1) (pa_cons (pv 0) pa_nil)))
  (pss_one (ps_ret (pe_call GG hr1 rfl gG FG.kp bG .nil pass0 (pa_cons (pv 2) (pa_cons (pv 0) pa_nil))))),?_⟩
 obtain⟨mm,⟨aps,a1,a2⟩,⟨hps,b1,b2⟩,⟨us,c1,c2⟩,e,f',g,l,tc⟩:=id j
 have la:aps.length=as.length:=a2.1
 refine⟨_,rfl,.inl ⟨rfl,_,SqL.of a1⟩,_,rfl,t.asA,_,_,rfl,rfl,a1,by rw[List.length_map,la];exact Nat.lt_trans hl (by decide),?_⟩
 have ts:TSame H (upd H t.asA (.lst (aps.map V.ref++[.ref p]))):=fun b xs z=>by rw[upd_ne (ne_of z a1 (fun z=>by cases z))];exact z
 have s1:Sb (SA t) H (upd H t.asA (.lst (aps.map V.ref++[.ref p]))):=Sb.refl.upd (.inl rfl) a1 (fun _ z=>by cases z)
 refine⟨_,rfl,_,rfl,t.mA,p,many,M,r,rfl,LN.MAt.ts mm ts,GM,ts _ _ hp,hlr,?_⟩
 exact k _ s1 ⟨LN.MAt.ts mm ts,⟨aps++[p],by rw[upd_same,List.map_append];rfl,tups_snoc (a2.tsame ts) (ts _ _ hp)⟩,⟨hps,by rw[upd_ne (Ne.symm D.d1)];exact b1,b2.ts ts⟩,⟨us,by rw[upd_ne (Ne.symm D.d2)];exact c1,c2.ts ts⟩,by rw[upd_ne (fun z=>by rw[z,a1] at e;cases e)];exact e,by rw[upd_ne (fun z=>by rw[z,a1] at f';cases f')];exact f',g,l,tc⟩
theorem par_body (FT:Fun K "_law_part" "_law_part" sPt fT dT)(bT:Binds K dT pPt [])(gT:mg "_law_part"=some (.ref fT))(GT:FnOk P w K mg base CX0 1 fT dT pPt spPt)
  (FL:Fun K "_law_longer" "_law_longer" sLo fL dL) (bL:Binds K dL pLo []) (gL:mg "_law_longer"=some (.ref fL)) (GL:FnOk P w K mg base CX0 2 fL dL pLo spLo) (len:mg "len"=none)
  {t:Ta} (D:Td t) {many cell:Int} {top:Nat} (t8:top<=8) {M:Rms} (GM:Good many M) (M6:M.length<=6) {f c':Addr} (cl:List (Str×Addr)) (A:Around) (outer:List Env) (s:Shared) (H:Hp) (vs:List V) (Q:VK) (E:XK)
  (hr:Room 2 (A.deeper (W.envX qP (defScope sPar) s.heap.objs.size f (.ref c') cl))) (h:spPar (SA t) (JB t many cell top M) (tM M) many top (AnsR M) vs H Q E):
  ∃tt,PSs (cxN CX0 P w K mg base ((["_law_other"]:List Str)++(["_law_run_here"]:List Str)++fP) qP (defScope sPar) f (.ref c') cl A outer s H E) (defBody sPar) tt/\tt { nx:=fun _ H'=>Q .non H',rt:=Q } (startN vs 1 [.int cell,.ref t.hdA,.ref t.mA,.ref t.tdA]) H:=by
 obtain⟨a,m,as,ms,ts',rfl,hM,j,hd,k1,k2⟩:=h
 have hr1:Room 1 _:=hr.mono (by decide)
 have nd:((["_law_other"]:List Str)++(["_law_run_here"]:List Str)++fP).Nodup:=scPar.nd
 refine⟨_,pss_cons (ps_expr (pe_bm PySem.F.plainAttrs_list PySem.F.slot_list_append PySem.F.type_list_append mt_append (pv 3) (pa_cons (pv 0) pa_nil)))
  (pss_cons (ps_set (i:=1) nd rfl (Or.inl rfl) (pe_call GL hr rfl gL FL.kp bL .nil pass0 (pa_cons (pv 4) (pa_cons (pv 0) (pa_cons (pe_call GT hr1 rfl gT FT.kp bT .nil pass0 (pa_cons (pv 4) (pa_cons (pv 0) pa_nil))) (pa_cons (pe_op op_fdiv (pv 2) (pe_op op_add pe_int (pe_callB call_len_seq (by rfl) len PySem.boot_len (pa_cons (pv 3) pa_nil)))) pa_nil))))))
  (pss_cons (ps_expr (pe_bm PySem.F.plainAttrs_list PySem.F.slot_list_append PySem.F.type_list_append mt_append (pv 5) (pa_cons (pv 1) pa_nil)))
  (pss_one (ps_ret (pv 1))))),?_⟩
 obtain⟨mm,⟨aps,a1,a2⟩,⟨hps,b1,b2⟩,⟨us,c1,c2⟩,e,f',g,l,tc⟩:=id j
 have lh:hps.length=ms.length:=b2.1
 have few:=hd.few
 have mle:=hd.le
 have mn:=GM.mn
 refine⟨_,rfl,.inl ⟨rfl,_,SqL.of b1⟩,_,rfl,t.hdA,_,_,rfl,rfl,b1,small1000 (by rw[List.length_map];omega),?_⟩
 have ts:TSame H (upd H t.hdA (.lst (hps.map V.ref++[.ref a]))):=fun b xs z=>by rw[upd_ne (ne_of z b1 (fun z=>by cases z))];exact z
 have s1:Sb (SA t) H (upd H t.hdA (.lst (hps.map V.ref++[.ref a]))):=Sb.refl.upd (.inr (.inl rfl)) b1 (fun _ z=>by cases z)
 have x1:upd H t.hdA (.lst (hps.map V.ref++[.ref a])) t.hdA=some (.lst ((hps++[a]).map V.ref)):=by rw[upd_same,List.map_append];rfl
 have y1:upd H t.hdA (.lst (hps.map V.ref++[.ref a])) t.asA=some (.lst (aps.map V.ref)):=by rw[upd_ne D.d1];exact a1
 have w1:upd H t.hdA (.lst (hps.map V.ref++[.ref a])) t.tdA=some (.lst us):=by rw[upd_ne (Ne.symm D.d3)];exact c1
 have e1:upd H t.hdA (.lst (hps.map V.ref++[.ref a])) t.cm=some (CoO t.cm t.com):=by rw[upd_ne (fun z=>by rw[z,b1] at e;cases e)];exact e
 have f1:upd H t.hdA (.lst (hps.map V.ref++[.ref a])) t.cp=some (CoO t.cp t.cop):=by rw[upd_ne (fun z=>by rw[z,b1] at f';cases f')];exact f'
 generalize upd H t.hdA (.lst (hps.map V.ref++[.ref a]))=H1 at ts s1 x1 y1 w1 e1 f1 ⊢
 have mac1:=LN.MAt.ts mm ts
 have hM1:=LN.MAt.ts hM ts
 have hmul:M.length*m.length<=6*8:=Nat.mul_le_mul M6 (by omega)
 have lus:us.length=ts'.length:=c2.1
 have fin:∀(v:V) (o:Option (List Int)) (H2:Hp),Same H1 H2->((o=none/\v=.non)\/∃r p,o=some r/\v=.ref p/\RA H2 p r)->TCr M many cell ms.length m o→
   Sb (SA t) H (upd H2 t.tdA (.lst (us++[v])))/\JA t many cell top M (upd H2 t.tdA (.lst (us++[v]))) as (ms++[m]) (ts'++[o])/\TSame H2 (upd H2 t.tdA (.lst (us++[v]))):=fun v o H2 s2 hv hc=>by
  have w2:=s2 _ _ w1
  have ts2:TSame H2 (upd H2 t.tdA (.lst (us++[v]))):=fun b xs z=>by rw[upd_ne (ne_of z w2 (fun z=>by cases z))];exact z
  have tsx:=ts.trans (s2.tups.trans ts2)
  refine⟨(s1.same s2).upd (.inr (.inr (.inl rfl))) w2 (fun _ z=>by cases z),⟨LN.MAt.ts mm tsx,⟨aps,by rw[upd_ne D.d2];exact s2 _ _ y1,a2.tsame tsx⟩,⟨hps++[a],by rw[upd_ne D.d3];exact s2 _ _ x1,(b2.ts tsx).snoc (LN.MAt.ts hM tsx)⟩,⟨us++[v],upd_same,(c2.ts tsx).snoc ?_⟩,by rw[upd_ne (fun z=>by rw[z,w1] at e1;cases e1)];exact s2 _ _ e1,by rw[upd_ne (fun z=>by rw[z,w1] at f1;cases f1)];exact s2 _ _ f1,g.snoc hd,by rw[List.length_append,List.length_append,l];rfl,tc.add l hc⟩,ts2⟩
  rcases hv with z|⟨r,p,z1,z2,z3⟩
  ·exact .inl z
  ·exact .inr ⟨r,p,z1,z2,ts2 _ _ z3⟩
 have ll:((hps++[a]).map V.ref).length=ms.length+1:=by rw[List.length_map,List.length_append,lh];rfl
 refine⟨_,rfl,_,rfl,_,rfl,_,rfl,t.mA,a,many,M,m,rfl,mac1,hM1,GM,hd.can.good,by omega,fun H2 s2 hB=>?_,fun p r H2 s2 hp hF hl=>?_⟩
 ·refine⟨_,rfl,_,rfl,t.hdA,_,rfl,.inl (SqL.of (s2 _ _ x1)),_,_,rfl,rfl,_,_,rfl,rfl,⟨by omega,by omega⟩,?_⟩
  refine⟨t.mA,a,many,_,M,m,.non,rfl,LN.MAt.ts mac1 s2.tups,LN.MAt.ts hM1 s2.tups,GM,hd.can.good,.inl ⟨rfl,?_⟩⟩
  obtain⟨q1,q2,q3⟩:=fin .non none H2 s2 (.inl ⟨rfl,rfl⟩) (.inl ⟨rfl,hB⟩)
  refine⟨_,rfl,.inl ⟨rfl,_,SqL.of (s2 _ _ w1)⟩,_,rfl,t.tdA,_,_,rfl,rfl,s2 _ _ w1,small1000 (by omega),?_⟩
  exact⟨_,rfl,k1 _ q1 q2⟩
 ·refine⟨_,rfl,_,rfl,t.hdA,_,rfl,.inl (SqL.of (s2 _ _ x1)),_,_,rfl,rfl,_,_,rfl,rfl,⟨by omega,by omega⟩,?_⟩
  rw[ll]
  refine⟨t.mA,a,many,_,M,m,.ref p,rfl,LN.MAt.ts mac1 s2.tups,LN.MAt.ts hM1 s2.tups,GM,hd.can.good,.inr ⟨p,r,rfl,hp,hF.lts,by omega,fun p' H3 s3 hp'=>?_⟩⟩
  obtain⟨lo1,lo2,lo3⟩:=longM_ok (c:=cell / (1+((ms.length:Int)+1))) mn.1 hF.lts hF.ne
  have hc:TCr M many cell ms.length m (some (longM M m many r (cell / (1+((ms.length:Int)+1))))):=.inr ⟨r,hF,hl,rfl⟩
  have hp2:RA H3 p' (longM M m many r (cell / (1+((ms.length:Int)+1)))):=hp'
  generalize longM M m many r (cell / (1+((ms.length:Int)+1)))=z at lo1 lo2 lo3 hc hp2
  have s13:=s2.trans s3
  obtain⟨q1,q2,q3⟩:=fin (.ref p') (some z) H3 s13 (.inr ⟨z,p',rfl,rfl,hp2⟩) hc
  refine⟨_,rfl,.inl ⟨rfl,_,SqL.of (s13 _ _ w1)⟩,_,rfl,t.tdA,_,_,rfl,rfl,s13 _ _ w1,small1000 (by omega),?_⟩
  exact⟨_,rfl,k2 _ p' z q1 q2 (q3 _ _ hp2) lo1 (by omega) (fun y=>lo3 y.symm)⟩
end
end LN
namespace L2
open PySem PyProof
def codeOf (K:W.Frag)(f:Addr):Option Addr:=match K.lookup f with
 |some ⟨_,_,.func fd,_⟩=>(match fd.code with | .ref c=>some c|_=>none)
 |_=>none
theorem Fun.okT {P:Program}{w:World}{K:W.Frag}{mg:Str->Option Value}{base:Heap}{x qual:Str}{st:Stmt}{f c:Addr}{fd:FuncData}{N ps:List Str}{k:Nat}{sp:Sp}(F:Fun K x qual st f fd)(hc:codeOf K f=some c)(S:FnScope N ps (defScope st))(len:∀vs H Q E,sp vs H Q E->vs.length=ps.length)
  (hbody:∀(A:Around) (outer:List Env) (s:Shared) (H:Hp) (vs:List V) (Q:VK) (E:XK),Room k (A.deeper (PyProof.Rows.envOfC qual (defScope st) s.heap.objs.size f (.ref c)))->sp vs H Q E→
   ∃t,PSs (cxOf CX0 P w K mg base N qual (defScope st) f (.ref c) A outer s H E).nox (defBody st) t/\t { nx:=fun _ H'=>Q .non H',rt:=Q } (start N vs) H):FnOk P w K mg base CX0 (k+1) f fd ps sp:=by
 obtain⟨oc,od,kV,doc,pm,an,cdv,ct,osl,rfl,lk,hcd⟩:=F.ex
 have e:cdv=.ref c:=by
  unfold codeOf at hc
  rw[lk] at hc
  cases cdv with
  |ref c'=>cases hc;rfl
  |_=>cases hc
 subst e
 refine fn_of lk hcd S len fun A outer s H vs Q E hr hsp=>?_
 obtain⟨t,h,q⟩:=hbody A outer s H vs Q E hr hsp
 exact⟨t,h.nox,q⟩
end L2
namespace LN
open PySem L2 SO K20 K21 K60 K23 K24 K22
def posOf:Stmt->Pos
 |.FunctionDef _ _ _ _ _ _ _ _ _ p=>p
 |_=>⟨0,0,0,0⟩
def Tab2 (Pt:Addr)(H:Hp)(c1 c2:Addr)(co1 co2:Obj):Prop:=∃ps:Array Value,H Pt=some (.tbl ps)/\TriplesOk ps.toList/\codeAmong (posOf sMay) ps.toList=some (.ref c1)/\codeAmong (posOf sPar) ps.toList=some (.ref c2)/\H c1=some (CoO c1 co1)/\IsCo co1 qM/\H c2=some (CoO c2 co2)/\IsCo co2 qP
def TabSt (Pt:Addr)(H:Hp):Prop:=H Pt=some (.tbl #[])\/∃c1 c2 co1 co2,Tab2 Pt H c1 c2 co1 co2
theorem TabSt.same {Pt:Addr}{H H':Hp}(h:TabSt Pt H)(s:Same H H'):TabSt Pt H':=by
 rcases h with h|⟨c1,c2,co1,co2,ps,h1,h2,h3,h4,h5,h6,h7,h8⟩
 ·exact .inl (s _ _ h)
 ·exact .inr ⟨c1,c2,co1,co2,ps,s _ _ h1,h2,h3,h4,s _ _ h5,h6,s _ _ h7,h8⟩
structure Les (H:Hp)(q:Addr)(many cell most:Int)(M:Rms)(fa mmA asA hdA tdA:Addr)(as:List (List Int))(ms:List Rms)(m:Rms)(ts:Told):Prop where
 tup:H q=some (.tup [.ref fa,.ref asA,.ref hdA,.ref tdA])
 fnd:H fa=some (.tup [.ref mmA,.int as.length])
 mac:MAt H mmA many m
 asd:∃aps:List Addr,H asA=some (.lst (aps.map V.ref))/\TupsAt H aps as
 hnd:∃hps:List Addr,H hdA=some (.lst (hps.map V.ref))/\MsAt H many hps (ms++[m])
 tld:∃vs:List V,H tdA=some (.lst vs)/\TdAt H vs (ts++[none])
 ok:Mok many most.toNat (ms++[m])
 tc:Tc2 (TCr M many cell) (ms++[m]) (ts++[none])
 fin:Fin (tM M) many as ms m ts
 cnt:as.length<=m.length*((1+sumT ts)*(many.toNat+1))
 le:m.length<=M.length
def spLe (Pt:Addr):Sp:=fun vs H Q _=>∃(mA:Addr) (many cell most:Int) (M:Rms) (vm:V),vs=[.ref mA,.int cell,vm]/\TabSt Pt H/\MAt H mA many M/\Good many M/\M.length<=6/\((vm=.non/\most=6)\/vm=.int most)/\6<=most/\most<=8∧
 ∀H' q fa mmA asA hdA tdA as ms m ts,Sb (fun b=>b=Pt) H H'->TabSt Pt H'->Les H' q many cell most M fa mmA asA hdA tdA as ms m ts->Q (.ref q) H'
section
variable {P:Program} {w:World} {K:W.Frag} {mg:Str->Option Value} {base:Heap} {CG CP:Addr}
abbrev nLe:List Str:=["_law_machine_here","_law_cell","_law_most","_law_asked","_law_handed","_law_told","_law_may","_law_parting","_law_found"]
abbrev pLe:List Str:=["_law_machine_here","_law_cell","_law_most"]
theorem scLe:FnScope nLe pLe (defScope sLe):=.of (by decide +kernel)
theorem frM:∀y∈(defScope sMay).names,y.2=.free->(defScope sLe).names.lookup y.1=some .cell:=by decide +kernel
theorem frP:∀y∈(defScope sPar).names,y.2=.free->(defScope sLe).names.lookup y.1=some .cell:=by decide +kernel
theorem ok_le {its:Array Value}{d6:Value}(F:Fun K "_law_lesson" "_law_lesson" sLe f fd)(hc:codeOf K f=some c)(C:W.CodeHd base c Pt)(B:BltAt mg base)(len:mg "len"=none)
  (FG:Fun K "_law_good" "_law_good" sGo fG dG) (bG:Binds K dG pGo []) (gG:mg "_law_good"=some (.ref fG))
  (FT:Fun K "_law_part" "_law_part" sPt fT dT) (bT:Binds K dT pPt []) (gT:mg "_law_part"=some (.ref fT)) (GT:∀base,FnOk P w K mg base CX0 1 fT dT pPt spPt)
  (FO:Fun K "_law_longer" "_law_longer" sLo fO dO) (bO:Binds K dO pLo []) (gO:mg "_law_longer"=some (.ref fO)) (GO:∀base,FnOk P w K mg base CX0 2 fO dO pLo spLo)
  (FL:FunD K "learnt" "learnt" sLt fL dL its) (bL:Binds K dL ["many","may","parting","most"] []) (bL1:Binds K dL ["many","may","parting","most"] [d6]) (r6:RelV (.int 6) d6) (gL:mg "learnt"=some (.ref fL)) (GL:∀base,FnOk P w K mg base (CX1 P w) 8 fL dL ["many","may","parting","most"] (spLt P w K mg base CG CP 3)):
  FnOk P w K mg base CX0 9 f fd pLe (spLe Pt):=by
 refine F.okT hc scLe (fun vs H Q E h=>?_) (fun A outer s H vs Q E hr h=>?_)
 ·obtain⟨_,_,_,_,_,_,rfl,_⟩:=h
  rfl
 ·obtain⟨mA,many,cell,most,M,vm,rfl,hTab,mac,GM,M6,hvm,o6,o8,k⟩:=h
  refine⟨_,pss_cons (ps_set (i:=3) scLe.nd rfl (Or.inr rfl) (pe_lst pa_nil)) (pss_cons (ps_set (i:=4) scLe.nd rfl (Or.inr rfl) (pe_lst pa_nil)) (pss_cons (ps_set (i:=5) scLe.nd rfl (Or.inr rfl) (pe_lst pa_nil))
   (pss_def (P:=Pt) (qual:=qM) (i:=6) scLe.nd rfl (Or.inl rfl) rfl C B (fun y hy hf=>cell_has (frM y hy hf)) rfl rfl rfl rfl (fun f1 c1 doc1 ctv1=>
    pss_def (P:=Pt) (qual:=qP) (i:=7) scLe.nd rfl (Or.inl rfl) rfl C B (fun y hy hf=>cell_has (frP y hy hf)) rfl rfl rfl rfl (fun f2 c2 doc2 ctv2=>
     pss_cons (ps_if (pt_cmpR op_isN (pv 2) pe_non (nomark _))
      (pss_one (ps_set (i:=8) scLe.nd rfl (Or.inl rfl) (pe_of_pex (pex_callB (dvs:=[.int 6]) (ds:=[d6]) (fun _=>rfl) GL hr rfl gL FL.kp bL1 (.cons r6 .nil) (pa_cons (pe_ix ix_tup (pv 0) pe_int (fun _ _=>rfl)) (pa_cons (pv 6) (pa_cons (pv 7) pa_nil)))))))
      (pss_one (ps_set (i:=8) scLe.nd rfl (Or.inl rfl) (pe_of_pex (pex_callB (fun _=>rfl) GL hr rfl gL FL.kp bL .nil (pa_cons (pe_ix ix_tup (pv 0) pe_int (fun _ _=>rfl)) (pa_cons (pv 6) (pa_cons (pv 7) (pa_cons (pv 2) pa_nil)))))))))
     (pss_one (ps_ret (pe_tup (pa_cons (pv 8) (pa_cons (pv 3) (pa_cons (pv 4) (pa_cons (pv 5) pa_nil)))))))))))),?_⟩
  refine⟨Nat.zero_le _,fun asA hasA=>?_⟩
  have s1:Same H (upd H asA (.lst [])):=(Same.refl H).upd_free hasA
  have q1:upd H asA (.lst []) asA=some (.lst []):=upd_same
  generalize upd H asA (.lst [])=H1 at s1 q1 ⊢
  refine⟨Nat.zero_le _,fun hdA hhdA=>?_⟩
  have s2:Same H1 (upd H1 hdA (.lst [])):=(Same.refl H1).upd_free hhdA
  have q2:upd H1 hdA (.lst []) hdA=some (.lst []):=upd_same
  generalize upd H1 hdA (.lst [])=H2 at s2 q2 ⊢
  refine⟨Nat.zero_le _,fun tdA htdA=>?_⟩
  have s3:Same H2 (upd H2 tdA (.lst [])):=(Same.refl H2).upd_free htdA
  have q3:upd H2 tdA (.lst []) tdA=some (.lst []):=upd_same
  generalize upd H2 tdA (.lst [])=H3 at s3 q3 ⊢
  have s13:=s2.trans s3
  have s03:=s1.trans s13
  have e1:asA≠hdA:=fun z=>by rw[<- z,q1] at hhdA;cases hhdA
  have e2:asA≠tdA:=fun z=>by rw[<- z,s2 _ _ q1] at htdA;cases htdA
  have e3:hdA≠tdA:=fun z=>by rw[<- z,q2] at htdA;cases htdA
  have a3:=s13 _ _ q1
  have h3:=s3 _ _ q2
  have fas:H asA=none:=hasA
  have fhd:H hdA=none:=s1.free hhdA
  have ftd:H tdA=none:=(s1.trans s2).free htdA
  have core:∀{H5:Hp} {c1 c2:Addr} {co1 co2:Obj},Sb (fun b=>b=Pt) H3 H5->Tab2 Pt H5 c1 c2 co1 co2->H5 asA=some (.lst [])->H5 hdA=some (.lst [])->H5 tdA=some (.lst [])→
    JA ⟨mA,asA,hdA,tdA,c1,c2,co1,co2⟩ many cell most.toNat M H5 [] [] []∧
    ∀(H':Hp) (q mm:Addr) (as:List (List Int)) (ms:List Rms) (m:Rms) (ts:Told),Sb (SA ⟨mA,asA,hdA,tdA,c1,c2,co1,co2⟩) H5 H'->JA ⟨mA,asA,hdA,tdA,c1,c2,co1,co2⟩ many cell most.toNat M H' as (ms++[m]) (ts++[none])->MAt H' mm many m->H' q=some (.tup [.ref mm,.int as.length])→
     as.length<=m.length*((1+sumT ts)*(many.toNat+1))->Fin (tM M) many as ms m ts->(∃hs,Hd many hs/\m.length=hs.length/\∃tl,Nd (tM M) hs tl/\∀t∈tl,Lts many t)→
     ([.ref q,.ref asA,.ref hdA,.ref tdA]:List V).length<=sizeLine/\∀p,H' p=none->Q (.ref p) (upd H' p (.tup [.ref q,.ref asA,.ref hdA,.ref tdA])):=fun {H5 c1 c2 co1 co2} sb5 tab x1 x2 x3=>by
   obtain⟨ps,p1,p2,p3,p4,p5,p6,p7,p8⟩:=id tab
   have ts05:TSame H H5:=fun b xs e=>sb5.1 _ _ (s03 _ _ e)
   refine⟨⟨LN.MAt.ts mac ts05,⟨[],x1,tups_nil⟩,⟨[],x2,MsAt.nil⟩,⟨[],x3,TdAt.nil⟩,p5,p7,⟨fun m hm=>by(cases hm),fun i m m' e=>by simp at e,Nat.zero_le _⟩,rfl,fun i m o e=>by simp at e⟩,fun H' q mm as ms m ts sb j hM hq hcnt hfin hhd=>⟨by show 4<=sizeLine;decide,fun p hp=>?_⟩⟩
   have sp:Same H' (upd H' p (.tup [.ref q,.ref asA,.ref hdA,.ref tdA])):=(Same.refl H').upd_free hp
   obtain⟨jm,⟨aps,a1,a2⟩,⟨hps,b1,b2⟩,⟨us,c1',c2'⟩,jcm,jcp,g,l,tc⟩:=id j
   obtain⟨hs,D1,el,tl,N1,lt1⟩:=hhd
   have hle:=heads_le D1 N1 lt1 GM (fun _ _=>rfl)
   have keep:∀b o,b≠Pt->H b=some o->H' b=some o:=fun b o nb e=>by
    have h5:=sb5.2 b o nb (s03 _ _ e)
    by_cases z:SA ⟨mA,asA,hdA,tdA,c1,c2,co1,co2⟩ b
    ·rcases z with z|z|z|z|z
     ·have z':b=asA:=z
      rw[z',fas] at e;cases e
     ·have z':b=hdA:=z
      rw[z',fhd] at e;cases e
     ·have z':b=tdA:=z
      rw[z',ftd] at e;cases e
     ·have z':b=c1:=z
      rw[z',p5] at h5
      cases h5
      rw[z']
      exact jcm
     ·have z':b=c2:=z
      rw[z',p7] at h5
      cases h5
      rw[z']
      exact jcp
    ·exact sb.2 b o z h5
   have hPt:H' Pt=some (.tbl ps):=sb.2 Pt _ (fun z=>by
    rcases z with z|z|z|z|z
    ·have z':Pt=asA:=z
     rw[z',x1] at p1;cases p1
    ·have z':Pt=hdA:=z
     rw[z',x2] at p1;cases p1
    ·have z':Pt=tdA:=z
     rw[z',x3] at p1;cases p1
    ·have z':Pt=c1:=z
     rw[z',p5] at p1;cases p1
    ·have z':Pt=c2:=z
     rw[z',p7] at p1;cases p1) p1
   have tab':TabSt Pt H':=.inr ⟨c1,c2,co1,co2,ps,hPt,p2,p3,p4,jcm,p6,jcp,p8⟩
   exact k _ p q mm asA hdA tdA as ms m ts ⟨fun b xs e=>sp _ _ (sb.1 _ _ (ts05 _ _ e)),fun b o nb e=>sp _ _ (keep b o nb e)⟩ (tab'.same sp) ⟨upd_same,sp _ _ hq,LN.MAt.ts hM sp.tups,⟨aps,sp _ _ a1,a2.tsame sp.tups⟩,⟨hps,sp _ _ b1,b2.ts sp.tups⟩,⟨us,sp _ _ c1',c2'.ts sp.tups⟩,g,tc,hfin,hcnt,by omega⟩
  rcases hTab with hPt|⟨c1,c2,co1,co2,tab⟩
  ·have P3:=s03 _ _ hPt
   refine⟨#[],P3,by simp[TriplesOk],.inl ⟨by rfl,fun f1 c1 co1 doc1 ctv1 hco1 hc1 hf1 nf1=>?_⟩⟩
   have nPc1:Pt≠c1:=ne_of_none P3 hc1
   generalize htb1:(#[]++#[rawInt _,rawInt _,Value.ref c1]:Array Value)=tb1
   have k4:∀b o,b≠Pt->H3 b=some o->upd (upd H3 Pt (.tbl tb1)) c1 (CoO c1 co1) b=some o:=fun b o n e=>by rw[upd_ne (ne_of_none e hc1),upd_ne n];exact e
   have P4:upd (upd H3 Pt (.tbl tb1)) c1 (CoO c1 co1) Pt=some (.tbl tb1):=by rw[upd_ne nPc1,upd_same]
   have C4:upd (upd H3 Pt (.tbl tb1)) c1 (CoO c1 co1) c1=some (CoO c1 co1):=upd_same
   generalize upd (upd H3 Pt (.tbl tb1)) c1 (CoO c1 co1)=H4 at k4 P4 C4 ⊢
   refine⟨tb1,P4,by rw[<- htb1];simp[TriplesOk,rawInt],.inl ⟨by rw[<- htb1];simp[codeAmong,rawInt],fun f2 c2 co2 doc2 ctv2 hco2 hc2 hf2 nf2=>?_⟩⟩
   have nPc2:Pt≠c2:=ne_of_none P4 hc2
   generalize htb2:(tb1++#[rawInt _,rawInt _,Value.ref c2]:Array Value)=tb2
   have k5:∀b o,b≠Pt->H4 b=some o->upd (upd H4 Pt (.tbl tb2)) c2 (CoO c2 co2) b=some o:=fun b o n e=>by rw[upd_ne (ne_of_none e hc2),upd_ne n];exact e
   have P5:upd (upd H4 Pt (.tbl tb2)) c2 (CoO c2 co2) Pt=some (.tbl tb2):=by rw[upd_ne nPc2,upd_same]
   have C5:upd (upd H4 Pt (.tbl tb2)) c2 (CoO c2 co2) c2=some (CoO c2 co2):=upd_same
   generalize upd (upd H4 Pt (.tbl tb2)) c2 (CoO c2 co2)=H5 at k5 P5 C5 ⊢
   have c15:=k5 c1 _ (fun z=>by rw[z,P4] at C4;cases C4) C4
   have kk:∀b o,(∀ps,o≠.tbl ps)->H3 b=some o->H5 b=some o:=fun b o n e=>by
    have nb:b≠Pt:=fun z=>by rw[z,P3] at e;exact n _ (Option.some.inj e).symm
    exact k5 b o nb (k4 b o nb e)
   have sb5:Sb (fun b=>b=Pt) H3 H5:=⟨fun b xs e=>kk b _ (fun _ z=>by cases z) e,fun b o n e=>k5 b o n (k4 b o n e)⟩
   have tab:Tab2 Pt H5 c1 c2 co1 co2:=⟨tb2,P5,by rw[<- htb2,<- htb1];simp[TriplesOk,rawInt],by rw[<- htb2,<- htb1];simp[codeAmong,rawInt,posOf,defBody,sLe,top,PySem.Challenge.pw_logloom_k30_learnt],by rw[<- htb2,<- htb1];simp[codeAmong,rawInt,posOf,defBody,sLe,top,PySem.Challenge.pw_logloom_k30_learnt],c15,hco1,C5,hco2⟩
   let t:Ta:=⟨mA,asA,hdA,tdA,c1,c2,co1,co2⟩
   have D:Td t:=⟨e1,e2,e3⟩
   obtain⟨j0,fin⟩:=core sb5 tab (kk asA _ (fun _ z=>by cases z) a3) (kk hdA _ (fun _ z=>by cases z) h3) (kk tdA _ (fun _ z=>by cases z) q3)
   obtain⟨pr,qs,m1,m2,m3⟩:=LN.MAt.ts (LN.MAt.ts mac s03.tups) sb5.1
   rcases hvm with⟨rfl,rfl⟩|rfl
   ·refine⟨_,rfl,rfl,_,rfl,iteTK (by rfl) ?_⟩
    refine⟨_,rfl,mA,_,_,_,rfl,rfl,SqT.of m1,rfl,_,rfl,_,rfl,fun base' nb=>?_⟩
    refine⟨SA t,JB t many cell (6:Int).toNat M,tM M,AnsR M,f1,f2,many,6,rfl,⟨fun H H' as ms ts j h s=>j.stay h s,fun H as ms ts j=>j.trk,?_,?_⟩,j0,GM.mn.1,GM.mn.2,by omega,by omega,fun H' q mm as ms m ts sb j hM hq hcnt hfin hhd=>?_,fun d H' as ms ts sb j hd hx htr=>?_,fun d H' as ms ts m p r sb j hp hne heq hd=>absurd heq hne⟩
    ·refine⟨_,"_law_run_here",_,nb.pin _ (List.mem_cons_of_mem _ List.mem_cons_self),rfl,fn_nestB (k:=2) (fv:=[.ref asA,.ref mA]) nb (List.mem_cons_of_mem _ List.mem_cons_self) scMay rfl (fun j x v h1 h2=>?_) (fun vs H Q E h=>?_) (fun vs H Q E h=>?_)
      (fun cl A outer s H vs Q E hr h=>may_body FG bG gG (ok_go FG) D GM cl A outer s H vs Q E hr h),Binds.all fun us hl=>match us,hl with | [_],_=>rfl⟩
     ·match j,h1,h2 with
      |0,h1,h2=>cases h1;cases h2;exact⟨3,rfl,rfl,rfl⟩
      |1,h1,h2=>cases h1;cases h2;exact⟨0,rfl,rfl,rfl⟩
      |j+2,h1,h2=>simp at h1
     ·obtain⟨_,_,_,_,_,rfl,_⟩:=h
      rfl
     ·obtain⟨_,_,_,_,_,_,_,_,j,_⟩:=h
      exact⟨co1,j.cm,hco1⟩
    ·refine⟨_,"_law_other",_,nb.pin _ List.mem_cons_self,rfl,fn_nestB (k:=2) (fv:=[.int cell,.ref hdA,.ref mA,.ref tdA]) nb List.mem_cons_self scPar rfl (fun j x v h1 h2=>?_) (fun vs H Q E h=>?_) (fun vs H Q E h=>?_)
      (fun cl A outer s H vs Q E hr h=>par_body FT bT gT (GT base') FO bO gO (GO base') len D (by omega) GM M6 cl A outer s H vs Q E hr h),Binds.all fun us hl=>match us,hl with | [_],_=>rfl⟩
     ·match j,h1,h2 with
      |0,h1,h2=>cases h1;cases h2;exact⟨1,rfl,rfl,rfl⟩
      |1,h1,h2=>cases h1;cases h2;exact⟨4,rfl,rfl,rfl⟩
      |2,h1,h2=>cases h1;cases h2;exact⟨0,rfl,rfl,rfl⟩
      |3,h1,h2=>cases h1;cases h2;exact⟨5,rfl,rfl,rfl⟩
      |j+4,h1,h2=>simp at h1
     ·obtain⟨_,_,_,_,_,rfl,_⟩:=h
      rfl
     ·obtain⟨_,_,_,_,_,_,_,j,_⟩:=h
      exact⟨co2,j.cp,hco2⟩
    ·exact⟨_,rfl,_,rfl,_,rfl,_,rfl,fin H' q mm as ms m ts sb j hM hq hcnt hfin hhd⟩
    ·obtain⟨hs,tl,D1,N1,lt1,gt1⟩:=hx
     have:=heads_le D1 N1 lt1 GM (fun _ _=>rfl)
     exact absurd gt1 (by omega)
   ·refine⟨_,rfl,rfl,_,rfl,iteFK (by rfl) ?_⟩
    refine⟨_,rfl,mA,_,_,_,rfl,rfl,SqT.of m1,rfl,_,rfl,_,rfl,_,rfl,fun base' nb=>?_⟩
    refine⟨SA t,JB t many cell most.toNat M,tM M,AnsR M,f1,f2,many,most,rfl,⟨fun H H' as ms ts j h s=>j.stay h s,fun H as ms ts j=>j.trk,?_,?_⟩,j0,GM.mn.1,GM.mn.2,by omega,by omega,fun H' q mm as ms m ts sb j hM hq hcnt hfin hhd=>?_,fun d H' as ms ts sb j hd hx htr=>?_,fun d H' as ms ts m p r sb j hp hne heq hd=>absurd heq hne⟩
    ·refine⟨_,"_law_run_here",_,nb.pin _ (List.mem_cons_of_mem _ List.mem_cons_self),rfl,fn_nestB (k:=2) (fv:=[.ref asA,.ref mA]) nb (List.mem_cons_of_mem _ List.mem_cons_self) scMay rfl (fun j x v h1 h2=>?_) (fun vs H Q E h=>?_) (fun vs H Q E h=>?_)
      (fun cl A outer s H vs Q E hr h=>may_body FG bG gG (ok_go FG) D GM cl A outer s H vs Q E hr h),Binds.all fun us hl=>match us,hl with | [_],_=>rfl⟩
     ·match j,h1,h2 with
      |0,h1,h2=>cases h1;cases h2;exact⟨3,rfl,rfl,rfl⟩
      |1,h1,h2=>cases h1;cases h2;exact⟨0,rfl,rfl,rfl⟩
      |j+2,h1,h2=>simp at h1
     ·obtain⟨_,_,_,_,_,rfl,_⟩:=h
      rfl
     ·obtain⟨_,_,_,_,_,_,_,_,j,_⟩:=h
      exact⟨co1,j.cm,hco1⟩
    ·refine⟨_,"_law_other",_,nb.pin _ List.mem_cons_self,rfl,fn_nestB (k:=2) (fv:=[.int cell,.ref hdA,.ref mA,.ref tdA]) nb List.mem_cons_self scPar rfl (fun j x v h1 h2=>?_) (fun vs H Q E h=>?_) (fun vs H Q E h=>?_)
      (fun cl A outer s H vs Q E hr h=>par_body FT bT gT (GT base') FO bO gO (GO base') len D (by omega) GM M6 cl A outer s H vs Q E hr h),Binds.all fun us hl=>match us,hl with | [_],_=>rfl⟩
     ·match j,h1,h2 with
      |0,h1,h2=>cases h1;cases h2;exact⟨1,rfl,rfl,rfl⟩
      |1,h1,h2=>cases h1;cases h2;exact⟨4,rfl,rfl,rfl⟩
      |2,h1,h2=>cases h1;cases h2;exact⟨0,rfl,rfl,rfl⟩
      |3,h1,h2=>cases h1;cases h2;exact⟨5,rfl,rfl,rfl⟩
      |j+4,h1,h2=>simp at h1
     ·obtain⟨_,_,_,_,_,rfl,_⟩:=h
      rfl
     ·obtain⟨_,_,_,_,_,_,_,j,_⟩:=h
      exact⟨co2,j.cp,hco2⟩
    ·exact⟨_,rfl,_,rfl,_,rfl,_,rfl,fin H' q mm as ms m ts sb j hM hq hcnt hfin hhd⟩
    ·obtain⟨hs,tl,D1,N1,lt1,gt1⟩:=hx
     have:=heads_le D1 N1 lt1 GM (fun _ _=>rfl)
     exact absurd gt1 (by omega)
  ·obtain⟨ps,p1,p2,p3,p4,p5,hco1,p7,hco2⟩:=id tab
   have tab3:Tab2 Pt H3 c1 c2 co1 co2:=⟨ps,s03 _ _ p1,p2,p3,p4,s03 _ _ p5,hco1,s03 _ _ p7,hco2⟩
   refine⟨ps,s03 _ _ p1,p2,.inr ⟨c1,co1,p3,s03 _ _ p5,hco1,fun f1 doc1 ctv1 hf1=>?_⟩⟩
   refine⟨ps,s03 _ _ p1,p2,.inr ⟨c2,co2,p4,s03 _ _ p7,hco2,fun f2 doc2 ctv2 hf2=>?_⟩⟩
   let t:Ta:=⟨mA,asA,hdA,tdA,c1,c2,co1,co2⟩
   have D:Td t:=⟨e1,e2,e3⟩
   obtain⟨j0,fin⟩:=core (H5:=H3) Sb.refl tab3 a3 h3 q3
   obtain⟨pr,qs,m1,m2,m3⟩:=LN.MAt.ts mac s03.tups
   rcases hvm with⟨rfl,rfl⟩|rfl
   ·refine⟨_,rfl,rfl,_,rfl,iteTK (by rfl) ?_⟩
    refine⟨_,rfl,mA,_,_,_,rfl,rfl,SqT.of m1,rfl,_,rfl,_,rfl,fun base' nb=>?_⟩
    refine⟨SA t,JB t many cell (6:Int).toNat M,tM M,AnsR M,f1,f2,many,6,rfl,⟨fun H H' as ms ts j h s=>j.stay h s,fun H as ms ts j=>j.trk,?_,?_⟩,j0,GM.mn.1,GM.mn.2,by omega,by omega,fun H' q mm as ms m ts sb j hM hq hcnt hfin hhd=>?_,fun d H' as ms ts sb j hd hx htr=>?_,fun d H' as ms ts m p r sb j hp hne heq hd=>absurd heq hne⟩
    ·refine⟨_,"_law_run_here",_,nb.pin _ (List.mem_cons_of_mem _ List.mem_cons_self),rfl,fn_nestB (k:=2) (fv:=[.ref asA,.ref mA]) nb (List.mem_cons_of_mem _ List.mem_cons_self) scMay rfl (fun j x v h1 h2=>?_) (fun vs H Q E h=>?_) (fun vs H Q E h=>?_)
      (fun cl A outer s H vs Q E hr h=>may_body FG bG gG (ok_go FG) D GM cl A outer s H vs Q E hr h),Binds.all fun us hl=>match us,hl with | [_],_=>rfl⟩
     ·match j,h1,h2 with
      |0,h1,h2=>cases h1;cases h2;exact⟨3,rfl,rfl,rfl⟩
      |1,h1,h2=>cases h1;cases h2;exact⟨0,rfl,rfl,rfl⟩
      |j+2,h1,h2=>simp at h1
     ·obtain⟨_,_,_,_,_,rfl,_⟩:=h
      rfl
     ·obtain⟨_,_,_,_,_,_,_,_,j,_⟩:=h
      exact⟨co1,j.cm,hco1⟩
    ·refine⟨_,"_law_other",_,nb.pin _ List.mem_cons_self,rfl,fn_nestB (k:=2) (fv:=[.int cell,.ref hdA,.ref mA,.ref tdA]) nb List.mem_cons_self scPar rfl (fun j x v h1 h2=>?_) (fun vs H Q E h=>?_) (fun vs H Q E h=>?_)
      (fun cl A outer s H vs Q E hr h=>par_body FT bT gT (GT base') FO bO gO (GO base') len D (by omega) GM M6 cl A outer s H vs Q E hr h),Binds.all fun us hl=>match us,hl with | [_],_=>rfl⟩
     ·match j,h1,h2 with
      |0,h1,h2=>cases h1;cases h2;exact⟨1,rfl,rfl,rfl⟩
      |1,h1,h2=>cases h1;cases h2;exact⟨4,rfl,rfl,rfl⟩
      |2,h1,h2=>cases h1;cases h2;exact⟨0,rfl,rfl,rfl⟩
      |3,h1,h2=>cases h1;cases h2;exact⟨5,rfl,rfl,rfl⟩
      |j+4,h1,h2=>simp at h1
     ·obtain⟨_,_,_,_,_,rfl,_⟩:=h
      rfl
     ·obtain⟨_,_,_,_,_,_,_,j,_⟩:=h
      exact⟨co2,j.cp,hco2⟩
    ·exact⟨_,rfl,_,rfl,_,rfl,_,rfl,fin H' q mm as ms m ts sb j hM hq hcnt hfin hhd⟩
    ·obtain⟨hs,tl,D1,N1,lt1,gt1⟩:=hx
     have:=heads_le D1 N1 lt1 GM (fun _ _=>rfl)
     exact absurd gt1 (by omega)
   ·refine⟨_,rfl,rfl,_,rfl,iteFK (by rfl) ?_⟩
    refine⟨_,rfl,mA,_,_,_,rfl,rfl,SqT.of m1,rfl,_,rfl,_,rfl,_,rfl,fun base' nb=>?_⟩
    refine⟨SA t,JB t many cell most.toNat M,tM M,AnsR M,f1,f2,many,most,rfl,⟨fun H H' as ms ts j h s=>j.stay h s,fun H as ms ts j=>j.trk,?_,?_⟩,j0,GM.mn.1,GM.mn.2,by omega,by omega,fun H' q mm as ms m ts sb j hM hq hcnt hfin hhd=>?_,fun d H' as ms ts sb j hd hx htr=>?_,fun d H' as ms ts m p r sb j hp hne heq hd=>absurd heq hne⟩
    ·refine⟨_,"_law_run_here",_,nb.pin _ (List.mem_cons_of_mem _ List.mem_cons_self),rfl,fn_nestB (k:=2) (fv:=[.ref asA,.ref mA]) nb (List.mem_cons_of_mem _ List.mem_cons_self) scMay rfl (fun j x v h1 h2=>?_) (fun vs H Q E h=>?_) (fun vs H Q E h=>?_)
      (fun cl A outer s H vs Q E hr h=>may_body FG bG gG (ok_go FG) D GM cl A outer s H vs Q E hr h),Binds.all fun us hl=>match us,hl with | [_],_=>rfl⟩
     ·match j,h1,h2 with
      |0,h1,h2=>cases h1;cases h2;exact⟨3,rfl,rfl,rfl⟩
      |1,h1,h2=>cases h1;cases h2;exact⟨0,rfl,rfl,rfl⟩
      |j+2,h1,h2=>simp at h1
     ·obtain⟨_,_,_,_,_,rfl,_⟩:=h
      rfl
     ·obtain⟨_,_,_,_,_,_,_,_,j,_⟩:=h
      exact⟨co1,j.cm,hco1⟩
    ·refine⟨_,"_law_other",_,nb.pin _ List.mem_cons_self,rfl,fn_nestB (k:=2) (fv:=[.int cell,.ref hdA,.ref mA,.ref tdA]) nb List.mem_cons_self scPar rfl (fun j x v h1 h2=>?_) (fun vs H Q E h=>?_) (fun vs H Q E h=>?_)
      (fun cl A outer s H vs Q E hr h=>par_body FT bT gT (GT base') FO bO gO (GO base') len D (by omega) GM M6 cl A outer s H vs Q E hr h),Binds.all fun us hl=>match us,hl with | [_],_=>rfl⟩
     ·match j,h1,h2 with
      |0,h1,h2=>cases h1;cases h2;exact⟨1,rfl,rfl,rfl⟩
      |1,h1,h2=>cases h1;cases h2;exact⟨4,rfl,rfl,rfl⟩
      |2,h1,h2=>cases h1;cases h2;exact⟨0,rfl,rfl,rfl⟩
      |3,h1,h2=>cases h1;cases h2;exact⟨5,rfl,rfl,rfl⟩
      |j+4,h1,h2=>simp at h1
     ·obtain⟨_,_,_,_,_,rfl,_⟩:=h
      rfl
     ·obtain⟨_,_,_,_,_,_,_,j,_⟩:=h
      exact⟨co2,j.cp,hco2⟩
    ·exact⟨_,rfl,_,rfl,_,rfl,_,rfl,fin H' q mm as ms m ts sb j hM hq hcnt hfin hhd⟩
    ·obtain⟨hs,tl,D1,N1,lt1,gt1⟩:=hx
     have:=heads_le D1 N1 lt1 GM (fun _ _=>rfl)
     exact absurd gt1 (by omega)
end
end LN
namespace L2
open PySem PyProof
def rLenK (K:W.Frag):List V->Hp->VK->Prop:=fun xs H Q=>∃p ys,xs=[.ref p]/\(SqL K H p ys\/SqT K H p ys)/\Q (.int ys.length) H
theorem call_lenQ {X:Cx}{K:W.Frag}(hK:X.K=K):CallR X (.builtin "len") (rLenK K):=by subst hK;exact call_len_seq
theorem call_setTP {X:Cx}(P:Program)(w:World)(hP:X.prog=P)(hw:X.w=w)(hc:X.calm=true)(hu:X.A.units+64<cLine):CallR X (.type "set") (fun xs H Q=>∃(p:Addr) (bs:List Addr) (ks:List (List Int)),xs=[.ref p]/\SqL X.K H p (bs.map V.ref)/\bs.length=ks.length/\(∀(j:Nat) (b:Addr) (k:List Int),bs[j]?=some b->ks[j]?=some k->TKy H k b)/\ks.Nodup/\ks.length<=4900/\∀a,H a=none->Q (.ref a) (upd H a (ST.TS P w a ks.length))):=by
 subst hP hw
 exact ST.call_setT hc hu
theorem call_lenTSP {X:Cx}(P:Program)(w:World)(hP:X.prog=P)(hw:X.w=w):CallR X (.builtin "len") (fun xs H Q=>∃a n,xs=[V.ref a]/\H a=some (ST.TS P w a n)/\Q (.int n) H):=by
 subst hP hw
 exact ST.call_lenTS
end L2
namespace LN
open PySem L2 SO K20 K21 K60 K23 K24 K22
def olen:Option (List Int)->Nat
 |some r=>r.length
 |none=>0
theorem sumT_cons (o:Option (List Int))(ts:Told):sumT (o::ts)=olen o+sumT ts:=by
 unfold sumT olen
 rw[List.map_cons,List.sum_cons]<;>(cases o<;>rfl)
def fmL (ts:Told):List Int:=ts.filterMap fun o=>o.map fun r=>(r.length:Int)
theorem fmL_sum:∀ts:Told,(fmL ts).sum=(sumT ts:Int)
 | []=>rfl
 |none::ts=>by
  rw[sumT_cons]
  show(fmL ts).sum=_
  rw[fmL_sum ts]
  show _=((0+sumT ts:Nat):Int)
  omega
 |some r::ts=>by
  rw[sumT_cons]
  show((r.length:Int)::fmL ts).sum=_
  rw[List.sum_cons,fmL_sum ts]
  show _=((r.length+sumT ts:Nat):Int)
  omega
theorem sum_cap {c:Nat}(hc:c<=6){ms:List Rms}{m:Rms}{ts:Told}(l:ms.length=ts.length)(up:∀(i:Nat) (a b:Rms),(ms++[m])[i]?=some a->(ms++[m])[i+1]?=some b->a.length<b.length)(hm:m.length<=c)(p0:∀a∈ms,1<=a.length)
  (ho:∀(i:Nat) (a:Rms) (o:Option (List Int)),ms[i]?=some a->ts[i]?=some o->olen o<=c*a.length+8):sumT ts<=130/\(c<=3->sumT ts<=25):=by
 have k:∀a:Rms,c*a.length<=6*a.length:=fun a=>Nat.mul_le_mul_right _ hc
 have k3:c<=3->∀a:Rms,c*a.length<=3*a.length:=fun h a=>Nat.mul_le_mul_right _ h
 match ms,ts,l with
 | [],[],_=>exact⟨Nat.zero_le _,fun _=>Nat.zero_le _⟩
 | [a],[o],_=>
  have u0:=up 0 a m rfl rfl
  have h0:=ho 0 a o rfl rfl
  have n0:=p0 a (by simp)
  have ka:=k a
  rw[sumT_cons]
  refine⟨?_,fun h=>?_⟩
  ·show olen o+0<=130
   omega
  ·have ka3:=k3 h a
   show olen o+0<=25
   omega
 | [a,b],[o,o1],_=>
  have u0:=up 0 a b rfl rfl
  have u1:=up 1 b m rfl rfl
  have h0:=ho 0 a o rfl rfl
  have h1:=ho 1 b o1 rfl rfl
  have n0:=p0 a (by simp)
  have ka:=k a
  have kb:=k b
  rw[sumT_cons,sumT_cons]
  refine⟨?_,fun h=>?_⟩
  ·show olen o+(olen o1+0)<=130
   omega
  ·have ka3:=k3 h a
   have kb3:=k3 h b
   show olen o+(olen o1+0)<=25
   omega
 | [a,b,d],[o,o1,o2],_=>
  have u0:=up 0 a b rfl rfl
  have u1:=up 1 b d rfl rfl
  have u2:=up 2 d m rfl rfl
  have h0:=ho 0 a o rfl rfl
  have h1:=ho 1 b o1 rfl rfl
  have h2:=ho 2 d o2 rfl rfl
  have n0:=p0 a (by simp)
  have ka:=k a
  have kb:=k b
  have kd:=k d
  rw[sumT_cons,sumT_cons,sumT_cons]
  refine⟨?_,fun h=>by omega⟩
  show olen o+(olen o1+(olen o2+0))<=130
  omega
 | [a,b,d,e],[o,o1,o2,o3],_=>
  have u0:=up 0 a b rfl rfl
  have u1:=up 1 b d rfl rfl
  have u2:=up 2 d e rfl rfl
  have u3:=up 3 e m rfl rfl
  have h0:=ho 0 a o rfl rfl
  have h1:=ho 1 b o1 rfl rfl
  have h2:=ho 2 d o2 rfl rfl
  have h3:=ho 3 e o3 rfl rfl
  have n0:=p0 a (by simp)
  have ka:=k a
  have kb:=k b
  have kd:=k d
  have ke:=k e
  rw[sumT_cons,sumT_cons,sumT_cons,sumT_cons]
  refine⟨?_,fun h=>by omega⟩
  show olen o+(olen o1+(olen o2+(olen o3+0)))<=130
  omega
 | [a,b,d,e,f],[o,o1,o2,o3,o4],_=>
  have u0:=up 0 a b rfl rfl
  have u1:=up 1 b d rfl rfl
  have u2:=up 2 d e rfl rfl
  have u3:=up 3 e f rfl rfl
  have u4:=up 4 f m rfl rfl
  have h0:=ho 0 a o rfl rfl
  have h1:=ho 1 b o1 rfl rfl
  have h2:=ho 2 d o2 rfl rfl
  have h3:=ho 3 e o3 rfl rfl
  have h4:=ho 4 f o4 rfl rfl
  have n0:=p0 a (by simp)
  have ka:=k a
  have kb:=k b
  have kd:=k d
  have ke:=k e
  have kf:=k f
  rw[sumT_cons,sumT_cons,sumT_cons,sumT_cons,sumT_cons]
  refine⟨?_,fun h=>by omega⟩
  show olen o+(olen o1+(olen o2+(olen o3+(olen o4+0))))<=130
  omega
 |a::b::d::e::f::g::rest,ts,_=>
  exfalso
  have u0:=up 0 a b rfl rfl
  have u1:=up 1 b d rfl rfl
  have u2:=up 2 d e rfl rfl
  have u3:=up 3 e f rfl rfl
  have u4:=up 4 f g rfl rfl
  have n0:=p0 a (by simp)
  have last:∀(l:List Rms) (x:Rms),(∀(i:Nat) (a b:Rms),(x::l++[m])[i]?=some a->(x::l++[m])[i+1]?=some b->a.length<b.length)->x.length<m.length:=by
   intro l
   induction l with
   |nil=>intro x h;exact h 0 x m rfl rfl
   |cons y l ih=>
    intro x h
    have h1:=h 0 x y rfl rfl
    have h2:=ih y fun i a b e1 e2=>h (i+1) a b e1 e2
    omega
  have:=last rest g fun i a b e1 e2=>up (i+5) a b e1 e2
  omega
theorem les_cap {H:Hp}{q:Addr}{many cell most:Int}{M:Rms}{fa mmA asA hdA tdA:Addr}{as:List (List Int)}{ms:List Rms}{m:Rms}{ts:Told}(L:Les H q many cell most M fa mmA asA hdA tdA as ms m ts)(GM:Good many M)(M6:M.length<=6)(m38:many<=3\/M.length<=3):as.length<=4900:=by
 have hl:ms.length=ts.length:=by
  obtain⟨_,_,_,_,H1,_⟩:=L.fin
  exact H1.len
 obtain⟨d1,e1⟩:=L.tc.snoc hl
 have cap:∀c:Nat,M.length<=c->c<=6->sumT ts<=130/\(c<=3->sumT ts<=25):=fun c hc c6=>by
  refine sum_cap c6 hl L.ok.up (Nat.le_trans L.le hc) (fun a ha=>?_) (fun i a o e1 e2=>?_)
  ·have:=(L.ok.can a (List.mem_append_left _ ha)).1.good.pos
   omega
  ·rcases d1 i a o e1 e2 with⟨z,_⟩|⟨r,f,rl,z⟩
   ·rw[z];exact Nat.zero_le _
   ·rw[z]
    obtain⟨_,l2,_⟩:=longM_ok (c:=cell / (1+((i:Int)+1))) GM.mn.1 f.lts f.ne
    have:=Nat.mul_le_mul_right a.length hc
    show(longM M a many r (cell / (1+((i:Int)+1)))).length<=_
    omega
 have cnt:=L.cnt
 have le:=L.le
 have mn:=GM.mn
 rcases m38 with z|z
 ·have h1:=(cap 6 M6 (by decide)).1
  have a1:(1+sumT ts)*(many.toNat+1)<=131*4:=Nat.mul_le_mul (by omega) (by omega)
  have a2:=Nat.mul_le_mul (show m.length<=6 by omega) a1
  omega
 ·have h1:=(cap 3 z (by decide)).2 (by decide)
  have a1:(1+sumT ts)*(many.toNat+1)<=26*9:=Nat.mul_le_mul (by omega) (by omega)
  have a2:=Nat.mul_le_mul (show m.length<=3 by omega) a1
  omega
def spCt:Sp:=fun vs H Q _=>∃(q fa mmA asA hdA tdA:Addr) (many cell most:Int) (M:Rms) (as:List (List Int)) (ms:List Rms) (m:Rms) (ts:Told),vs=[.ref fa,.ref asA,.ref hdA,.ref tdA,.int many]/\Les H q many cell most M fa mmA asA hdA tdA as ms m ts/\Good many M/\M.length<=6/\(many<=3\/M.length<=3)/\most<=8/\∀H',Same H H'->Q (.bl true) H'
section
variable {P:Program} {w:World} {K:W.Frag} {mg:Str->Option Value} {base:Heap}
abbrev nCt:List Str:=["_law_found","_law_asked","_law_handed","_law_told","_law_many","_law_letters","_law_k"]
abbrev pCt:List Str:=["_law_found","_law_asked","_law_handed","_law_told","_law_many"]
theorem scCt:FnScope nCt pCt (defScope sCt):=.of (by decide +kernel)
def scopeL:Scope:=⟨.function,[(".0",.local),("_law_run_here",.local),("len",.globalImplicit)],false,false,[]⟩
theorem scL:BlkScope (defScope sCt) nCt ["_law_run_here"] [] [] scopeL:=.of (by decide +kernel)
theorem ok_ct (F:Fun K "_law_counts" "_law_counts" sCt f fd)(T:Txt mg)
  (FW:Fun K "_law_whole" "_law_whole" sWh fW dW) (bW:Binds K dW ["_law_found"] []) (gW:mg "_law_whole"=some (.ref fW)) (GW:FnOk P w K mg base CX0 1 fW dW ["_law_found"] spWh)
  (FI:Fun K "_law_is_machine" "_law_is_machine" sIm fI dI) (bI:Binds K dI ["_law_found","_law_many"] []) (gI:mg "_law_is_machine"=some (.ref fI)) (GI:FnOk P w K mg base CX0 2 fI dI ["_law_found","_law_many"] spIm)
  (FL:Fun K "least" "least" sLs fL dL) (bL:Binds K dL ["machine"] []) (gL:mg "least"=some (.ref fL)) (GL:FnOk P w K mg base CX0 3 fL dL ["machine"] spLs):
  FnOk P w K mg base CX0 4 f fd pCt spCt:=by
 refine F.ok scCt (fun vs H Q E h=>?_) (fun cdv A outer s H vs Q E hr h=>?_)
 ·obtain⟨_,_,_,_,_,_,_,_,_,_,_,_,_,_,rfl,_⟩:=h
  rfl
 ·obtain⟨q,fa,mmA,asA,hdA,tdA,many,cell,most,M,as,ms,m,ts,rfl,L,GM,M6,m38,o8,k⟩:=h
  have hr1:Room 1 _:=hr.mono (by decide)
  have hr2:Room 2 _:=hr.mono (by decide)
  have hu64:=hr.units
  refine⟨_,pss_cons (ps_if (PW.pt (pw_or (pt_not (pt_val (pe_callB call_isinst (by rfl) T.isin PyProof.Rows.boot_isinstance (pa_cons (pv 0) (pa_cons (pe_bltn (v:=.ty "tuple") (by rfl) T.tuple PyProof.Rows.boot_tuple rfl) pa_nil)))))
    (pw_or (pt_cmpR op_ne (pe_callB call_len_seq (by rfl) T.len PySem.boot_len (pa_cons (pv 0) pa_nil)) pe_int (nomark _))
    (pw_or1 (pt_not (pt_val (pe_call GW hr1 rfl gW FW.kp bW .nil pass0 (pa_cons (pe_ix ix_tup (pv 0) pe_int (fun _ _=>rfl)) pa_nil)))))))) (pss_one (ps_ret pe_bl)) pss_nil)
   (pss_cons (ps_if (PW.pt (pw_or (pt_cmpR op_ne (pe_ix ix_tup (pv 0) pe_int (fun _ _=>rfl)) (pe_callB call_len_seq (by rfl) T.len PySem.boot_len (pa_cons (pv 1) pa_nil)) (nomark _))
    (pw_or1 (pt_cmpR op_ne (pe_callB (call_lenTSP P w rfl rfl) (by rfl) T.len PySem.boot_len (pa_cons (pe_callTy (call_setTP P w rfl rfl rfl hu64) (by rfl) T.set PyProof.Rows.boot_set (pa_cons (pv 1) pa_nil)) pa_nil)) (pe_callB call_len_seq (by rfl) T.len PySem.boot_len (pa_cons (pv 1) pa_nil)) (nomark _))))) (pss_one (ps_ret pe_bl)) pss_nil)
   (pss_cons (ps_set (i:=5) scCt.nd rfl (Or.inl rfl) (pe_callB (ST.call_sumI rfl) (by rfl) T.sum PyProof.Rows.boot_sum (pa_cons (pe_lc scL rfl rfl rfl (pi_list (pv 3)) (fun fp C s1 H1=>pg_name (i:=0) scL.nd rfl (Or.inl rfl))
     (fun fp C s1 H1=>pts_one (pt_cmpR op_notN (pv 0) pe_non (nomark _))) (fun fp C s1 H1=>pe_callB (r:=rLenK K) (call_lenQ rfl) (by rfl) T.len PySem.boot_len (pa_cons (pv 0) pa_nil))) pa_nil)))
   (pss_cons (ps_if (PW.pt (pw_or (pt_cmpR op_gt (pe_ix ix_tup (pv 0) pe_int (fun _ _=>rfl)) (pe_op op_mul (pe_op op_mul (pe_callB call_len_seq (by rfl) T.len PySem.boot_len (pa_cons (pe_ix ix_tup (pe_ix ix_tup (pv 0) pe_int (fun _ _=>rfl)) pe_int (fun _ _=>rfl)) pa_nil)) (pe_op op_add (pv 4) pe_int)) (pe_op op_add pe_int (pv 5))) (nomark _))
    (pw_or1 (pt_cmpR (op_neD hu64) (pe_ix ix_list (pv 2) (pe_un un_neg pe_int) (fun _ _=>rfl)) (pe_ix ix_tup (pv 0) pe_int (fun _ _=>rfl)) (nomark _))))) (pss_one (ps_ret pe_bl)) pss_nil)
   (pss_cons (ps_for PassesOwn.never rfl (pi_range1 rfl T.range (pa_cons (pe_callB call_len_seq (by rfl) T.len PySem.boot_len (pa_cons (pv 2) pa_nil)) pa_nil)) (pg_name (i:=6) scCt.nd rfl (Or.inl rfl))
    (pss_cons (ps_if (PW.pt (pw_or (pt_not (pt_val (pe_call GI hr2 rfl gI FI.kp bI .nil pass0 (pa_cons (pe_ix ix_list (pv 2) (pv 6) (fun _ _=>rfl)) (pa_cons (pv 4) pa_nil)))))
      (pw_or1 (pt_not (pt_val (pe_call GI hr2 rfl gI FI.kp bI .nil pass0 (pa_cons (pe_ix ix_tup (pv 0) pe_int (fun _ _=>rfl)) (pa_cons (pv 4) pa_nil)))))))) (pss_one (ps_ret pe_bl)) pss_nil)
    (pss_one (ps_if (PW.pt (pw_or (pt_cmpR (op_neD hu64) (pe_call GL hr rfl gL FL.kp bL .nil pass0 (pa_cons (pe_ix ix_list (pv 2) (pv 6) (fun _ _=>rfl)) pa_nil)) (pe_ix ix_list (pv 2) (pv 6) (fun _ _=>rfl)) (nomark _))
      (pw_or1 (PW.pt (pw_and (pt_cmpR op_gt (pv 6) pe_int (nomark _))
       (pw_and1 (pt_cmpR op_le (pe_callB call_len_seq (by rfl) T.len PySem.boot_len (pa_cons (pe_ix ix_tup (pe_ix ix_list (pv 2) (pv 6) (fun _ _=>rfl)) pe_int (fun _ _=>rfl)) pa_nil)) (pe_callB call_len_seq (by rfl) T.len PySem.boot_len (pa_cons (pe_ix ix_tup (pe_ix ix_list (pv 2) (pe_op op_sub (pv 6) pe_int) (fun _ _=>rfl)) pe_int (fun _ _=>rfl)) pa_nil)) (nomark _)))))))) (pss_one (ps_ret pe_bl)) pss_nil))))
   (pss_one (ps_ret (pe_cmpR op_isN (pe_ix ix_list (pv 3) (pe_un un_neg pe_int) (fun _ _=>rfl)) pe_non (nomark _)))))))),?_⟩
  have cap:=les_cap L GM M6 m38
  obtain⟨ltup,lfnd,lmac,⟨aps,a1,a2⟩,⟨hps,b1,b2⟩,⟨us,c1,c2⟩,ok,tc,fin,cnt,le⟩:=id L
  have la:aps.length=as.length:=a2.1
  have lh:hps.length=ms.length+1:=by rw[b2.1,List.length_append];rfl
  have lu:us.length=(ts++[none]).length:=c2.1
  have hlt:ms.length=ts.length:=by
   obtain⟨_,_,_,_,H1,_⟩:=fin
   exact H1.len
  have okl:=ok.len
  rw[List.length_append,List.length_singleton] at okl
  have lts:(ts++[none]).length=ms.length+1:=by rw[List.length_append,List.length_singleton,hlt]
  have mn:=GM.mn
  obtain⟨mpr,mqs,k1,k2,k3⟩:=id lmac
  have lq:mqs.length=m.length:=k3.1
  have Cm:=(ok.can m (by simp)).1
  refine⟨_,rfl,_,_,_,true,rfl,.tup lfnd,rfl,true,rfl,iteF ?_⟩
  refine⟨_,rfl,fa,_,rfl,.inr (SqT.of lfnd),rfl,_,rfl,iteFK (by rfl) ?_⟩
  refine⟨_,rfl,fa,_,_,_,rfl,rfl,SqT.of lfnd,rfl,(as.length:Int),rfl,true,rfl,iteF ?_⟩
  refine⟨_,rfl,fa,_,_,_,rfl,rfl,SqT.of lfnd,rfl,_,rfl,asA,_,rfl,.inl (SqL.of a1),rfl,_,rfl,iteFK (by rw[List.length_map,la];simp) ?_⟩
  refine⟨_,rfl,asA,aps,as,rfl,SqL.of a1,la,fun j b k' e1 e2=>?_,fin.nd,cap,fun sA hsA=>?_⟩
  ·obtain⟨b',eb,hb⟩:=a2.2 j k' e2
   rw[e1] at eb
   cases eb
   exact⟨_,hb,nums_ints k'⟩
  have s1:Same H (upd H sA (ST.TS P w sA as.length)):=(Same.refl H).upd_free hsA
  have q1:upd H sA (ST.TS P w sA as.length) sA=some (ST.TS P w sA as.length):=upd_same
  generalize upd H sA (ST.TS P w sA as.length)=H1 at s1 q1 ⊢
  refine⟨sA,as.length,rfl,q1,_,rfl,asA,_,rfl,.inl (SqL.of (s1 _ _ a1)),rfl,_,rfl,iteFK (by rw[List.length_map,la];simp) ?_⟩
  refine⟨_,rfl,tdA,rfl,⟨_,SqL.of (s1 _ _ c1)⟩,fun D hD=>?_⟩
  refine lc_list (K:=K) (a:=tdA) (xs:=us) (fun j ys H3=>Same H1 H3/\H3 D=some (.lst ys)/\ys=(fmL ((ts++[none]).take j)).map V.int) (Nat.le_of_lt (small1000 (by omega)))
   ⟨(Same.refl H1).upd_free hD,upd_same,rfl⟩ (fun j ys H3 h=>by
    rw[h.2.2,List.length_map]
    exact Nat.le_trans (List.length_filterMap_le _ _) (by rw[List.length_take];exact Nat.min_le_left _ _)) (fun j ys H3 h=>SqL.of (h.1 _ _ (s1 _ _ c1))) ?_ ?_
  ·rintro j ys H3 x N M' hx ⟨w1,w2,rfl⟩ hN hM'
   have hj:j<(ts++[none]).length:=by rw[<- lu];exact(List.getElem?_eq_some_iff.mp hx).1
   have eo:(ts++[none])[j]?=some (ts++[none])[j]:=List.getElem?_eq_getElem hj
   generalize (ts++[none])[j]=o at eo
   obtain⟨v,ev,hv⟩:=c2.2 j o eo
   rw[hx] at ev
   cases ev
   have ef:fmL ((ts++[none]).take (j+1))=fmL ((ts++[none]).take j)++fmL [o]:=by
    rw[List.take_add_one,eo]
    unfold fmL
    rw[List.filterMap_append]
    rfl
   rcases hv with⟨rfl,rfl⟩|⟨r,p,rfl,rfl,hp⟩
   ·refine⟨_,rfl,rfl,_,rfl,iteFK (by rfl) (hM' H3 ⟨w1,w2,?_⟩)⟩
    rw[ef]
    show _=(fmL _++[]).map V.int
    rw[List.append_nil]
   ·refine⟨_,rfl,rfl,_,rfl,iteTK (by rfl) ?_⟩
    refine⟨_,rfl,p,_,rfl,.inr (SqT.of (w1 _ _ (s1 _ _ hp))),hN _ H3 w2 ⟨w1.upd_free hD,upd_same,?_⟩⟩
    rw[ef,List.map_append,List.length_map]
    rfl
  ·rintro ys H3 ⟨w1,w2,rfl⟩
   rw[lu,List.take_of_length_le (Nat.le_refl _)] at w2
   refine⟨D,_,rfl,SqL.of w2,?_⟩
   rw[fmL_sum,sumT_none]
   have s13:=s1.trans w1
   have f3:=s13 _ _ lfnd
   have n1:=s13 _ _ k1
   have n2:=s13 _ _ k2
   refine⟨_,rfl,fa,_,_,_,rfl,rfl,SqT.of f3,rfl,_,rfl,fa,_,_,_,rfl,rfl,SqT.of f3,rfl,mmA,_,_,_,rfl,rfl,SqT.of n1,rfl,mpr,_,rfl,.inr (SqT.of n2),_,rfl,_,_,rfl,rfl,_,_,rfl,rfl,.inr ⟨by omega,by omega⟩,_,rfl,_,_,rfl,rfl,_,_,rfl,rfl,?_⟩
   have sm:(sumT ts:Int)<=4900\/True:=.inr trivial
   have mle:(m.length:Int)<=6:=by omega
   refine⟨.inl ?_,_,_,rfl,rfl,_,rfl,iteFK (decide_eq_false ?_) ?_⟩
   ·rw[List.length_map,lq]
    have h1:0<=(m.length:Int)*(many+1):=Int.mul_nonneg (by omega) (by omega)
    have h2:(m.length:Int)*(many+1)<=6*9:=Int.mul_le_mul (by omega) (by omega) (by omega) (by omega)
    omega
   ·rw[List.length_map,lq]
    have e:((m.length*((1+sumT ts)*(many.toNat+1)):Nat):Int)=(m.length:Int)*(many+1)*(1+(sumT ts:Int)):=by
     rw[Int.natCast_mul,Int.natCast_mul,Int.natCast_add,Int.natCast_add,Int.toNat_of_nonneg mn.1,Int.mul_assoc,Int.mul_comm (many+1)]
     rfl
    have:((as.length:Nat):Int)<=((m.length*((1+sumT ts)*(many.toNat+1)):Nat):Int):=Int.ofNat_le.mpr cnt
    rw[e] at this
    omega
   have b3:=s13 _ _ b1
   have B3:=b2.ts s13.tups
   have M3:=LN.MAt.ts lmac s13.tups
   obtain⟨q5,e5,M5⟩:=B3.2 ms.length m (by simp)
   have er:∀x:Rms,PyData.eqv (dM many x) (dM many x)=true:=fun x=>SeqAt.eqv_refl _ (dM_ok _ _).1
   refine⟨_,rfl,_,rfl,hdA,_,_,_,rfl,rfl,SqL.of b3,atI_last (by rw[List.length_map,List.getElem?_map,lh,Nat.add_sub_cancel,e5];rfl),_,rfl,fa,_,_,_,rfl,rfl,SqT.of f3,rfl,dM many m,dM many m,m_dat M5,m_dat M3,dM_ok _ _,dM_ok _ _,_,rfl,?_⟩
   rw[er m]
   refine iteF ?_
   refine⟨_,rfl,hdA,_,rfl,.inl (SqL.of b3),_,rfl,by rw[List.length_map];omega,by rw[List.length_map];omega,?_⟩
   refine for_range (lo:=0) (n:=((hps.map V.ref).length:Int).toNat) (fun i σ H9=>∃v6:Option V,σ=[some (.ref fa),some (.ref asA),some (.ref hdA),some (.ref tdA),some (.int many),some (.int (sumT ts:Int)),v6]/\Same H3 H9) ⟨_,rfl,Same.refl H3⟩ ?_ ?_
   ·rintro i σ H9 hi ⟨v6,rfl,s9⟩
    rw[List.length_map,Int.toNat_natCast,b2.1] at hi
    have h9:=s9 _ _ b3
    have et:(ms++[m])[i]?=some (ms++[m])[i]:=List.getElem?_eq_getElem hi
    generalize (ms++[m])[i]=y at et
    obtain⟨qy,ey,My⟩:=B3.2 i y et
    obtain⟨cy,ly⟩:=ok.can y (List.mem_of_getElem? et)
    have M9:=LN.MAt.ts My s9.tups
    obtain⟨pr,qs,m1,m2,m3'⟩:=id M9
    have lqs:qs.length=y.length:=m3'.1
    have e0:(0:Int)+(i:Int)=((i:Nat):Int):=Int.zero_add _
    have at1:atI (hps.map V.ref) (0+(i:Int))=some (.ref qy):=by rw[e0];exact atI_nat (by rw[List.getElem?_map,ey];rfl)
    refine⟨_,rfl,_,rfl,hdA,_,_,_,rfl,rfl,SqL.of h9,at1,_,rfl,qy,many,y,rfl,M9,cy.good,true,rfl,iteF ?_⟩
    refine⟨_,rfl,fa,_,_,_,rfl,rfl,SqT.of (s9 _ _ f3),rfl,_,rfl,mmA,many,m,rfl,LN.MAt.ts M3 s9.tups,Cm.good,true,rfl,iteF ?_⟩
    refine⟨_,rfl,_,rfl,hdA,_,_,_,rfl,rfl,SqL.of h9,at1,qy,many,y,rfl,M9,cy.good,fun q2 ns2 ch2 H10 s10 M10 C10 B10=>?_⟩
    have eM:minM y ns2 ch2=y:=canon (can_of cy.good C10 B10) cy (min_whole cy.good C10 B10).symm
    rw[eM] at M10
    refine⟨_,rfl,_,rfl,hdA,_,_,_,rfl,rfl,SqL.of (s10 _ _ h9),at1,dM many y,dM many y,m_dat M10,m_dat (LN.MAt.ts M9 s10.tups),dM_ok _ _,dM_ok _ _,_,rfl,?_⟩
    rw[er y]
    refine iteF ?_
    have s310:=s9.trans s10
    refine⟨_,rfl,_,_,rfl,rfl,_,rfl,?_⟩
    by_cases hz:i=0
    ·subst hz
     exact iteFK (by decide) (iteF ⟨_,rfl,s310⟩)
    ·refine iteTK (decide_eq_true (by omega)) ?_
     have hi1:i-1<(ms++[m]).length:=by omega
     have et1:(ms++[m])[i-1]?=some (ms++[m])[i-1]:=List.getElem?_eq_getElem hi1
     generalize (ms++[m])[i-1]=mp at et1
     obtain⟨q3,e3,M3p⟩:=B3.2 (i-1) mp et1
     obtain⟨pr3,qs3,g1,g2,g3⟩:=LN.MAt.ts M3p s310.tups
     have lq3:qs3.length=mp.length:=g3.1
     have up:=ok.up (i-1) mp y et1 (by rw[show i-1+1=i by omega];exact et)
     have at2:atI (hps.map V.ref) (0+(i:Int)-1)=some (.ref q3):=by
      rw[show(0:Int)+(i:Int)-1=((i-1:Nat):Int) by omega]
      exact atI_nat (by rw[List.getElem?_map,e3];rfl)
     refine⟨_,rfl,_,rfl,hdA,_,_,_,rfl,rfl,SqL.of (s10 _ _ h9),at1,qy,_,_,_,rfl,rfl,SqT.of (s10 _ _ m1),rfl,pr,_,rfl,.inr (SqT.of (s10 _ _ m2)),?_⟩
     refine⟨_,rfl,_,rfl,_,_,rfl,rfl,hdA,_,_,_,rfl,rfl,SqL.of (s10 _ _ h9),at2,q3,_,_,_,rfl,rfl,SqT.of g1,rfl,pr3,_,rfl,.inr (SqT.of g2),_,_,rfl,rfl,_,rfl,?_⟩
     have hn:decide (((qs.map V.ref).length:Int)<=((qs3.map V.ref).length:Int))=false:=decide_eq_false (by rw[List.length_map,List.length_map,lqs,lq3];omega)
     exact iteFK hn ⟨_,rfl,s310⟩
   ·rintro σ H9 ⟨v6,rfl,s9⟩
    obtain⟨v,ev,hv⟩:=c2.2 ts.length none (by simp)
    have hv':v=.non:=by
     rcases hv with⟨_,z⟩|⟨r,p,z,_⟩
     ·exact z
     ·cases z
    subst hv'
    refine⟨_,rfl,_,rfl,tdA,_,_,_,rfl,rfl,SqL.of (s9 _ _ (s13 _ _ c1)),atI_last (by rw[lu,List.length_append,List.length_singleton,Nat.add_sub_cancel,ev]),rfl,?_⟩
    exact k H9 (s13.trans s9)
end
end LN
namespace LN
open PySem L2 SO K20 K21 K60 K23 K24 K22
def spLw (K:W.Frag)(Pt:Addr):Sp:=fun vs H Q _=>∃(a:Addr) (ns:List Int),vs=[.ref a]/\SqL K H a (ns.map V.int)/\ns.length<=63/\H Pt=some (.tbl #[])/\∀H',Q (.bl true) H'
def dN (d:PyData)(n:Int):PyData:=.tuple [d,.int n]
theorem dN_ok (many:Int)(m:Rms)(n:Int):DOk (dN (dM many m) n):=by
 refine⟨?_,?_⟩
 ·unfold dN
  simp[PyData.canLay0,PyData.canLayAll0,(dM_ok many m).1]
 ·have h1:(dM many m).depth<=4:=by
   have:=dRs_dep m
   unfold dM
   rw[PyData.depth,PyData.depthAll,PyData.depthAll,PyData.depthAll,PyData.depth,PyData.depth]
   omega
  unfold dN
  simp[PyData.depth,PyData.depthAll]
  omega
theorem les_bi {H:Hp}{q:Addr}{many cell most:Int}{M:Rms}{fa mmA asA hdA tdA:Addr}{as:List (List Int)}{ms:List Rms}{m:Rms}{ts:Told}(L:Les H q many cell most M fa mmA asA hdA tdA as ms m ts):Can many m/\Bi M m many 0 0:=by
 have hl:ms.length=ts.length:=by
  obtain⟨_,_,_,_,H1,_⟩:=L.fin
  exact H1.len
 refine⟨(L.ok.can m (by simp)).1,?_⟩
 rcases(L.tc.snoc hl).2 with⟨_,z⟩|⟨r,_,_,z⟩
 ·exact z
 ·cases z
section
variable {P:Program} {w:World} {K:W.Frag} {mg:Str->Option Value} {base:Heap}
abbrev nLaw:List Str:=["_law_script","_law_machine_here","_law_cell","_law_most","_law_found","_law_asked","_law_handed","_law_told"]
theorem scLaw:FnScope nLaw ["_law_script"] (defScope sLaw):=.of (by decide +kernel)
theorem ok_law {fM:Addr}{dE:FuncData}(F:Fun K "law" "law" sLaw f fd)(T:Txt mg)
  (FC:Fun K "_law_cell_at" "_law_cell_at" sCe fC dC) (bC:Binds K dC ["_law_script","_law_k"] []) (gC:mg "_law_cell_at"=some (.ref fC)) (GC:FnOk P w K mg base CX0 1 fC dC ["_law_script","_law_k"] (spCe K))
  (FM:Fun K "_law_machine" "_law_machine" sMa fM dM') (bM:Binds K dM' ["_law_script","_law_start","_law_most"] []) (gM:mg "_law_machine"=some (.ref fM)) (GM':FnOk P w K mg base CX0 2 fM dM' ["_law_script","_law_start","_law_most"] (spMq K))
  (FE:Fun K "_law_lesson" "_law_lesson" sLe fE dE) (bE:Binds K dE pLe []) (gE:mg "_law_lesson"=some (.ref fE)) (GE:FnOk P w K mg base CX0 9 fE dE pLe (spLe Pt))
  (FL:Fun K "least" "least" sLs fL dL) (bL:Binds K dL ["machine"] []) (gL:mg "least"=some (.ref fL)) (GL:FnOk P w K mg base CX0 3 fL dL ["machine"] spLs)
  (FN:Fun K "_law_counts" "_law_counts" sCt fN dN') (bN:Binds K dN' pCt []) (gN:mg "_law_counts"=some (.ref fN)) (GN:FnOk P w K mg base CX0 4 fN dN' pCt spCt):
  FnOk P w K mg base CX0 10 f fd ["_law_script"] (spLw K Pt):=by
 refine F.ok scLaw (fun vs H Q E h=>?_) (fun cdv A outer s H vs Q E hr h=>?_)
 ·obtain⟨_,_,rfl,_⟩:=h
  rfl
 ·obtain⟨a,ns,rfl,hS,n63,hPt,k⟩:=h
  have hr1:Room 1 _:=hr.mono (by decide)
  have hr2:Room 2 _:=hr.mono (by decide)
  have hr3:Room 3 _:=hr.mono (by decide)
  have hr4:Room 4 _:=hr.mono (by decide)
  have hu64:=hr.units
  refine⟨_,pss_cons (ps_set (i:=1) scLaw.nd rfl (Or.inl rfl) (pe_call GM' hr2 rfl gM FM.kp bM .nil pass0 (pa_cons (pv 0) (pa_cons pe_int (pa_cons pe_int pa_nil)))))
   (pss_cons (ps_set (i:=2) scLaw.nd rfl (Or.inl rfl) (pe_op op_mod (pe_call GC hr1 rfl gC FC.kp bC .nil pass0 (pa_cons (pv 0) (pa_cons (pe_op op_add pe_int (pe_op op_mul (pe_callB call_len_seq (by rfl) T.len PySem.boot_len (pa_cons (pe_ix ix_tup (pv 1) pe_int (fun _ _=>rfl)) pa_nil)) (pe_op op_add (pe_ix ix_tup (pv 1) pe_int (fun _ _=>rfl)) pe_int))) pa_nil))) pe_int))
   (pss_cons (ps_cut (ps_set (i:=3) scLaw.nd rfl (Or.inl rfl) (pe_ix ix_list (pe_lst (pa_cons pe_non (pa_cons pe_int (pa_cons pe_int (pa_cons pe_int pa_nil))))) (pe_op op_mod (pv 2) pe_int) (fun _ _=>rfl))))
   (pss_cons (ps_asg (pe_call GE hr rfl gE FE.kp bE .nil pass0 (pa_cons (pv 1) (pa_cons (pe_op op_fdiv (pv 2) pe_int) (pa_cons (pv 3) pa_nil)))) (pg_tup (n:=4) rfl (pgs_cons (pg_name (i:=4) scLaw.nd rfl (Or.inl rfl)) (pgs_cons (pg_name (i:=5) scLaw.nd rfl (Or.inl rfl)) (pgs_cons (pg_name (i:=6) scLaw.nd rfl (Or.inl rfl)) (pgs_cons (pg_name (i:=7) scLaw.nd rfl (Or.inl rfl)) pgs_nil))))))
   (pss_cons (ps_if (PW.pt (pw_or (pt_cmpR (op_neD hu64) (pe_ix ix_tup (pv 4) pe_int (fun _ _=>rfl)) (pe_call GL hr3 rfl gL FL.kp bL .nil pass0 (pa_cons (pv 1) pa_nil)) (nomark _))
    (pw_or1 (pt_not (pt_val (pe_call GN hr4 rfl gN FN.kp bN .nil pass0 (pa_cons (pv 4) (pa_cons (pv 5) (pa_cons (pv 6) (pa_cons (pv 7) (pa_cons (pe_ix ix_tup (pv 1) pe_int (fun _ _=>rfl)) pa_nil))))))))))) (pss_one (ps_ret pe_bl)) pss_nil)
   (pss_one (ps_ret (pe_cmpR (op_eqD hu64) (pe_ix ix_tup (pe_call GE hr rfl gE FE.kp bE .nil pass0 (pa_cons (pv 1) (pa_cons (pe_op op_fdiv (pv 2) pe_int) (pa_cons (pv 3) pa_nil)))) pe_int (fun _ _=>rfl)) (pv 4) (nomark _)))))))),?_⟩
  have q0:∀{H':Hp},Same H H'->SqL K H' a (ns.map V.int):=fun s'=>s'.seq hS
  refine⟨_,rfl,a,ns,0,6,rfl,hS,by decide,by decide,by decide,by decide,by decide,fun mA many M H1 s1 mac GM M6 m38=>?_⟩
  have mn:=GM.mn
  have gp:=GM.pos
  obtain⟨pr,qs,m1,m2,m3⟩:=id mac
  have lq:((qs.map V.ref).length:Int)=(M.length:Int):=by rw[List.length_map,m3.1]
  have p0:0<=((qs.map V.ref).length:Int)*(many+1):=Int.mul_nonneg (by omega) (by omega)
  have p1:((qs.map V.ref).length:Int)*(many+1)<=9*9:=Int.mul_le_mul (by omega) (by omega) (by omega) (by omega)
  refine⟨_,rfl,_,rfl,mA,_,_,_,rfl,rfl,SqT.of m1,rfl,pr,_,rfl,.inr (SqT.of m2),_,rfl,mA,_,_,_,rfl,rfl,SqT.of m1,rfl,_,_,rfl,rfl,_,_,rfl,rfl,.inr ⟨by omega,by omega⟩,_,_,rfl,rfl,a,ns,_,rfl,q0 s1,by omega,by omega,fun z H2 s2=>⟨_,_,rfl,rfl,(by show(0:Int)<2147483647;decide),?_⟩⟩
  have c0:0<=z%2147483647:=by omega
  refine⟨fun σ' H'=>∃(vm:V) (most:Int),((vm=.non/\most=6)\/vm=.int most)/\6<=most/\most<=8/\σ'=[some (.ref a),some (.ref mA),some (.int (z%2147483647)),some vm,none,none,none,none]/\Same H2 H',?_,?_⟩
  ·refine⟨(by show 4<=sizeLine;decide),fun pl hpl=>?_⟩
   have sl:Same H2 (upd H2 pl (.lst [.non,.int 6,.int 7,.int 8])):=(Same.refl H2).upd_free hpl
   have ql:upd H2 pl (.lst [.non,.int 6,.int 7,.int 8]) pl=some (.lst [.non,.int 6,.int 7,.int 8]):=upd_same
   generalize upd H2 pl (.lst [.non,.int 6,.int 7,.int 8])=H3 at sl ql ⊢
   refine⟨_,rfl,_,_,rfl,rfl,(by show(0:Int)<4;decide),?_⟩
   have b0:0<=z%2147483647%4:=by omega
   have b4:z%2147483647%4<4:=by omega
   have hu:z%2147483647%4=0\/z%2147483647%4=1\/z%2147483647%4=2\/z%2147483647%4=3:=by omega
   rcases hu with e|e|e|e
   ·exact⟨pl,_,_,.non,rfl,rfl,SqL.of ql,by rw[e];rfl,.non,6,.inl ⟨rfl,rfl⟩,by decide,by decide,rfl,sl⟩
   ·exact⟨pl,_,_,.int 6,rfl,rfl,SqL.of ql,by rw[e];rfl,.int 6,6,.inr rfl,by decide,by decide,rfl,sl⟩
   ·exact⟨pl,_,_,.int 7,rfl,rfl,SqL.of ql,by rw[e];rfl,.int 7,7,.inr rfl,by decide,by decide,rfl,sl⟩
   ·exact⟨pl,_,_,.int 8,rfl,rfl,SqL.of ql,by rw[e];rfl,.int 8,8,.inr rfl,by decide,by decide,rfl,sl⟩
  rintro σ' H3 ⟨vm,most,hvm,o6,o8,rfl,s3⟩
  have s13:Same H1 H3:=s2.trans s3
  refine⟨_,rfl,_,rfl,_,_,rfl,rfl,⟨by decide,by decide⟩,_,rfl,mA,many,z%2147483647 / 4,most,M,vm,rfl,.inl ((s1.trans s13) _ _ hPt),LN.MAt.ts mac s13.tups,GM,by omega,hvm,o6,o8,fun H4 q fa mmA asA hdA tdA as ms m ts sb tab4 L=>?_⟩
  refine⟨q,_,rfl,SqT.of L.tup,rfl,_,_,rfl,_,_,rfl,_,_,rfl,_,_,rfl,rfl,?_⟩
  have mac4:=LN.MAt.ts (LN.MAt.ts mac s13.tups) sb.1
  obtain⟨Cm,Bm⟩:=les_bi L
  refine⟨_,rfl,fa,_,_,_,rfl,rfl,SqT.of L.fnd,rfl,_,rfl,mA,many,M,rfl,mac4,GM,fun lA ns' ch H5 s5 ML C9 B9=>?_⟩
  have eL:minM M ns' ch=m:=canon (can_of GM C9 B9) Cm ((min_whole GM C9 B9).symm.trans Bm)
  rw[eL] at ML
  refine⟨dM many m,dM many m,m_dat (LN.MAt.ts L.mac s5.tups),m_dat ML,dM_ok _ _,dM_ok _ _,_,rfl,?_⟩
  have er:PyData.eqv (dM many m) (dM many m)=true:=SeqAt.eqv_refl _ (dM_ok _ _).1
  rw[er]
  refine iteF ?_
  have mac5:=LN.MAt.ts mac4 s5.tups
  obtain⟨pr5,qs5,n1,n2,n3⟩:=id mac5
  have L5:Les H5 q many (z%2147483647 / 4) most M fa mmA asA hdA tdA as ms m ts:=by
   obtain⟨l1,l2,l3,⟨aps,a1,a2⟩,⟨hps,b1,b2⟩,⟨us,c1,c2⟩,g,tc,fin,cnt,le⟩:=L
   exact⟨s5 _ _ l1,s5 _ _ l2,LN.MAt.ts l3 s5.tups,⟨aps,s5 _ _ a1,a2.tsame s5.tups⟩,⟨hps,s5 _ _ b1,b2.ts s5.tups⟩,⟨us,s5 _ _ c1,c2.ts s5.tups⟩,g,tc,fin,cnt,le⟩
  refine⟨_,rfl,_,rfl,_,rfl,_,rfl,_,rfl,mA,_,_,_,rfl,rfl,SqT.of n1,rfl,q,fa,mmA,asA,hdA,tdA,many,z%2147483647 / 4,most,M,as,ms,m,ts,rfl,L5,GM,by omega,m38,o8,fun H6 s6=>⟨true,rfl,iteF ?_⟩⟩
  refine⟨_,rfl,_,rfl,_,_,rfl,rfl,⟨by decide,by decide⟩,_,rfl,mA,many,z%2147483647 / 4,most,M,vm,rfl,(tab4.same s5).same s6,LN.MAt.ts mac5 s6.tups,GM,by omega,hvm,o6,o8,fun H7 q7 fa7 mmA7 asA7 hdA7 tdA7 as7 ms7 m7 ts7 sb7 tab7 L7=>?_⟩
  obtain⟨Cm7,Bm7⟩:=les_bi L7
  have em:m7=m:=canon Cm7 Cm (Bm7.symm.trans Bm)
  subst em
  have en:as7.length=as.length:=Fin.same (tcr_fu M many (z%2147483647 / 4)) L7.fin L.fin L7.tc L.tc
  have f7:=sb7.1 _ _ ((s5.trans s6).tups _ _ L.fnd)
  have k7:=LN.MAt.ts L.mac ((s5.trans s6).tups.trans sb7.1)
  refine⟨q7,_,_,_,rfl,rfl,SqT.of L7.tup,rfl,_,rfl,dN (dM many m7) as7.length,dN (dM many m7) as.length,.tup (SqT.of L7.fnd) (.cons (m_dat L7.mac) (.cons (.int _) .nil)),.tup (SqT.of f7) (.cons (m_dat k7) (.cons (.int _) .nil)),dN_ok _ _ _,dN_ok _ _ _,?_⟩
  rw[en]
  have er7:PyData.eqv (dN (dM many m7) as.length) (dN (dM many m7) as.length)=true:=SeqAt.eqv_refl _ (dN_ok _ _ _).1
  rw[er7]
  exact k _
end
end LN
namespace K21
open PySem L2 SO
section
variable {P:Program} {w:World} {K:W.Frag} {mg:Str->Option Value} {base:Heap}
theorem ok_all {its:Array Value}{d6:Value}(F:Fun K "law" "law" sLaw f fd)(T:Txt mg)
  (Y:LN.TK K CT) (MT:Mk K CT fTi) (gTb:mg "Table"=some (.ref CT)) (FTi:Fun K "__init__" "Table.__init__" sTi fTi dTi) (bTi:Binds K dTi ["self","many"] [])
  (FAn:Fun K "answer" "Table.answer" sAn fAn dAn) (mAn:Meth K CT "answer" fAn) (bAn:Binds K dAn ["self","run","may"] [])
  (FMo:Fun K "marks_of" "Table.marks_of" sMo fMo dMo) (mMo:Meth K CT "marks_of" fMo) (bMo:Binds K dMo ["self","head","may"] [])
  (FMb:Fun K "marks_behind" "Table.marks_behind" sMb fMb dMb) (mMb:Meth K CT "marks_behind" fMb) (bMb:Binds K dMb ["self","head","may"] [])
  (FFh:Fun K "find_heads" "Table.find_heads" sFh fFh dFh) (mFh:Meth K CT "find_heads" fFh) (bFh:Binds K dFh ["self","may","most"] [])
  (FLm:Fun K "least_machine" "Table.least_machine" sLm fLm dLm) (mLm:Meth K CT "least_machine" fLm) (bLm:Binds K dLm ["self","may"] [])
  (FAt:Fun K "add_tails" "Table.add_tails" sAt fAt dAt) (mAt:Meth K CT "add_tails" fAt) (bAt:Binds K dAt ["self","run"] [])
  (MX:MkX K CG fXg) (gN:mg "TooGreat"=some (.ref CG)) (FXg:Fun K "__init__" "TooGreat.__init__" sXg fXg dXg) (bXg:Binds K dXg ["self","number"] []) (hS:excSet K CG "number"=true) (rz:excRz K CG=true)
  (MP:MkX K CP fXp) (gP:mg "NoParting"=some (.ref CP)) (FXp:Fun K "__init__" "NoParting.__init__" sXp fXp dXp) (bXp:Binds K dXp ["self","run"] []) (hSp:excSet K CP "run"=true) (rzp:excRz K CP=true)
  (FFk:Fun K "finer_kinds" "finer_kinds" sFk fFk fdFk) (bFk:Binds K fdFk ["rooms","kinds"] []) (gFk:mg "finer_kinds"=some (.ref fFk))
  (FKl:Fun K "kinds_by_length" "kinds_by_length" sKl fKl fdKl) (bKl:Binds K fdKl ["rooms"] []) (gKl:mg "kinds_by_length"=some (.ref fKl))
  (FLs:Fun K "least" "least" sLs fLs fdLs) (bLs:Binds K fdLs ["machine"] []) (gLs:mg "least"=some (.ref fLs))
  (FMr:Fun K "merged_room" "merged_room" sMr fMr fdMr) (bMr:Binds K fdMr ["room","kinds","numbers"] []) (gMr:mg "merged_room"=some (.ref fMr))
  (FRB:Fun K "room_behind" "room_behind" sRB fRB fdRB) (bRB:Binds K fdRB ["machine","room","run"] []) (gRB:mg "room_behind"=some (.ref fRB))
  (FLB:Fun K "lets_by" "lets_by" sLB fLB fdLB) (bLB:Binds K fdLB ["machine","run"] []) (gLB:mg "lets_by"=some (.ref fLB))
  (FLt:FunD K "learnt" "learnt" sLt fLt fdLt its) (bLt:Binds K fdLt ["many","may","parting","most"] []) (gLt:mg "learnt"=some (.ref fLt))
  (FWh:Fun K "_law_whole" "_law_whole" sWh fWh fdWh) (bWh:Binds K fdWh ["_law_found"] []) (gWh:mg "_law_whole"=some (.ref fWh))
  (FCe:Fun K "_law_cell_at" "_law_cell_at" sCe fCe fdCe) (bCe:Binds K fdCe ["_law_script","_law_k"] []) (gCe:mg "_law_cell_at"=some (.ref fCe))
  (FMa:Fun K "_law_machine" "_law_machine" sMa fMa fdMa) (bMa:Binds K fdMa ["_law_script","_law_start","_law_most"] []) (gMa:mg "_law_machine"=some (.ref fMa))
  (FPt:Fun K "_law_part" "_law_part" sPt fPt fdPt) (bPt:Binds K fdPt ["_law_one","_law_other"] []) (gPt:mg "_law_part"=some (.ref fPt))
  (FGo:Fun K "_law_good" "_law_good" sGo fGo fdGo) (bGo:Binds K fdGo ["_law_machine_here","_law_run_here"] []) (gGo:mg "_law_good"=some (.ref fGo))
  (FRu:Fun K "_law_run" "_law_run" sRu fRu fdRu) (bRu:Binds K fdRu ["_law_number","_law_many"] []) (gRu:mg "_law_run"=some (.ref fRu))
  (FLo:Fun K "_law_longer" "_law_longer" sLo fLo fdLo) (bLo:Binds K fdLo ["_law_machine_here","_law_other","_law_run_here","_law_cell"] []) (gLo:mg "_law_longer"=some (.ref fLo))
  (FLe:Fun K "_law_lesson" "_law_lesson" sLe fLe fdLe) (bLe:Binds K fdLe ["_law_machine_here","_law_cell","_law_most"] []) (gLe:mg "_law_lesson"=some (.ref fLe))
  (FIm:Fun K "_law_is_machine" "_law_is_machine" sIm fIm fdIm) (bIm:Binds K fdIm ["_law_found","_law_many"] []) (gIm:mg "_law_is_machine"=some (.ref fIm))
  (FCt:Fun K "_law_counts" "_law_counts" sCt fCt fdCt) (bCt:Binds K fdCt ["_law_found","_law_asked","_law_handed","_law_told","_law_many"] []) (gCt:mg "_law_counts"=some (.ref fCt))
  (bLt1:Binds K fdLt ["many","may","parting","most"] [d6]) (r6:RelV (.int 6) d6)
  (hc:codeOf K fLe=some c) (C:W.CodeHd base c Pt) (B:BltAt mg base):FnOk P w K mg base CX0 10 f fd ["_law_script"] (LN.spLw K Pt):=by
 have GLs:∀base,FnOk P w K mg base CX0 3 fLs fdLs ["machine"] K23.spLs:=fun base=>K23.ok_ls FLs T FFk bFk gFk FKl bKl gKl FMr bMr gMr
 have GLB:∀base,FnOk P w K mg base CX0 2 fLB fdLB ["machine","run"] K20.spLB:=fun base=>LN.ok_lb FLB FRB bRB gRB
 have GTi:∀base,FnOk P w K mg base CX0 1 fTi dTi ["self","many"] (LN.spTi P w CT):=fun base=>LN.ok_ti FTi Y
 have GXg:∀base,FnOk P w K mg base CX0 1 fXg dXg ["self","number"] (LN.spNm CG):=fun base=>LN.ok_xg FXg hS
 have GAn:∀base,FnOk P w K mg base CX0 4 fAn dAn ["self","run","may"] (LN.spAn P w K mg base CT 3):=fun base=>LN.ok_an FAn Y 3
 have GMo:∀base,FnOk P w K mg base CX0 5 fMo dMo LN.nMo (LN.spMo P w K mg base CT 3):=fun base=>LN.ok_mo FMo Y T.tuple 3 mAn bAn (GAn base)
 have GMb:∀base,FnOk P w K mg base CX0 6 fMb dMb LN.nMo (LN.spMb P w K mg base CT 3):=fun base=>LN.ok_mb FMb Y T.range 3 mMo bMo (GMo base)
 have GFh:∀base,FnOk P w K mg base (CX1 P w) 7 fFh dFh ["self","may","most"] (LN.spFh P w K mg base CT CG 3):=fun base=>LN.ok_fh FFh Y T.len T.enum 3 mMo bMo (GMo base) mMb bMb (GMb base) MX gN bXg (GXg base) rz
 have GLm:∀base,FnOk P w K mg base CX0 7 fLm dLm ["self","may"] (LN.spLm P w K mg base CT 3):=fun base=>LN.ok_lm FLm Y T.tuple 3 (by decide) mAn bAn (GAn base) mMo bMo (GMo base) mMb bMb (GMb base) FLs bLs gLs (GLs base)
 have GAt:∀base,FnOk P w K mg base CX0 1 fAt dAt ["self","run"] (LN.spAt P w CT):=fun base=>LN.ok_at FAt Y T.len T.range
 have GLt:∀base,FnOk P w K mg base (CX1 P w) 8 fLt fdLt ["many","may","parting","most"] (LN.spLt P w K mg base CG CP 3):=fun base=>LN.ok_lt FLt Y T.len 3 MT gTb bTi (GTi base) mAn bAn (GAn base) mFh bFh (GFh base) mLm bLm (GLm base) mAt bAt (GAt base) FLB bLB gLB (GLB base) MP gP bXp (LN.ok_xp FXp hSp) rzp
 have GPt:∀base,FnOk P w K mg base CX0 1 fPt fdPt LN.pPt LN.spPt:=fun base=>LN.ok_pt FPt T
 have GLo:∀base,FnOk P w K mg base CX0 2 fLo fdLo LN.pLo LN.spLo:=fun base=>LN.ok_lo FLo T.int FRu bRu gRu (LN.ok_ru FRu T) FGo bGo gGo (LN.ok_go FGo)
 have GLe:FnOk P w K mg base CX0 9 fLe fdLe LN.pLe (LN.spLe Pt):=LN.ok_le FLe hc C B T.len FGo bGo gGo FPt bPt gPt GPt FLo bLo gLo GLo FLt bLt bLt1 r6 gLt GLt
 have GCt:FnOk P w K mg base CX0 4 fCt fdCt LN.pCt LN.spCt:=LN.ok_ct FCt T FWh bWh gWh (ok_wh FWh T) FIm bIm gIm (K23.ok_im FIm T FWh bWh gWh) FLs bLs gLs (GLs base)
 exact LN.ok_law F T FCe bCe gCe (ok_ce FCe T) FMa bMa gMa (LN.ok_ma FMa T FCe bCe gCe) FLe bLe gLe GLe FLs bLs gLs (GLs base) FCt bCt gCt GCt
end
abbrev spLaw (K:W.Frag):Sp:=LN.spLw K 211
end K21
namespace K21
open PySem L2
abbrev fO (x q:Str)(st:Stmt)(oc:Value)(od:Option Addr)(kV dc pm:Value)(an:Option Addr)(cd ct:Value)(sl:Array (Option Value)):Option Obj:=some ⟨oc,od,.func (W.fnOf x q (defArgs st) (defBody st) (defScope st) .none kV dc pm an cd ct),sl⟩
theorem all_mk {l:W.OpenLaw}{w:World}{K:W.Frag}{h:Heap}{mg:Str->Option Value}(X:K.In h)(G:h.Ns mainGlobals mg)(hfa:mg "law"=some (.ref fa))
  {tkdLt:Tok} {dTLt:Addr} {ddcLt:Value} {ddoLt:Option Addr} {ddsLt:Array (Option Value)} {ddnLt:Nat}
  (aCT:W.nsIn K mainGlobals "Table"=some (some (.ref CT)))
  (pgCT:W.plainGet K CT Str.empty=true)
  (hdCT:W.hasDictIn K CT=true)
  (poCT:W.plainOver K CT=true)
  (saCT:W.findIn K (.ref CT) "__setattr__"=some (some (.builtin "object.__setattr__")))
  (mkCT:W.makesIn K CT=true)
  (kcCT:W.keepIn K (.ref CT)=true)
  (haCT:W.findIn K (.ref CT) "__class__"=some (some (.builtin "object.__class__")))
  (hmCT:W.mroIn K CT (.type "object")=some true)
  (nCT_many:W.findIn K (.ref CT) "many"=some none)
  (nCT_heads:W.findIn K (.ref CT) "heads"=some none)
  (nCT_tails:W.findIn K (.ref CT) "tails"=some none)
  (nCT_answers:W.findIn K (.ref CT) "answers"=some none)
  (aCG:W.nsIn K mainGlobals "TooGreat"=some (some (.ref CG)))
  (kcCG:W.keepIn K (.ref CG)=true)
  (aCP:W.nsIn K mainGlobals "NoParting"=some (some (.ref CP)))
  (kcCP:W.keepIn K (.ref CP)=true)
  (hn:W.specialIn K (.builtin "object.__class__") "__get__"=some (some (.builtin "getset_descriptor.__get__")))
  (htk:W.takesIn K (.builtin "object.__class__")=some true)
  (xse:excSet K CG "number"=true)
  (xrz:excRz K CG=true)
  (xsp:excSet K CP "run"=true)
  (xrp:excRz K CP=true)
  (aFk:W.nsIn K mainGlobals "finer_kinds"=some (some (.ref fFk)))
  (lFk:K.lookup fFk=fO "finer_kinds" "finer_kinds" sFk ocFk odFk kVFk dcFk pmFk anFk cdFk ctFk slFk)
  (cFk:W.codeIn K cdFk "finer_kinds"=true)
  (kFk:W.keepIn K (.ref fFk)=true)
  (aKl:W.nsIn K mainGlobals "kinds_by_length"=some (some (.ref fKl)))
  (lKl:K.lookup fKl=fO "kinds_by_length" "kinds_by_length" sKl ocKl odKl kVKl dcKl pmKl anKl cdKl ctKl slKl)
  (cKl:W.codeIn K cdKl "kinds_by_length"=true)
  (kKl:W.keepIn K (.ref fKl)=true)
  (aLs:W.nsIn K mainGlobals "least"=some (some (.ref fLs)))
  (lLs:K.lookup fLs=fO "least" "least" sLs ocLs odLs kVLs dcLs pmLs anLs cdLs ctLs slLs)
  (cLs:W.codeIn K cdLs "least"=true)
  (kLs:W.keepIn K (.ref fLs)=true)
  (aMr:W.nsIn K mainGlobals "merged_room"=some (some (.ref fMr)))
  (lMr:K.lookup fMr=fO "merged_room" "merged_room" sMr ocMr odMr kVMr dcMr pmMr anMr cdMr ctMr slMr)
  (cMr:W.codeIn K cdMr "merged_room"=true)
  (kMr:W.keepIn K (.ref fMr)=true)
  (aRB:W.nsIn K mainGlobals "room_behind"=some (some (.ref fRB)))
  (lRB:K.lookup fRB=fO "room_behind" "room_behind" sRB ocRB odRB kVRB dcRB pmRB anRB cdRB ctRB slRB)
  (cRB:W.codeIn K cdRB "room_behind"=true)
  (kRB:W.keepIn K (.ref fRB)=true)
  (aLB:W.nsIn K mainGlobals "lets_by"=some (some (.ref fLB)))
  (lLB:K.lookup fLB=fO "lets_by" "lets_by" sLB ocLB odLB kVLB dcLB pmLB anLB cdLB ctLB slLB)
  (cLB:W.codeIn K cdLB "lets_by"=true)
  (kLB:W.keepIn K (.ref fLB)=true)
  (aLt:W.nsIn K mainGlobals "learnt"=some (some (.ref fLt)))
  (lLt:K.lookup fLt=some ⟨ocLt,odLt,.func (W.fnOf "learnt" "learnt" (defArgs sLt) (defBody sLt) (defScope sLt) (.ref dTLt) kVLt dcLt pmLt anLt cdLt ctLt),slLt⟩)
  (ddLt:K.lookup dTLt=some ⟨ddcLt,ddoLt,.seq #[.int 6 tkdLt] ddnLt,ddsLt⟩)
  (cLt:W.codeIn K cdLt "learnt"=true)
  (kLt:W.keepIn K (.ref fLt)=true)
  (aWh:W.nsIn K mainGlobals "_law_whole"=some (some (.ref fWh)))
  (lWh:K.lookup fWh=fO "_law_whole" "_law_whole" sWh ocWh odWh kVWh dcWh pmWh anWh cdWh ctWh slWh)
  (cWh:W.codeIn K cdWh "_law_whole"=true)
  (kWh:W.keepIn K (.ref fWh)=true)
  (aCe:W.nsIn K mainGlobals "_law_cell_at"=some (some (.ref fCe)))
  (lCe:K.lookup fCe=fO "_law_cell_at" "_law_cell_at" sCe ocCe odCe kVCe dcCe pmCe anCe cdCe ctCe slCe)
  (cCe:W.codeIn K cdCe "_law_cell_at"=true)
  (kCe:W.keepIn K (.ref fCe)=true)
  (aMa:W.nsIn K mainGlobals "_law_machine"=some (some (.ref fMa)))
  (lMa:K.lookup fMa=fO "_law_machine" "_law_machine" sMa ocMa odMa kVMa dcMa pmMa anMa cdMa ctMa slMa)
  (cMa:W.codeIn K cdMa "_law_machine"=true)
  (kMa:W.keepIn K (.ref fMa)=true)
  (aPt:W.nsIn K mainGlobals "_law_part"=some (some (.ref fPt)))
  (lPt:K.lookup fPt=fO "_law_part" "_law_part" sPt ocPt odPt kVPt dcPt pmPt anPt cdPt ctPt slPt)
  (cPt:W.codeIn K cdPt "_law_part"=true)
  (kPt:W.keepIn K (.ref fPt)=true)
  (aGo:W.nsIn K mainGlobals "_law_good"=some (some (.ref fGo)))
  (lGo:K.lookup fGo=fO "_law_good" "_law_good" sGo ocGo odGo kVGo dcGo pmGo anGo cdGo ctGo slGo)
  (cGo:W.codeIn K cdGo "_law_good"=true)
  (kGo:W.keepIn K (.ref fGo)=true)
  (aRu:W.nsIn K mainGlobals "_law_run"=some (some (.ref fRu)))
  (lRu:K.lookup fRu=fO "_law_run" "_law_run" sRu ocRu odRu kVRu dcRu pmRu anRu cdRu ctRu slRu)
  (cRu:W.codeIn K cdRu "_law_run"=true)
  (kRu:W.keepIn K (.ref fRu)=true)
  (aLo:W.nsIn K mainGlobals "_law_longer"=some (some (.ref fLo)))
  (lLo:K.lookup fLo=fO "_law_longer" "_law_longer" sLo ocLo odLo kVLo dcLo pmLo anLo cdLo ctLo slLo)
  (cLo:W.codeIn K cdLo "_law_longer"=true)
  (kLo:W.keepIn K (.ref fLo)=true)
  (aLe:W.nsIn K mainGlobals "_law_lesson"=some (some (.ref fLe)))
  (lLe:K.lookup fLe=fO "_law_lesson" "_law_lesson" sLe ocLe odLe kVLe dcLe pmLe anLe cdLe ctLe slLe)
  (cLe:W.codeIn K cdLe "_law_lesson"=true)
  (kLe:W.keepIn K (.ref fLe)=true)
  (aIm:W.nsIn K mainGlobals "_law_is_machine"=some (some (.ref fIm)))
  (lIm:K.lookup fIm=fO "_law_is_machine" "_law_is_machine" sIm ocIm odIm kVIm dcIm pmIm anIm cdIm ctIm slIm)
  (cIm:W.codeIn K cdIm "_law_is_machine"=true)
  (kIm:W.keepIn K (.ref fIm)=true)
  (aCt:W.nsIn K mainGlobals "_law_counts"=some (some (.ref fCt)))
  (lCt:K.lookup fCt=fO "_law_counts" "_law_counts" sCt ocCt odCt kVCt dcCt pmCt anCt cdCt ctCt slCt)
  (cCt:W.codeIn K cdCt "_law_counts"=true)
  (kCt:W.keepIn K (.ref fCt)=true)
  (aZ:W.nsIn K mainGlobals "law"=some (some (.ref fZ)))
  (lZ:K.lookup fZ=fO "law" "law" sLaw ocZ odZ kVZ dcZ pmZ anZ cdZ ctZ slZ)
  (cZ:W.codeIn K cdZ "law"=true)
  (kZ:W.keepIn K (.ref fZ)=true)
  (aTi:W.findIn K (.ref CT) "__init__"=some (some (.ref fTi)))
  (iTi:W.isFn K (.ref fTi)=true)
  (lTi:K.lookup fTi=fO "__init__" "Table.__init__" sTi ocTi odTi kVTi dcTi pmTi anTi cdTi ctTi slTi)
  (cTi:W.codeIn K cdTi "Table.__init__"=true)
  (kTi:W.keepIn K (.ref fTi)=true)
  (aAn:W.findIn K (.ref CT) "answer"=some (some (.ref fAn)))
  (iAn:W.isFn K (.ref fAn)=true)
  (lAn:K.lookup fAn=fO "answer" "Table.answer" sAn ocAn odAn kVAn dcAn pmAn anAn cdAn ctAn slAn)
  (cAn:W.codeIn K cdAn "Table.answer"=true)
  (kAn:W.keepIn K (.ref fAn)=true)
  (aMo:W.findIn K (.ref CT) "marks_of"=some (some (.ref fMo)))
  (iMo:W.isFn K (.ref fMo)=true)
  (lMo:K.lookup fMo=fO "marks_of" "Table.marks_of" sMo ocMo odMo kVMo dcMo pmMo anMo cdMo ctMo slMo)
  (cMo:W.codeIn K cdMo "Table.marks_of"=true)
  (kMo:W.keepIn K (.ref fMo)=true)
  (aMb:W.findIn K (.ref CT) "marks_behind"=some (some (.ref fMb)))
  (iMb:W.isFn K (.ref fMb)=true)
  (lMb:K.lookup fMb=fO "marks_behind" "Table.marks_behind" sMb ocMb odMb kVMb dcMb pmMb anMb cdMb ctMb slMb)
  (cMb:W.codeIn K cdMb "Table.marks_behind"=true)
  (kMb:W.keepIn K (.ref fMb)=true)
  (aFh:W.findIn K (.ref CT) "find_heads"=some (some (.ref fFh)))
  (iFh:W.isFn K (.ref fFh)=true)
  (lFh:K.lookup fFh=fO "find_heads" "Table.find_heads" sFh ocFh odFh kVFh dcFh pmFh anFh cdFh ctFh slFh)
  (cFh:W.codeIn K cdFh "Table.find_heads"=true)
  (kFh:W.keepIn K (.ref fFh)=true)
  (aLm:W.findIn K (.ref CT) "least_machine"=some (some (.ref fLm)))
  (iLm:W.isFn K (.ref fLm)=true)
  (lLm:K.lookup fLm=fO "least_machine" "Table.least_machine" sLm ocLm odLm kVLm dcLm pmLm anLm cdLm ctLm slLm)
  (cLm:W.codeIn K cdLm "Table.least_machine"=true)
  (kLm:W.keepIn K (.ref fLm)=true)
  (aAt:W.findIn K (.ref CT) "add_tails"=some (some (.ref fAt)))
  (iAt:W.isFn K (.ref fAt)=true)
  (lAt:K.lookup fAt=fO "add_tails" "Table.add_tails" sAt ocAt odAt kVAt dcAt pmAt anAt cdAt ctAt slAt)
  (cAt:W.codeIn K cdAt "Table.add_tails"=true)
  (kAt:W.keepIn K (.ref fAt)=true)
  (aXg:W.findIn K (.ref CG) "__init__"=some (some (.ref fXg)))
  (iXg:W.isFn K (.ref fXg)=true)
  (lXg:K.lookup fXg=fO "__init__" "TooGreat.__init__" sXg ocXg odXg kVXg dcXg pmXg anXg cdXg ctXg slXg)
  (cXg:W.codeIn K cdXg "TooGreat.__init__"=true)
  (kXg:W.keepIn K (.ref fXg)=true)
  (mxCG:excInI K CG fXg=true)
  (tfCG:W.typeIn K (.ref fXg)=some (.type "function"))
  (aXp:W.findIn K (.ref CP) "__init__"=some (some (.ref fXp)))
  (iXp:W.isFn K (.ref fXp)=true)
  (lXp:K.lookup fXp=fO "__init__" "NoParting.__init__" sXp ocXp odXp kVXp dcXp pmXp anXp cdXp ctXp slXp)
  (cXp:W.codeIn K cdXp "NoParting.__init__"=true)
  (kXp:W.keepIn K (.ref fXp)=true)
  (mxCP:excInI K CP fXp=true)
  (tfCP:W.typeIn K (.ref fXp)=some (.type "function"))
  (coLe:codeOf K fLe=some 215)
  (zlen:W.nsIn K mainGlobals "len"=some none)
  (zrange:W.nsIn K mainGlobals "range"=some none)
  (ztuple:W.nsIn K mainGlobals "tuple"=some none)
  (zisin:W.nsIn K mainGlobals "isinstance"=some none)
  (zint:W.nsIn K mainGlobals "int"=some none)
  (zbool:W.nsIn K mainGlobals "bool"=some none)
  (zzip:W.nsIn K mainGlobals "zip"=some none)
  (zset:W.nsIn K mainGlobals "set"=some none)
  (zenum:W.nsIn K mainGlobals "enumerate"=some none)
  (zsum:W.nsIn K mainGlobals "sum"=some none)
  :∃fd:FuncData,(∀(s:Shared) (v:Value),BindsTo s fd ⟨[v],[]⟩ [("_law_script",v)])/\∀base:Heap,K.In base->base.Ns mainGlobals mg->(∀q∈([(215,211)]:List (Addr×Addr)),W.CodeHd base q.1 q.2)->BltAt mg base->FnOk l.prog w K mg base CX0 10 fa fd ["_law_script"] (spLaw K):=by
 have e:=hfa.symm.trans (W.mg_of X G aZ)
 cases e
 have T:Txt mg:=⟨W.mg_none_of X G zlen,W.mg_none_of X G zrange,W.mg_none_of X G ztuple,W.mg_none_of X G zisin,W.mg_none_of X G zint,W.mg_none_of X G zbool,W.mg_none_of X G zzip,W.mg_none_of X G zset,W.mg_none_of X G zenum,W.mg_none_of X G zsum⟩
 have mgCT:=W.mg_of X G aCT
 have clCT:Cls K CT:=⟨pgCT,hdCT,poCT,saCT⟩
 have mgCG:=W.mg_of X G aCG
 have mgCP:=W.mg_of X G aCP
 have FFk:=fun_mk (st:=sFk) lFk cFk kFk
 have bFk:=FFk.binds (ps:=["rooms","kinds"]) fun _ _ _ _ _ _ u h=>match u,h with | [_,_],_=>rfl
 have FKl:=fun_mk (st:=sKl) lKl cKl kKl
 have bKl:=FKl.binds (ps:=["rooms"]) fun _ _ _ _ _ _ u h=>match u,h with | [_],_=>rfl
 have FLs:=fun_mk (st:=sLs) lLs cLs kLs
 have bLs:=FLs.binds (ps:=["machine"]) fun _ _ _ _ _ _ u h=>match u,h with | [_],_=>rfl
 have FMr:=fun_mk (st:=sMr) lMr cMr kMr
 have bMr:=FMr.binds (ps:=["room","kinds","numbers"]) fun _ _ _ _ _ _ u h=>match u,h with | [_,_,_],_=>rfl
 have FRB:=fun_mk (st:=sRB) lRB cRB kRB
 have bRB:=FRB.binds (ps:=["machine","room","run"]) fun _ _ _ _ _ _ u h=>match u,h with | [_,_,_],_=>rfl
 have FLB:=fun_mk (st:=sLB) lLB cLB kLB
 have bLB:=FLB.binds (ps:=["machine","run"]) fun _ _ _ _ _ _ u h=>match u,h with | [_,_],_=>rfl
 have FLt:=funD_mk (st:=sLt) lLt ddLt cLt kLt
 have bLt:=FLt.binds (ps:=["many","may","parting","most"]) (ds:=[]) fun _ _ _ _ _ _ _ us hl=>match us,hl with | [_,_,_,_],_=>⟨_,rfl,rfl⟩
 have FWh:=fun_mk (st:=sWh) lWh cWh kWh
 have bWh:=FWh.binds (ps:=["_law_found"]) fun _ _ _ _ _ _ u h=>match u,h with | [_],_=>rfl
 have FCe:=fun_mk (st:=sCe) lCe cCe kCe
 have bCe:=FCe.binds (ps:=["_law_script","_law_k"]) fun _ _ _ _ _ _ u h=>match u,h with | [_,_],_=>rfl
 have FMa:=fun_mk (st:=sMa) lMa cMa kMa
 have bMa:=FMa.binds (ps:=["_law_script","_law_start","_law_most"]) fun _ _ _ _ _ _ u h=>match u,h with | [_,_,_],_=>rfl
 have FPt:=fun_mk (st:=sPt) lPt cPt kPt
 have bPt:=FPt.binds (ps:=["_law_one","_law_other"]) fun _ _ _ _ _ _ u h=>match u,h with | [_,_],_=>rfl
 have FGo:=fun_mk (st:=sGo) lGo cGo kGo
 have bGo:=FGo.binds (ps:=["_law_machine_here","_law_run_here"]) fun _ _ _ _ _ _ u h=>match u,h with | [_,_],_=>rfl
 have FRu:=fun_mk (st:=sRu) lRu cRu kRu
 have bRu:=FRu.binds (ps:=["_law_number","_law_many"]) fun _ _ _ _ _ _ u h=>match u,h with | [_,_],_=>rfl
 have FLo:=fun_mk (st:=sLo) lLo cLo kLo
 have bLo:=FLo.binds (ps:=["_law_machine_here","_law_other","_law_run_here","_law_cell"]) fun _ _ _ _ _ _ u h=>match u,h with | [_,_,_,_],_=>rfl
 have FLe:=fun_mk (st:=sLe) lLe cLe kLe
 have bLe:=FLe.binds (ps:=["_law_machine_here","_law_cell","_law_most"]) fun _ _ _ _ _ _ u h=>match u,h with | [_,_,_],_=>rfl
 have FIm:=fun_mk (st:=sIm) lIm cIm kIm
 have bIm:=FIm.binds (ps:=["_law_found","_law_many"]) fun _ _ _ _ _ _ u h=>match u,h with | [_,_],_=>rfl
 have FCt:=fun_mk (st:=sCt) lCt cCt kCt
 have bCt:=FCt.binds (ps:=["_law_found","_law_asked","_law_handed","_law_told","_law_many"]) fun _ _ _ _ _ _ u h=>match u,h with | [_,_,_,_,_],_=>rfl
 have FZ:=fun_mk (st:=sLaw) lZ cZ kZ
 have FTi:=fun_mk (st:=sTi) lTi cTi kTi
 have bTi:=FTi.binds (ps:=["self","many"]) fun _ _ _ _ _ _ u h=>match u,h with | [_,_],_=>rfl
 have FAn:=fun_mk (st:=sAn) lAn cAn kAn
 have bAn:=FAn.binds (ps:=["self","run","may"]) fun _ _ _ _ _ _ u h=>match u,h with | [_,_,_],_=>rfl
 have FMo:=fun_mk (st:=sMo) lMo cMo kMo
 have bMo:=FMo.binds (ps:=["self","head","may"]) fun _ _ _ _ _ _ u h=>match u,h with | [_,_,_],_=>rfl
 have FMb:=fun_mk (st:=sMb) lMb cMb kMb
 have bMb:=FMb.binds (ps:=["self","head","may"]) fun _ _ _ _ _ _ u h=>match u,h with | [_,_,_],_=>rfl
 have FFh:=fun_mk (st:=sFh) lFh cFh kFh
 have bFh:=FFh.binds (ps:=["self","may","most"]) fun _ _ _ _ _ _ u h=>match u,h with | [_,_,_],_=>rfl
 have FLm:=fun_mk (st:=sLm) lLm cLm kLm
 have bLm:=FLm.binds (ps:=["self","may"]) fun _ _ _ _ _ _ u h=>match u,h with | [_,_],_=>rfl
 have FAt:=fun_mk (st:=sAt) lAt cAt kAt
 have bAt:=FAt.binds (ps:=["self","run"]) fun _ _ _ _ _ _ u h=>match u,h with | [_,_],_=>rfl
 have FXg:=fun_mk (st:=sXg) lXg cXg kXg
 have bXg:=FXg.binds (ps:=["self","number"]) fun _ _ _ _ _ _ u h=>match u,h with | [_,_],_=>rfl
 have FXp:=fun_mk (st:=sXp) lXp cXp kXp
 have bXp:=FXp.binds (ps:=["self","run"]) fun _ _ _ _ _ _ u h=>match u,h with | [_,_],_=>rfl
 have gFk:=W.mg_of X G aFk
 have gKl:=W.mg_of X G aKl
 have gLs:=W.mg_of X G aLs
 have gMr:=W.mg_of X G aMr
 have gRB:=W.mg_of X G aRB
 have gLB:=W.mg_of X G aLB
 have gLt:=W.mg_of X G aLt
 have gWh:=W.mg_of X G aWh
 have gCe:=W.mg_of X G aCe
 have gMa:=W.mg_of X G aMa
 have gPt:=W.mg_of X G aPt
 have gGo:=W.mg_of X G aGo
 have gRu:=W.mg_of X G aRu
 have gLo:=W.mg_of X G aLo
 have gLe:=W.mg_of X G aLe
 have gIm:=W.mg_of X G aIm
 have gCt:=W.mg_of X G aCt
 have MCT:Mk K CT fTi:=⟨mkCT,aTi,iTi,kcCT⟩
 have mAn:Meth K CT "answer" fAn:=⟨aAn,iAn,kAn⟩
 have mMo:Meth K CT "marks_of" fMo:=⟨aMo,iMo,kMo⟩
 have mMb:Meth K CT "marks_behind" fMb:=⟨aMb,iMb,kMb⟩
 have mFh:Meth K CT "find_heads" fFh:=⟨aFh,iFh,kFh⟩
 have mLm:Meth K CT "least_machine" fLm:=⟨aLm,iLm,kLm⟩
 have mAt:Meth K CT "add_tails" fAt:=⟨aAt,iAt,kAt⟩
 have MCG:MkX K CG fXg:=⟨mxCG,tfCG,kcCG⟩
 have MCP:MkX K CP fXp:=⟨mxCP,tfCP,kcCP⟩
 have Y:LN.TK K CT:=⟨clCT,nCT_many,nCT_heads,nCT_tails,nCT_answers⟩
 have bLt1:=FLt.binds (ps:=["many","may","parting","most"]) (ds:=[.int 6 tkdLt]) fun _ _ _ _ _ _ _ us hl=>match us,hl with | [_,_,_],_=>⟨_,rfl,rfl⟩ | [],h=>absurd h (by simp) | [_],h=>absurd h (by simp) | [_,_],h=>absurd h (by simp)|_::_::_::_::t,h=>absurd h (by simp)
 exact⟨W.fnOf "law" "law" (defArgs sLaw) (defBody sLaw) (defScope sLaw) .none kVZ dcZ pmZ anZ cdZ ctZ,fun s v=>.of_eq rfl,fun base _ _ hC9 hB9=>ok_all FZ T Y MCT mgCT FTi bTi FAn mAn bAn FMo mMo bMo FMb mMb bMb FFh mFh bFh FLm mLm bLm FAt mAt bAt MCG mgCG FXg bXg xse xrz MCP mgCP FXp bXp xsp xrp FFk bFk gFk FKl bKl gKl FLs bLs gLs FMr bMr gMr FRB bRB gRB FLB bLB gLB FLt bLt gLt FWh bWh gWh FCe bCe gCe FMa bMa gMa FPt bPt gPt FGo bGo gGo FRu bRu gRu FLo bLo gLo FLe bLe gLe FIm bIm gIm FCt bCt gCt bLt1 ⟨_,rfl⟩ coLe (hC9 (215,211) (by simp)) hB9⟩
theorem walk {l:W.OpenLaw}{q:Program}{loose:List Str}{XP:(Str->Option Value)->Heap->Prop}{YP:World->Heap->Prop}{d:DefRec}{K:Params->W.Frag}(hn:l.most=some 63)(hdf:d.params.defaults=[])
  (hY:∀(w:World) (h:Heap),YP w h->(K w.params).In h)
  (hT:∀(w:World) (h:Heap) (mg mb:Str->Option Value) (mean:ExcName->Option Value),(K w.params).In h->PyProof.Rows.Top q (W.looseW q loose) mean mg mb h->W.TabsAt ([(215,211)]:List (Addr×Addr)) h) (hKt:∀p,W.noTabs (K p)=true)
  (F:∀(w:World) (mg:Str->Option Value) (fa:Addr) (h:Heap),(K w.params).In h->h.Ns mainGlobals mg->mg d.name=some (.ref fa)→
   ∃fd:FuncData,(∀(s:Shared) (u:Value),BindsTo s fd ⟨[u],[]⟩ [("_law_script",u)])/\∀base:Heap,(K w.params).In base->base.Ns mainGlobals mg->(∀q∈([(215,211)]:List (Addr×Addr)),W.CodeHd base q.1 q.2)->BltAt mg base->FnOk l.prog w (K w.params) mg base CX0 10 fa fd ["_law_script"] (spLaw (K w.params))):
  W.WalkO q loose XP YP l.row.toRowW d [] (fun f vs=>PySem.call f vs):=
 L2.walk_ofT (n:=63) (k:=10) (x:="_law_script") (CX:=fun _=>CX0) (sp:=fun w=>spLaw (K w.params)) hn (by decide) hdf ⟨rfl,by decide,by decide⟩ hY hT hKt F (fun _ _ a ns hl hT hS=>⟨a,ns,rfl,hS,hl,hT (215,211) (by simp),fun _=>rfl⟩) fun _ _ _ _ _ z=>z
end K21
open PySem PySem.W PyProof.Rows
set_option maxRecDepth 100000 in
set_option maxHeartbeats 0 in
theorem PySem.Challenge.cw_logloom_k30_learnt_holds : PySem.Challenge.rw_logloom_k30_learnt.Holds := by
 w_on;refine PySem.W.holds_law hWs30 fun said=>?_
 refine PySem.W.holds_open (q:=K21.hQ) (loose:=[PySem.Str.ofString "learnt"]) (Xt:=K21.hX)
  (XP:=PySem.W.XL K21.hQ [])
  (Yf:=(PySem.W.kHook K21.hK K21.hA K21.hE).obs) (Ya:=(PySem.W.kHook K21.hK K21.hA K21.hE).val)
  (YP:=(PySem.W.kHook K21.hK K21.hA K21.hE).says)
  (N:=3512) K21.hL (PySem.W.kHook K21.hK K21.hA K21.hE).of (PySem.W.kHook K21.hK K21.hA K21.hE).keeps
  (fun s e=>PySem.W.xl_of s (Bool.and_eq_true_iff.mp e).1) PySem.W.XL.keeps
  rfl rfl rfl
  (fun s e=>PySem.W.recFacts_of (Bool.and_eq_true_iff.mp e).2)
  rfl (by first|assumption|decide +kernel) (by decide +kernel)
  ⟨rfl,rfl,rfl,rfl,rfl,by decide +kernel⟩ ?hw ?hc
 case hw=>w_witness2
 k_fill
 refine K21.walk (l:=PySem.Challenge.rw_logloom_k30_learnt) rfl rfl (fun w h Y=>PySem.W.kIn_of Y) (fun w h mg mb mean KX T=>List.forall_mem_cons.mpr ⟨PySem.W.tab_of (x:=PySem.Str.ofString "_law_lesson") (c:=215) (P:=211) T KX rfl (by kernel_rfl),fun _ h=>nomatch h⟩) (fun p=>by kernel_rfl) ?F
 case F=>
  intro w mg fa h KX G hmg
  refine' K21.all_mk KX G hmg ?aCT ?pgCT ?hdCT ?poCT ?saCT ?mkCT ?kcCT ?haCT ?hmCT ?nCT_many ?nCT_heads ?nCT_tails ?nCT_answers ?aCG ?kcCG ?aCP ?kcCP ?hn ?htk ?xse ?xrz ?xsp ?xrp ?aFk ?lFk ?cFk ?kFk ?aKl ?lKl ?cKl ?kKl ?aLs ?lLs ?cLs ?kLs ?aMr ?lMr ?cMr ?kMr ?aRB ?lRB ?cRB ?kRB ?aLB ?lLB ?cLB ?kLB ?aLt ?lLt ?ddLt ?cLt ?kLt ?aWh ?lWh ?cWh ?kWh ?aCe ?lCe ?cCe ?kCe ?aMa ?lMa ?cMa ?kMa ?aPt ?lPt ?cPt ?kPt ?aGo ?lGo ?cGo ?kGo ?aRu ?lRu ?cRu ?kRu ?aLo ?lLo ?cLo ?kLo ?aLe ?lLe ?cLe ?kLe ?aIm ?lIm ?cIm ?kIm ?aCt ?lCt ?cCt ?kCt ?aZ ?lZ ?cZ ?kZ ?aTi ?iTi ?lTi ?cTi ?kTi ?aAn ?iAn ?lAn ?cAn ?kAn ?aMo ?iMo ?lMo ?cMo ?kMo ?aMb ?iMb ?lMb ?cMb ?kMb ?aFh ?iFh ?lFh ?cFh ?kFh ?aLm ?iLm ?lLm ?cLm ?kLm ?aAt ?iAt ?lAt ?cAt ?kAt ?aXg ?iXg ?lXg ?cXg ?kXg ?mxCG ?tfCG ?aXp ?iXp ?lXp ?cXp ?kXp ?mxCP ?tfCP ?coLe ?zlen ?zrange ?ztuple ?zisin ?zint ?zbool ?zzip ?zset ?zenum ?zsum
  case aCT|pgCT|hdCT|poCT|saCT|mkCT|kcCT|haCT|hmCT|nCT_many|nCT_heads|nCT_tails|nCT_answers|aCG|kcCG|aCP|kcCP|hn|htk=>k_is
  case xse|xrz|xsp|xrp=>(first|kernel_rfl|decide +kernel)
  case aFk|lFk|cFk|kFk|aKl|lKl|cKl|kKl|aLs|lLs|cLs|kLs|aMr|lMr|cMr|kMr|aRB|lRB|cRB|kRB|aLB|lLB|cLB|kLB|aLt|lLt|ddLt|cLt|kLt|aWh|lWh|cWh|kWh|aCe|lCe|cCe|kCe|aMa|lMa|cMa|kMa|aPt|lPt|cPt|kPt|aGo|lGo|cGo|kGo|aRu|lRu|cRu|kRu|aLo|lLo|cLo|kLo|aLe|lLe|cLe|kLe|aIm|lIm|cIm|kIm|aCt|lCt|cCt|kCt|aZ|lZ|cZ|kZ|aTi|iTi|lTi|cTi|kTi|aAn|iAn|lAn|cAn|kAn|aMo|iMo|lMo|cMo|kMo|aMb|iMb|lMb|cMb|kMb|aFh|iFh|lFh|cFh|kFh|aLm|iLm|lLm|cLm|kLm|aAt|iAt|lAt|cAt|kAt|aXg|iXg|lXg|cXg|kXg=>k_is
  case mxCG|tfCG=>(first|kernel_rfl|decide +kernel)
  case aXp|iXp|lXp|cXp|kXp=>k_is
  case mxCP|tfCP|coLe=>(first|kernel_rfl|decide +kernel)
  case zlen|zrange|ztuple|zisin|zint|zbool|zzip|zset|zenum|zsum=>k_is
