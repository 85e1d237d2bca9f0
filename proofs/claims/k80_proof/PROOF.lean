import PyProof.Rows.All
import Wide.All
import OpenK.AllK
import Wide.FinOn
import Lean
import PyProof.EqAt
import PyProof.EqKinds
import PyProof.TupleCall
import PySem.Challenge.RW_logloom_k80_looms_of_texts
set_option Elab.async false
set_option linter.all false
set_option maxRecDepth 100000
abbrev zE1:=PySem.Value->PySem.Shared->Prop
abbrev zT1:=List (List Int)
abbrev zT2:=List (PySem.Addr×PySem.Obj)
abbrev zT3:=PySem.Str->Option PySem.Value
namespace HT
open PySem PySem.W
abbrev annR:Option Value:=some (.ref 6)
noncomputable abbrev okQ:Thread->Bool:=Fast.tw6613529449190102663 11 annR
noncomputable abbrev stQ (p:Program) (w:World):SharedT->Thread->Option (SharedT×Thread):=
 Fast.tw10156331382660048174 (Fast.tw11892475500146522536 Fast.tw14364793385576792824) p w
noncomputable def runQ (p:Program) (w:World):Nat->SharedT->Thread->Option SharedT
 |0,_,_=>none
 |fuel+1,a,th=>@Bool.rec (fun _=>Option SharedT)
   (@Bool.rec (fun _=>Option SharedT) none (@Option.rec (SharedT×Thread) (fun _=>Option SharedT) none (fun r=>runQ p w fuel r.1 r.2) (stQ p w a th)) (okQ th))
   (some a) (through th)
theorem zJk (th:Thread):okQ th=stepOk 11 annR th:=by
 show Fast.tw6613529449190102663 11 annR th=_
 rw[<- Fast.te6613529449190102663]
theorem zKk (p:Program)(w:World)(a:SharedT)(th:Thread):stQ p w a th=stepT (denote treeTable) p w a th:=by
 show Fast.tw10156331382660048174 (Fast.tw11892475500146522536 Fast.tw14364793385576792824) p w a th=_
 rw[<- Fast.te10156331382660048174,<- Fast.te11892475500146522536,<- Fast.te14364793385576792824]
theorem zQe {p:Program}{w:World}:∀(fuel:Nat)(a b:SharedT)(th:Thread),
  runQ p w fuel a th=some b->topRun treeTable p w 11 annR fuel a.abs th=some b.abs
 |0,_,_,_,e=>by cases e
 |fuel+1,a,b,th,e=>by
  unfold runQ at e
  unfold topRun
  rw[zJk,zKk] at e
  cases e1:through th
  ·rw[e1] at e
   cases e2:stepOk 11 annR th
   ·rw[e2] at e;cases e
   ·rw[e2] at e
    cases e3:stepT (denote treeTable) p w a th with
    |none=>rw[e3] at e;cases e
    |some r=>
     rw[e3] at e
     have e4:=stepT_spec (s':=r.1) (t':=r.2) e3
     rw[e4]
     exact zQe fuel r.1 b r.2 e
  ·rw[e1] at e
   have:a=b:=Option.some.inj e
   rw[this]
noncomputable def bT (P:Params):BT:=
 .node (boot_o_0 P)
  (.node (boot_o_1 P) (.node (boot_o_3 P) (.node (boot_o_7 P) .nil .nil) .nil) (.node (boot_o_5 P) (.node (boot_o_9 P) .nil .nil) .nil))
  (.node (boot_o_2 P) (.node (boot_o_4 P) (.node (boot_o_8 P) .nil .nil) .nil) (.node (boot_o_6 P) (.node (boot_o_10 P) .nil .nil) .nil))
theorem zkj:∀P,boot_heap P=absHeap (bT P) 11 {}:=fun P=>by kernel_rfl
noncomputable abbrev at0 (w:World) (os:OsState):SharedT:=⟨bT w.params,11,{},Array.mk [],boot_drawn,boot_toks,os⟩
theorem zlj (w:World)(os:OsState):(at0 w os).abs=⟨boot_heap w.params,Array.mk [],boot_drawn,boot_toks,os⟩:=by
 rw[zkj];rfl
theorem zxf:∀P:Params,(((boot_heap P).isNs mainGlobals&&(#[]:Array GenState).size==0)=true/\(boot_heap P).objs.size=11)∧
  (boot_heap P).nsMap mainGlobals "__annotations__"=annR:=fun P=>⟨⟨by kernel_rfl,by kernel_rfl⟩,by kernel_rfl⟩
noncomputable abbrev kept (p:Program) (P:Params) (b:Shared):Bool:=
 staticsOk (importedModules p.main.body) (boot_heap P) b.heap&&namesBound p b.heap&&gensDone b&&laidKept (boot_heap P) b.heap
theorem zLk {p q:Program}{loose:List Str}{Xt:Shared->Bool}{α:Type}{Yf:Shared->α}{Ya:World->α}{N:Nat}{g0:Bool}
  (e:opening p=plainProg p.main.scope.names)(hN:Nat.ble 600 N=true)(f:∀s,fenceModules? p s=some s)
  (run:∀(w:World)(os:OsState),(runQ p w N (at0 w os) (topStub p)).map (fun b=>
   (kept p w.params b.abs,Fast.tw4187177175401517315 q loose (importedModules p.main.body) Xt g0 b.abs,Yf b.abs))=some (true,openGood q loose,Ya w)):
  LeftO p q loose Xt Yf Ya N g0:=by
 intro w
 obtain⟨⟨hp,gs,d,k,os⟩,o1,o2⟩:=Option.map_eq_some_iff.mp (boot_open e hN f w)
 obtain⟨rfl,rfl,rfl,rfl⟩:hp=boot_heap w.params/\gs=Array.mk []/\d=boot_drawn/\k=boot_toks:=by
  simpa using o2
 obtain⟨⟨z1,z2⟩,z3⟩:=zxf w.params
 have r:=run w os
 rw[<- Fast.te4187177175401517315] at r
 obtain⟨b,r1,r2⟩:=Option.map_eq_some_iff.mp r
 rw[Prod.mk.injEq,Prod.mk.injEq] at r2
 have r3:=zQe N _ b _ r1
 rw[zlj] at r3
 have r4:topFrom treeTable p w N ⟨boot_heap w.params,Array.mk [],boot_drawn,boot_toks,os⟩=some b.abs:=by
  have k1:kept p w.params b.abs=true:=r2.1
  unfold kept at k1
  unfold topFrom
  simp only[z1,z2,z3,r3,Option.bind_some,k1]
 have r5:openEnds treeTable p w N=some b.abs:=by
  unfold openEnds
  simp only[o1,Option.bind_some,r4]
 rw[r5]
 exact congrArg some (by rw[<- r2.2.1,<- r2.2.2])
theorem left3 {p q:Program}{loose:List Str}{Xt:Shared->Bool}{α:Type}{Yf:Shared->α}{Ya:World->α}{N:Nat}{g0:Bool}(e:opening p=plainProg p.main.scope.names)(hN:Nat.ble 600 N=true)(f:∀s,fenceModules? p s=some s)
 (r1:∀(w:World)(os:OsState),(runQ p w N (at0 w os) (topStub p)).map (fun b=>kept p w.params b.abs)=some true)
 (r2:∀(w:World)(os:OsState),(runQ p w N (at0 w os) (topStub p)).map (fun b=>Fast.tw4187177175401517315 q loose (importedModules p.main.body) Xt g0 b.abs)=some (openGood q loose))
 (r3:∀(w:World)(os:OsState),(runQ p w N (at0 w os) (topStub p)).map (fun b=>Yf b.abs)=some (Ya w)):LeftO p q loose Xt Yf Ya N g0:=
 zLk e hN f fun w os=>by
 obtain⟨b,e1,e2⟩:=Option.map_eq_some_iff.mp (r1 w os)
 have h2:=r2 w os
 have h3:=r3 w os
 rw[e1] at h2 h3 ⊢
 exact congrArg some (Prod.ext e2 (Prod.ext (Option.some.inj h2) (Option.some.inj h3)))
theorem zvm {p q:Program}{loose:List Str}{Xt:Shared->Bool}{α:Type}{Yf:Shared->α}{Ya:World->α}{N:Nat}{g0:Bool}(e:opening p=plainProg p.main.scope.names)(hN:Nat.ble 600 N=true)(f:∀s,fenceModules? p s=some s)
 (r1:∀(w:World)(os:OsState),(runQ p w N (at0 w os) (topStub p)).map (fun b=>kept p w.params b.abs)=some true)
 (r4:∀(w:World)(os:OsState),(runQ p w N (at0 w os) (topStub p)).map (fun b=>(Fast.tw4187177175401517315 q loose (importedModules p.main.body) Xt g0 b.abs).2)=some (openGood q loose).2)
 (r5:∀(w:World)(os:OsState),(runQ p w N (at0 w os) (topStub p)).map (fun b=>(Fast.tw4187177175401517315 q loose (importedModules p.main.body) Xt g0 b.abs).1)=some (openGood q loose).1)
 (r3:∀(w:World)(os:OsState),(runQ p w N (at0 w os) (topStub p)).map (fun b=>Yf b.abs)=some (Ya w)):LeftO p q loose Xt Yf Ya N g0:=
 zLk e hN f fun w os=>by
 obtain⟨b,e1,e2⟩:=Option.map_eq_some_iff.mp (r1 w os)
 have h3:=r3 w os
 have h4:=r4 w os
 have h5:=r5 w os
 rw[e1] at h3 h4 h5 ⊢
 exact congrArg some (Prod.ext e2 (Prod.ext (Prod.ext (Option.some.inj h5) (Option.some.inj h4)) (Option.some.inj h3)))
end HT
namespace L2
open PySem
def inClass (s:Stmt)(j:Nat):Stmt:=match s with
 |.ClassDef _ _ _ body _ _ _ _ _ _ _=>body.getD j (.Pass ⟨0,0,0,0⟩)
 |_=>.Pass ⟨0,0,0,0⟩
def zk (s:Stmt):Arguments:=match s with
 |.FunctionDef _ a _ _ _ _ _ _ _ _=>a
 |_=>{ posonlyargs:=[],args:=[],vararg:=none,kwonlyargs:=[],kw_defaults:=[],kwarg:=none,defaults:=[] }
def zj (s:Stmt):List Stmt:=match s with
 |.FunctionDef _ _ b _ _ _ _ _ _ _=>b
 |_=>[]
def zb (s:Stmt):Scope:=match s with
 |.FunctionDef _ _ _ _ _ _ sc _ _ _=>sc
 |_=>{ kind:=.function,names:=[],isGenerator:=false,isCoroutine:=false }
end L2
namespace SL
open PySem L2
def top (i:Nat):Stmt:=PySem.Challenge.pw_logloom_k80_looms_of_texts.main.body.getD i (.Pass ⟨0,0,0,0⟩)
abbrev sRi:Stmt:=inClass (top 3) 0
abbrev sXf:Stmt:=inClass (top 4) 0
abbrev sXm:Stmt:=inClass (top 5) 0
abbrev sXu:Stmt:=inClass (top 6) 0
abbrev sMo:Stmt:=top 15
abbrev sPw:Stmt:=inClass (top 16) 0
abbrev sPt:Stmt:=inClass (top 16) 1
abbrev sNw:Stmt:=inClass (top 17) 0
abbrev sNt:Stmt:=inClass (top 17) 1
abbrev sAw:Stmt:=inClass (top 18) 0
abbrev sAt:Stmt:=inClass (top 18) 1
abbrev sIw:Stmt:=inClass (top 19) 0
abbrev sIt:Stmt:=inClass (top 19) 1
abbrev sKw:Stmt:=inClass (top 20) 0
abbrev sKt:Stmt:=inClass (top 20) 1
abbrev sIi:Stmt:=top 21
abbrev sAl:Stmt:=top 22
abbrev sSo:Stmt:=top 23
abbrev sIg:Stmt:=top 25
abbrev sPa:Stmt:=top 26
abbrev sFm:Stmt:=top 27
abbrev sWr:Stmt:=top 28
abbrev sGs:Stmt:=top 29
abbrev sFx:Stmt:=top 30
abbrev sUn:Stmt:=top 32
abbrev sWa:Stmt:=top 33
abbrev sLp:Stmt:=top 34
abbrev sLf:Stmt:=top 35
abbrev sFw:Stmt:=top 36
abbrev sRin:Stmt:=top 39
abbrev sWt:Stmt:=top 40
abbrev sGo:Stmt:=top 41
abbrev sFg:Stmt:=top 42
abbrev sGr:Stmt:=top 43
abbrev sFo:Stmt:=top 44
abbrev sWd:Stmt:=top 47
abbrev sRof:Stmt:=top 50
abbrev sRsf:Stmt:=top 51
abbrev sEo:Stmt:=top 52
abbrev sOi:Stmt:=inClass (top 53) 0
abbrev sOf2:Stmt:=inClass (top 53) 1
abbrev sOl:Stmt:=inClass (top 53) 2
abbrev sOm:Stmt:=inClass (top 53) 7
abbrev sCe:Stmt:=top 55
abbrev sOf:Stmt:=top 56
abbrev sIn:Stmt:=top 57
abbrev sIm:Stmt:=top 58
abbrev sIl:Stmt:=top 59
abbrev sLs:Stmt:=top 60
abbrev sSi:Stmt:=top 61
abbrev sNu:Stmt:=top 62
abbrev sNa:Stmt:=top 63
abbrev sMk:Stmt:=top 64
abbrev sLi:Stmt:=top 65
abbrev sWo:Stmt:=top 66
abbrev sLb:Stmt:=top 67
abbrev sWq:Stmt:=top 68
abbrev sBa:Stmt:=top 69
abbrev sTe:Stmt:=top 70
abbrev sOd:Stmt:=top 71
abbrev sUk:Stmt:=top 72
abbrev sTk:Stmt:=top 73
abbrev sEn:Stmt:=top 74
abbrev sTs:Stmt:=top 75
abbrev sMa:Stmt:=top 76
abbrev sMs:Stmt:=top 77
abbrev sRf:Stmt:=top 78
abbrev sIr:Stmt:=top 79
abbrev sWs:Stmt:=top 80
abbrev sLaw:Stmt:=top 81
end SL
namespace GL
open PySem L2
abbrev sRi:Stmt:=SL.sRin
abbrev sPt:Stmt:=SL.sPa
abbrev sXm:Stmt:=SL.sXm
end GL
namespace SL
open PySem L2
abbrev tu0:Obj:={cls:=.type "tuple",data:=.seq #[]}
def hK:PySem.Params->W.Frag:=fun P=>
 (nat_lit 2,{cls:=.none,data:=.dict #[]})::
 (nat_lit 3,{cls:=.type "dict",data:=.dict #[⟨PyData.keyHash P "__name__",.str "__name__" 165,.str "law_logloom_k80_looms_of_texts" 811⟩,⟨PyData.keyHash P "__doc__",.str "__doc__" 166,.none⟩,⟨PyData.keyHash P "__package__",.str "__package__" 167,.none⟩,⟨PyData.keyHash P "__loader__",.str "__loader__" 168,.builtin "__main__.__loader__#opaque"⟩,⟨PyData.keyHash P "__spec__",.str "__spec__" 169,.none⟩,⟨PyData.keyHash P "__annotations__",.str "__annotations__" 170,.ref 6⟩,⟨PyData.keyHash P "__builtins__",.str "__builtins__" 171,.ref 4⟩,⟨PyData.keyHash P "__file__",.str "__file__" 173,.str "/claim/cut.py" 172⟩,⟨PyData.keyHash P "__cached__",.str "__cached__" 174,.none⟩,⟨PyData.keyHash P "_wall",.str "_wall" 193,.ref 21⟩,⟨PyData.keyHash P "LoomError",.str "LoomError" 213,.ref 31⟩,⟨PyData.keyHash P "NoRow",.str "NoRow" 238,.ref 51⟩,⟨PyData.keyHash P "NoFit",.str "NoFit" 263,.ref 70⟩,⟨PyData.keyHash P "TooMany",.str "TooMany" 288,.ref 89⟩,⟨PyData.keyHash P "Unknown",.str "Unknown" 313,.ref 108⟩,⟨PyData.keyHash P "FIGURES",.str "FIGURES" 317,.str "0123456789" 316⟩,⟨PyData.keyHash P "SMALL_LETTERS",.str "SMALL_LETTERS" 319,.str "abcdefghijklmnopqrstuvwxyz" 318⟩,⟨PyData.keyHash P "NAME_SIGNS",.str "NAME_SIGNS" 321,.str "abcdefghijklmnopqrstuvwxyz0123456789" 320⟩,⟨PyData.keyHash P "MARK_SIGNS",.str "MARK_SIGNS" 323,.str "abcdefghijklmnopqrstuvwxyzABCDEFGHIJKLMNOPQRSTUVWXYZ0123456789.:-_/=" 322⟩,⟨PyData.keyHash P "MOST_FIGURES",.str "MOST_FIGURES" 325,.int 9 324⟩,⟨PyData.keyHash P "MOST_SIGNS",.str "MOST_SIGNS" 327,.int 12 326⟩,⟨PyData.keyHash P "MOST_ITEMS",.str "MOST_ITEMS" 329,.int 4 328⟩,⟨PyData.keyHash P "made_of",.str "made_of" 335,.ref 115⟩,⟨PyData.keyHash P "Sort",.str "Sort" 370,.ref 139⟩,⟨PyData.keyHash P "Number",.str "Number" 401,.ref 167⟩,⟨PyData.keyHash P "Name",.str "Name" 432,.ref 193⟩,⟨PyData.keyHash P "Items",.str "Items" 461,.ref 217⟩,⟨PyData.keyHash P "Mark",.str "Mark" 492,.ref 243⟩,⟨PyData.keyHash P "is_item",.str "is_item" 499,.ref 252⟩,⟨PyData.keyHash P "all_sorts",.str "all_sorts" 505,.ref 259⟩,⟨PyData.keyHash P "sort_of",.str "sort_of" 513,.ref 266⟩,⟨PyData.keyHash P "is_gap",.str "is_gap" 522,.ref 273⟩,⟨PyData.keyHash P "part_takes",.str "part_takes" 530,.ref 280⟩,⟨PyData.keyHash P "first_misfit",.str "first_misfit" 540,.ref 287⟩,⟨PyData.keyHash P "writes",.str "writes" 548,.ref 294⟩,⟨PyData.keyHash P "gaps_of",.str "gaps_of" 554,.ref 299⟩,⟨PyData.keyHash P "first_writing",.str "first_writing" 564,.ref 306⟩,⟨PyData.keyHash P "unlike",.str "unlike" 575,.ref 313⟩,⟨PyData.keyHash P "words_at",.str "words_at" 581,.ref 318⟩,⟨PyData.keyHash P "least_part",.str "least_part" 587,.ref 323⟩,⟨PyData.keyHash P "least_form",.str "least_form" 593,.ref 328⟩,⟨PyData.keyHash P "form_within",.str "form_within" 599,.ref 333⟩,⟨PyData.keyHash P "MOST_UNLIKE",.str "MOST_UNLIKE" 603,.int 8 602⟩,⟨PyData.keyHash P "rows_in",.str "rows_in" 609,.ref 338⟩,⟨PyData.keyHash P "writes_others",.str "writes_others" 615,.ref 343⟩,⟨PyData.keyHash P "groups_on",.str "groups_on" 627,.ref 350⟩,⟨PyData.keyHash P "first_grouping",.str "first_grouping" 633,.ref 355⟩,⟨PyData.keyHash P "groups",.str "groups" 640,.ref 361⟩,⟨PyData.keyHash P "forms_of",.str "forms_of" 647,.ref 367⟩,⟨PyData.keyHash P "MOST_WORDS",.str "MOST_WORDS" 651,.int 8 650⟩,⟨PyData.keyHash P "words_of",.str "words_of" 661,.ref 374⟩,⟨PyData.keyHash P "STRANGE",.str "STRANGE" 665,.int 8 664⟩,⟨PyData.keyHash P "row_of",.str "row_of" 672,.ref 381⟩,⟨PyData.keyHash P "rows_of",.str "rows_of" 678,.ref 386⟩,⟨PyData.keyHash P "entry_of",.str "entry_of" 688,.ref 393⟩,⟨PyData.keyHash P "Loom",.str "Loom" 810,.ref 489⟩,⟨PyData.keyHash P "_law_cell_at",.str "_law_cell_at" 820,.ref 500⟩,⟨PyData.keyHash P "_law_of",.str "_law_of" 826,.ref 505⟩,⟨PyData.keyHash P "_law_is_number",.str "_law_is_number" 833,.ref 512⟩,⟨PyData.keyHash P "_law_is_name",.str "_law_is_name" 841,.ref 519⟩,⟨PyData.keyHash P "_law_is_list",.str "_law_is_list" 847,.ref 524⟩,⟨PyData.keyHash P "_law_sort",.str "_law_sort" 855,.ref 531⟩,⟨PyData.keyHash P "_law_signs",.str "_law_signs" 867,.ref 538⟩,⟨PyData.keyHash P "_law_number_word",.str "_law_number_word" 875,.ref 545⟩,⟨PyData.keyHash P "_law_name_word",.str "_law_name_word" 883,.ref 552⟩,⟨PyData.keyHash P "_law_mark_word",.str "_law_mark_word" 895,.ref 559⟩,⟨PyData.keyHash P "_law_list_word",.str "_law_list_word" 905,.ref 566⟩,⟨PyData.keyHash P "_law_word",.str "_law_word" 912,.ref 573⟩,⟨PyData.keyHash P "_law_row_by",.str "_law_row_by" 923,.ref 580⟩,⟨PyData.keyHash P "_law_word_of",.str "_law_word_of" 931,.ref 587⟩,⟨PyData.keyHash P "_law_bases",.str "_law_bases" 946,.ref 594⟩,⟨PyData.keyHash P "_law_text",.str "_law_text" 959,.ref 601⟩,⟨PyData.keyHash P "_law_odd_text",.str "_law_odd_text" 967,.ref 608⟩,⟨PyData.keyHash P "_law_unlike",.str "_law_unlike" 977,.ref 615⟩,⟨PyData.keyHash P "_law_takes",.str "_law_takes" 985,.ref 622⟩,⟨PyData.keyHash P "_law_entry",.str "_law_entry" 991,.ref 627⟩,⟨PyData.keyHash P "_law_texts",.str "_law_texts" 997,.ref 632⟩,⟨PyData.keyHash P "_law_made",.str "_law_made" 1005,.ref 639⟩,⟨PyData.keyHash P "_law_most",.str "_law_most" 1012,.ref 646⟩,⟨PyData.keyHash P "_law_refused",.str "_law_refused" 1024,.ref 653⟩,⟨PyData.keyHash P "_law_is_row",.str "_law_is_row" 1030,.ref 658⟩,⟨PyData.keyHash P "_law_writers",.str "_law_writers" 1036,.ref 663⟩,⟨PyData.keyHash P "law",.str "law" 1042,.ref 668⟩] 83})::
 (nat_lit 15,tu0)::
 (nat_lit 17,{cls:=.type "tuple",data:=.seq #[.str "k" 190]})::
 (nat_lit 18,tu0)::
 (nat_lit 20,{cls:=.type "code",data:=.fields #[.str "_wall" 187,.str "_wall" 188,.str "/claim/cut.py" 189,.int 1 0,.int 1 0,.int 0 0,.int 0 0,.int 3 0,.ref 15,.bool true,.int 181 0,.ref 16,.none,.ref 17,.ref 18,.ref 19,.int 191 0,.int 1 0,.str "/claim/cut.py" 192]})::
 (nat_lit 21,⟨(.type "function"),none,.func (W.fnOf "_wall" "_wall" (zk (top 0)) (zj (top 0)) (zb (top 0)) .none .none .none (.str "__main__" 164) none (.ref 20) .none),#[]⟩)::
 (nat_lit 22,{cls:=.type "tuple",data:=.seq #[.type "ValueError"]})::
 (nat_lit 29,tu0)::
 (nat_lit 30,{cls:=.type "dict",data:=.dict #[⟨PyData.keyHash P "__module__",.str "__module__" 203,.str "logloom.errors" 194⟩,⟨PyData.keyHash P "__firstlineno__",.str "__firstlineno__" 207,.int 5 206⟩,⟨PyData.keyHash P "__static_attributes__",.str "__static_attributes__" 208,.ref 29⟩,⟨PyData.keyHash P "__weakref__",.str "__weakref__" 210,.ref 32⟩,⟨PyData.keyHash P "__doc__",.str "__doc__" 211,.none⟩] 3})::
 (nat_lit 31,{cls:=.type "type",data:=Data.cls { name:=Str.ofString "LoomError",bases:=[.type "ValueError"],mro:=[.ref 31,.type "ValueError",.type "Exception",.type "BaseException",.type "object"],ns:=30,qualname:=Str.ofString "LoomError",subclasses:=[.ref 51,.ref 70,.ref 89,.ref 108]},slots:=#[some (.ref 22),none,some (.str "LoomError" 196),some (.str "LoomError" 204),some (.builtin "ValueError.__new__"),some (.bool true)]})::
 (nat_lit 32,{cls:=.type "getset_descriptor",data:=.fields #[.str "__weakref__" 209,.ref 31,.builtin "ExceptionGroup.__weakref__",.none]})::
 (nat_lit 35,{cls:=.type "tuple",data:=.seq #[.ref 31]})::
 (nat_lit 42,tu0)::
 (nat_lit 44,{cls:=.type "tuple",data:=.seq #[.str "self" 229,.str "at" 230]})::
 (nat_lit 45,tu0)::
 (nat_lit 47,{cls:=.type "code",data:=.fields #[.str "__init__" 226,.str "NoRow.__init__" 227,.str "/claim/cut.py" 228,.int 9 0,.int 2 0,.int 0 0,.int 0 0,.int 3 0,.ref 42,.bool true,.int 181 0,.ref 43,.none,.ref 44,.ref 45,.ref 46,.int 231 0,.int 9 0,.str "/claim/cut.py" 232]})::
 (nat_lit 48,⟨(.type "function"),none,.func (W.fnOf "__init__" "NoRow.__init__" (zk (inClass (top 3) 0)) (zj (inClass (top 3) 0)) (zb (inClass (top 3) 0)) .none .none .none (.str "logloom.errors" 194) none (.ref 47) .none),#[]⟩)::
 (nat_lit 49,{cls:=.type "tuple",data:=.seq #[.str "at" 234]})::
 (nat_lit 50,{cls:=.type "dict",data:=.dict #[⟨PyData.keyHash P "__module__",.str "__module__" 221,.str "logloom.errors" 194⟩,⟨PyData.keyHash P "__firstlineno__",.str "__firstlineno__" 225,.int 7 224⟩,⟨PyData.keyHash P "__init__",.str "__init__" 233,.ref 48⟩,⟨PyData.keyHash P "__static_attributes__",.str "__static_attributes__" 235,.ref 49⟩,⟨PyData.keyHash P "__doc__",.str "__doc__" 236,.none⟩] 2})::
 (nat_lit 51,{cls:=.type "type",data:=Data.cls { name:=Str.ofString "NoRow",bases:=[.ref 31],mro:=[.ref 51,.ref 31,.type "ValueError",.type "Exception",.type "BaseException",.type "object"],ns:=50,qualname:=Str.ofString "NoRow"},slots:=#[some (.ref 35),none,some (.str "NoRow" 214),some (.str "NoRow" 222),some (.builtin "ValueError.__new__"),some (.bool true)]})::
 (nat_lit 54,{cls:=.type "tuple",data:=.seq #[.ref 31]})::
 (nat_lit 61,tu0)::
 (nat_lit 63,{cls:=.type "tuple",data:=.seq #[.str "self" 254,.str "at" 255]})::
 (nat_lit 64,tu0)::
 (nat_lit 66,{cls:=.type "code",data:=.fields #[.str "__init__" 251,.str "NoFit.__init__" 252,.str "/claim/cut.py" 253,.int 13 0,.int 2 0,.int 0 0,.int 0 0,.int 3 0,.ref 61,.bool true,.int 181 0,.ref 62,.none,.ref 63,.ref 64,.ref 65,.int 256 0,.int 13 0,.str "/claim/cut.py" 257]})::
 (nat_lit 67,⟨(.type "function"),none,.func (W.fnOf "__init__" "NoFit.__init__" (zk (inClass (top 4) 0)) (zj (inClass (top 4) 0)) (zb (inClass (top 4) 0)) .none .none .none (.str "logloom.errors" 194) none (.ref 66) .none),#[]⟩)::
 (nat_lit 68,{cls:=.type "tuple",data:=.seq #[.str "at" 259]})::
 (nat_lit 69,{cls:=.type "dict",data:=.dict #[⟨PyData.keyHash P "__module__",.str "__module__" 246,.str "logloom.errors" 194⟩,⟨PyData.keyHash P "__firstlineno__",.str "__firstlineno__" 250,.int 11 249⟩,⟨PyData.keyHash P "__init__",.str "__init__" 258,.ref 67⟩,⟨PyData.keyHash P "__static_attributes__",.str "__static_attributes__" 260,.ref 68⟩,⟨PyData.keyHash P "__doc__",.str "__doc__" 261,.none⟩] 2})::
 (nat_lit 70,{cls:=.type "type",data:=Data.cls { name:=Str.ofString "NoFit",bases:=[.ref 31],mro:=[.ref 70,.ref 31,.type "ValueError",.type "Exception",.type "BaseException",.type "object"],ns:=69,qualname:=Str.ofString "NoFit"},slots:=#[some (.ref 54),none,some (.str "NoFit" 239),some (.str "NoFit" 247),some (.builtin "ValueError.__new__"),some (.bool true)]})::
 (nat_lit 73,{cls:=.type "tuple",data:=.seq #[.ref 31]})::
 (nat_lit 80,tu0)::
 (nat_lit 82,{cls:=.type "tuple",data:=.seq #[.str "self" 279,.str "number" 280]})::
 (nat_lit 83,tu0)::
 (nat_lit 85,{cls:=.type "code",data:=.fields #[.str "__init__" 276,.str "TooMany.__init__" 277,.str "/claim/cut.py" 278,.int 17 0,.int 2 0,.int 0 0,.int 0 0,.int 3 0,.ref 80,.bool true,.int 181 0,.ref 81,.none,.ref 82,.ref 83,.ref 84,.int 281 0,.int 17 0,.str "/claim/cut.py" 282]})::
 (nat_lit 86,⟨(.type "function"),none,.func (W.fnOf "__init__" "TooMany.__init__" (zk (inClass (top 5) 0)) (zj (inClass (top 5) 0)) (zb (inClass (top 5) 0)) .none .none .none (.str "logloom.errors" 194) none (.ref 85) .none),#[]⟩)::
 (nat_lit 87,{cls:=.type "tuple",data:=.seq #[.str "number" 284]})::
 (nat_lit 88,{cls:=.type "dict",data:=.dict #[⟨PyData.keyHash P "__module__",.str "__module__" 271,.str "logloom.errors" 194⟩,⟨PyData.keyHash P "__firstlineno__",.str "__firstlineno__" 275,.int 15 274⟩,⟨PyData.keyHash P "__init__",.str "__init__" 283,.ref 86⟩,⟨PyData.keyHash P "__static_attributes__",.str "__static_attributes__" 285,.ref 87⟩,⟨PyData.keyHash P "__doc__",.str "__doc__" 286,.none⟩] 2})::
 (nat_lit 89,{cls:=.type "type",data:=Data.cls { name:=Str.ofString "TooMany",bases:=[.ref 31],mro:=[.ref 89,.ref 31,.type "ValueError",.type "Exception",.type "BaseException",.type "object"],ns:=88,qualname:=Str.ofString "TooMany"},slots:=#[some (.ref 73),none,some (.str "TooMany" 264),some (.str "TooMany" 272),some (.builtin "ValueError.__new__"),some (.bool true)]})::
 (nat_lit 92,{cls:=.type "tuple",data:=.seq #[.ref 31]})::
 (nat_lit 99,tu0)::
 (nat_lit 101,{cls:=.type "tuple",data:=.seq #[.str "self" 304,.str "number" 305]})::
 (nat_lit 102,tu0)::
 (nat_lit 104,{cls:=.type "code",data:=.fields #[.str "__init__" 301,.str "Unknown.__init__" 302,.str "/claim/cut.py" 303,.int 21 0,.int 2 0,.int 0 0,.int 0 0,.int 3 0,.ref 99,.bool true,.int 181 0,.ref 100,.none,.ref 101,.ref 102,.ref 103,.int 306 0,.int 21 0,.str "/claim/cut.py" 307]})::
 (nat_lit 105,⟨(.type "function"),none,.func (W.fnOf "__init__" "Unknown.__init__" (zk (inClass (top 6) 0)) (zj (inClass (top 6) 0)) (zb (inClass (top 6) 0)) .none .none .none (.str "logloom.errors" 194) none (.ref 104) .none),#[]⟩)::
 (nat_lit 106,{cls:=.type "tuple",data:=.seq #[.str "number" 309]})::
 (nat_lit 107,{cls:=.type "dict",data:=.dict #[⟨PyData.keyHash P "__module__",.str "__module__" 296,.str "logloom.errors" 194⟩,⟨PyData.keyHash P "__firstlineno__",.str "__firstlineno__" 300,.int 19 299⟩,⟨PyData.keyHash P "__init__",.str "__init__" 308,.ref 105⟩,⟨PyData.keyHash P "__static_attributes__",.str "__static_attributes__" 310,.ref 106⟩,⟨PyData.keyHash P "__doc__",.str "__doc__" 311,.none⟩] 2})::
 (nat_lit 108,{cls:=.type "type",data:=Data.cls { name:=Str.ofString "Unknown",bases:=[.ref 31],mro:=[.ref 108,.ref 31,.type "ValueError",.type "Exception",.type "BaseException",.type "object"],ns:=107,qualname:=Str.ofString "Unknown"},slots:=#[some (.ref 92),none,some (.str "Unknown" 289),some (.str "Unknown" 297),some (.builtin "ValueError.__new__"),some (.bool true)]})::
 (nat_lit 111,tu0)::
 (nat_lit 114,{cls:=.type "code",data:=.fields #[.str "made_of" 330,.str "made_of" 331,.str "/claim/cut.py" 332,.int 31 0,.int 2 0,.int 0 0,.int 0 0,.int 3 0,.ref 111,.bool true,.int 181 0,.ref 112,.none,.none,.none,.ref 113,.int 333 0,.int 31 0,.str "/claim/cut.py" 334]})::
 (nat_lit 115,⟨(.type "function"),none,.func (W.fnOf "made_of" "made_of" (zk (top 15)) (zj (top 15)) (zb (top 15)) .none .none .none (.str "logloom.sorts" 314) none (.ref 114) .none),#[]⟩)::
 (nat_lit 123,tu0)::
 (nat_lit 125,{cls:=.type "tuple",data:=.seq #[.str "self" 351]})::
 (nat_lit 126,tu0)::
 (nat_lit 128,{cls:=.type "code",data:=.fields #[.str "word" 348,.str "Sort.word" 349,.str "/claim/cut.py" 350,.int 35 0,.int 1 0,.int 0 0,.int 0 0,.int 3 0,.ref 123,.bool true,.int 181 0,.ref 124,.none,.ref 125,.ref 126,.ref 127,.int 352 0,.int 35 0,.str "/claim/cut.py" 353]})::
 (nat_lit 129,⟨(.type "function"),none,.func (W.fnOf "word" "Sort.word" (zk (inClass (top 16) 0)) (zj (inClass (top 16) 0)) (zb (inClass (top 16) 0)) .none .none .none (.str "logloom.sorts" 314) none (.ref 128) .none),#[]⟩)::
 (nat_lit 130,tu0)::
 (nat_lit 132,{cls:=.type "tuple",data:=.seq #[.str "self" 358,.str "text" 359]})::
 (nat_lit 133,tu0)::
 (nat_lit 135,{cls:=.type "code",data:=.fields #[.str "takes" 355,.str "Sort.takes" 356,.str "/claim/cut.py" 357,.int 38 0,.int 2 0,.int 0 0,.int 0 0,.int 3 0,.ref 130,.bool true,.int 181 0,.ref 131,.none,.ref 132,.ref 133,.ref 134,.int 360 0,.int 38 0,.str "/claim/cut.py" 361]})::
 (nat_lit 136,⟨(.type "function"),none,.func (W.fnOf "takes" "Sort.takes" (zk (inClass (top 16) 1)) (zj (inClass (top 16) 1)) (zb (inClass (top 16) 1)) .none .none .none (.str "logloom.sorts" 314) none (.ref 135) .none),#[]⟩)::
 (nat_lit 137,tu0)::
 (nat_lit 138,{cls:=.type "dict",data:=.dict #[⟨PyData.keyHash P "__module__",.str "__module__" 343,.str "logloom.sorts" 314⟩,⟨PyData.keyHash P "__firstlineno__",.str "__firstlineno__" 347,.int 33 346⟩,⟨PyData.keyHash P "word",.str "word" 354,.ref 129⟩,⟨PyData.keyHash P "takes",.str "takes" 362,.ref 136⟩,⟨PyData.keyHash P "__static_attributes__",.str "__static_attributes__" 363,.ref 137⟩,⟨PyData.keyHash P "__dict__",.str "__dict__" 365,.ref 140⟩,⟨PyData.keyHash P "__weakref__",.str "__weakref__" 367,.ref 141⟩,⟨PyData.keyHash P "__doc__",.str "__doc__" 368,.none⟩] 4})::
 (nat_lit 139,{cls:=.type "type",data:=Data.cls { name:=Str.ofString "Sort",bases:=[.type "object"],mro:=[.ref 139,.type "object"],ns:=138,qualname:=Str.ofString "Sort",subclasses:=[.ref 167,.ref 193,.ref 217,.ref 243]},slots:=#[none,none,some (.str "Sort" 336),some (.str "Sort" 344),some (.builtin "object.__new__"),some (.bool true)]})::
 (nat_lit 140,{cls:=.type "getset_descriptor",data:=.fields #[.str "__dict__" 364,.ref 139,.builtin "function.__dict__",.builtin "function.__dict__#set"]})::
 (nat_lit 141,{cls:=.type "getset_descriptor",data:=.fields #[.str "__weakref__" 366,.ref 139,.builtin "ExceptionGroup.__weakref__",.none]})::
 (nat_lit 144,{cls:=.type "tuple",data:=.seq #[.ref 139]})::
 (nat_lit 151,tu0)::
 (nat_lit 153,{cls:=.type "tuple",data:=.seq #[.str "self" 386]})::
 (nat_lit 154,tu0)::
 (nat_lit 156,{cls:=.type "code",data:=.fields #[.str "word" 383,.str "Number.word" 384,.str "/claim/cut.py" 385,.int 42 0,.int 1 0,.int 0 0,.int 0 0,.int 3 0,.ref 151,.bool true,.int 181 0,.ref 152,.none,.ref 153,.ref 154,.ref 155,.int 387 0,.int 42 0,.str "/claim/cut.py" 388]})::
 (nat_lit 157,⟨(.type "function"),none,.func (W.fnOf "word" "Number.word" (zk (inClass (top 17) 0)) (zj (inClass (top 17) 0)) (zb (inClass (top 17) 0)) .none .none .none (.str "logloom.sorts" 314) none (.ref 156) .none),#[]⟩)::
 (nat_lit 158,tu0)::
 (nat_lit 160,{cls:=.type "tuple",data:=.seq #[.str "self" 393,.str "text" 394]})::
 (nat_lit 161,tu0)::
 (nat_lit 163,{cls:=.type "code",data:=.fields #[.str "takes" 390,.str "Number.takes" 391,.str "/claim/cut.py" 392,.int 45 0,.int 2 0,.int 0 0,.int 0 0,.int 3 0,.ref 158,.bool true,.int 181 0,.ref 159,.none,.ref 160,.ref 161,.ref 162,.int 395 0,.int 45 0,.str "/claim/cut.py" 396]})::
 (nat_lit 164,⟨(.type "function"),none,.func (W.fnOf "takes" "Number.takes" (zk (inClass (top 17) 1)) (zj (inClass (top 17) 1)) (zb (inClass (top 17) 1)) .none .none .none (.str "logloom.sorts" 314) none (.ref 163) .none),#[]⟩)::
 (nat_lit 165,tu0)::
 (nat_lit 166,{cls:=.type "dict",data:=.dict #[⟨PyData.keyHash P "__module__",.str "__module__" 378,.str "logloom.sorts" 314⟩,⟨PyData.keyHash P "__firstlineno__",.str "__firstlineno__" 382,.int 40 381⟩,⟨PyData.keyHash P "word",.str "word" 389,.ref 157⟩,⟨PyData.keyHash P "takes",.str "takes" 397,.ref 164⟩,⟨PyData.keyHash P "__static_attributes__",.str "__static_attributes__" 398,.ref 165⟩,⟨PyData.keyHash P "__doc__",.str "__doc__" 399,.none⟩] 2})::
 (nat_lit 167,{cls:=.type "type",data:=Data.cls { name:=Str.ofString "Number",bases:=[.ref 139],mro:=[.ref 167,.ref 139,.type "object"],ns:=166,qualname:=Str.ofString "Number"},slots:=#[some (.ref 144),none,some (.str "Number" 371),some (.str "Number" 379),some (.builtin "object.__new__"),some (.bool true)]})::
 (nat_lit 170,{cls:=.type "tuple",data:=.seq #[.ref 139]})::
 (nat_lit 177,tu0)::
 (nat_lit 179,{cls:=.type "tuple",data:=.seq #[.str "self" 417]})::
 (nat_lit 180,tu0)::
 (nat_lit 182,{cls:=.type "code",data:=.fields #[.str "word" 414,.str "Name.word" 415,.str "/claim/cut.py" 416,.int 51 0,.int 1 0,.int 0 0,.int 0 0,.int 3 0,.ref 177,.bool true,.int 181 0,.ref 178,.none,.ref 179,.ref 180,.ref 181,.int 418 0,.int 51 0,.str "/claim/cut.py" 419]})::
 (nat_lit 183,⟨(.type "function"),none,.func (W.fnOf "word" "Name.word" (zk (inClass (top 18) 0)) (zj (inClass (top 18) 0)) (zb (inClass (top 18) 0)) .none .none .none (.str "logloom.sorts" 314) none (.ref 182) .none),#[]⟩)::
 (nat_lit 184,tu0)::
 (nat_lit 186,{cls:=.type "tuple",data:=.seq #[.str "self" 424,.str "text" 425]})::
 (nat_lit 187,tu0)::
 (nat_lit 189,{cls:=.type "code",data:=.fields #[.str "takes" 421,.str "Name.takes" 422,.str "/claim/cut.py" 423,.int 54 0,.int 2 0,.int 0 0,.int 0 0,.int 3 0,.ref 184,.bool true,.int 181 0,.ref 185,.none,.ref 186,.ref 187,.ref 188,.int 426 0,.int 54 0,.str "/claim/cut.py" 427]})::
 (nat_lit 190,⟨(.type "function"),none,.func (W.fnOf "takes" "Name.takes" (zk (inClass (top 18) 1)) (zj (inClass (top 18) 1)) (zb (inClass (top 18) 1)) .none .none .none (.str "logloom.sorts" 314) none (.ref 189) .none),#[]⟩)::
 (nat_lit 191,tu0)::
 (nat_lit 192,{cls:=.type "dict",data:=.dict #[⟨PyData.keyHash P "__module__",.str "__module__" 409,.str "logloom.sorts" 314⟩,⟨PyData.keyHash P "__firstlineno__",.str "__firstlineno__" 413,.int 49 412⟩,⟨PyData.keyHash P "word",.str "word" 420,.ref 183⟩,⟨PyData.keyHash P "takes",.str "takes" 428,.ref 190⟩,⟨PyData.keyHash P "__static_attributes__",.str "__static_attributes__" 429,.ref 191⟩,⟨PyData.keyHash P "__doc__",.str "__doc__" 430,.none⟩] 2})::
 (nat_lit 193,{cls:=.type "type",data:=Data.cls { name:=Str.ofString "Name",bases:=[.ref 139],mro:=[.ref 193,.ref 139,.type "object"],ns:=192,qualname:=Str.ofString "Name"},slots:=#[some (.ref 170),none,some (.str "Name" 402),some (.str "Name" 410),some (.builtin "object.__new__"),some (.bool true)]})::
 (nat_lit 196,{cls:=.type "tuple",data:=.seq #[.ref 139]})::
 (nat_lit 203,tu0)::
 (nat_lit 205,{cls:=.type "tuple",data:=.seq #[.str "self" 448]})::
 (nat_lit 206,tu0)::
 (nat_lit 208,{cls:=.type "code",data:=.fields #[.str "word" 445,.str "Items.word" 446,.str "/claim/cut.py" 447,.int 60 0,.int 1 0,.int 0 0,.int 0 0,.int 3 0,.ref 203,.bool true,.int 181 0,.ref 204,.none,.ref 205,.ref 206,.ref 207,.int 449 0,.int 60 0,.str "/claim/cut.py" 450]})::
 (nat_lit 209,⟨(.type "function"),none,.func (W.fnOf "word" "Items.word" (zk (inClass (top 19) 0)) (zj (inClass (top 19) 0)) (zb (inClass (top 19) 0)) .none .none .none (.str "logloom.sorts" 314) none (.ref 208) .none),#[]⟩)::
 (nat_lit 210,tu0)::
 (nat_lit 213,{cls:=.type "code",data:=.fields #[.str "takes" 452,.str "Items.takes" 453,.str "/claim/cut.py" 454,.int 63 0,.int 2 0,.int 0 0,.int 0 0,.int 3 0,.ref 210,.bool true,.int 181 0,.ref 211,.none,.none,.none,.ref 212,.int 455 0,.int 63 0,.str "/claim/cut.py" 456]})::
 (nat_lit 214,⟨(.type "function"),none,.func (W.fnOf "takes" "Items.takes" (zk (inClass (top 19) 1)) (zj (inClass (top 19) 1)) (zb (inClass (top 19) 1)) .none .none .none (.str "logloom.sorts" 314) none (.ref 213) .none),#[]⟩)::
 (nat_lit 215,tu0)::
 (nat_lit 216,{cls:=.type "dict",data:=.dict #[⟨PyData.keyHash P "__module__",.str "__module__" 440,.str "logloom.sorts" 314⟩,⟨PyData.keyHash P "__firstlineno__",.str "__firstlineno__" 444,.int 58 443⟩,⟨PyData.keyHash P "word",.str "word" 451,.ref 209⟩,⟨PyData.keyHash P "takes",.str "takes" 457,.ref 214⟩,⟨PyData.keyHash P "__static_attributes__",.str "__static_attributes__" 458,.ref 215⟩,⟨PyData.keyHash P "__doc__",.str "__doc__" 459,.none⟩] 2})::
 (nat_lit 217,{cls:=.type "type",data:=Data.cls { name:=Str.ofString "Items",bases:=[.ref 139],mro:=[.ref 217,.ref 139,.type "object"],ns:=216,qualname:=Str.ofString "Items"},slots:=#[some (.ref 196),none,some (.str "Items" 433),some (.str "Items" 441),some (.builtin "object.__new__"),some (.bool true)]})::
 (nat_lit 220,{cls:=.type "tuple",data:=.seq #[.ref 139]})::
 (nat_lit 227,tu0)::
 (nat_lit 229,{cls:=.type "tuple",data:=.seq #[.str "self" 477]})::
 (nat_lit 230,tu0)::
 (nat_lit 232,{cls:=.type "code",data:=.fields #[.str "word" 474,.str "Mark.word" 475,.str "/claim/cut.py" 476,.int 72 0,.int 1 0,.int 0 0,.int 0 0,.int 3 0,.ref 227,.bool true,.int 181 0,.ref 228,.none,.ref 229,.ref 230,.ref 231,.int 478 0,.int 72 0,.str "/claim/cut.py" 479]})::
 (nat_lit 233,⟨(.type "function"),none,.func (W.fnOf "word" "Mark.word" (zk (inClass (top 20) 0)) (zj (inClass (top 20) 0)) (zb (inClass (top 20) 0)) .none .none .none (.str "logloom.sorts" 314) none (.ref 232) .none),#[]⟩)::
 (nat_lit 234,tu0)::
 (nat_lit 236,{cls:=.type "tuple",data:=.seq #[.str "self" 484,.str "text" 485]})::
 (nat_lit 237,tu0)::
 (nat_lit 239,{cls:=.type "code",data:=.fields #[.str "takes" 481,.str "Mark.takes" 482,.str "/claim/cut.py" 483,.int 75 0,.int 2 0,.int 0 0,.int 0 0,.int 3 0,.ref 234,.bool true,.int 181 0,.ref 235,.none,.ref 236,.ref 237,.ref 238,.int 486 0,.int 75 0,.str "/claim/cut.py" 487]})::
 (nat_lit 240,⟨(.type "function"),none,.func (W.fnOf "takes" "Mark.takes" (zk (inClass (top 20) 1)) (zj (inClass (top 20) 1)) (zb (inClass (top 20) 1)) .none .none .none (.str "logloom.sorts" 314) none (.ref 239) .none),#[]⟩)::
 (nat_lit 241,tu0)::
 (nat_lit 242,{cls:=.type "dict",data:=.dict #[⟨PyData.keyHash P "__module__",.str "__module__" 469,.str "logloom.sorts" 314⟩,⟨PyData.keyHash P "__firstlineno__",.str "__firstlineno__" 473,.int 70 472⟩,⟨PyData.keyHash P "word",.str "word" 480,.ref 233⟩,⟨PyData.keyHash P "takes",.str "takes" 488,.ref 240⟩,⟨PyData.keyHash P "__static_attributes__",.str "__static_attributes__" 489,.ref 241⟩,⟨PyData.keyHash P "__doc__",.str "__doc__" 490,.none⟩] 2})::
 (nat_lit 243,{cls:=.type "type",data:=Data.cls { name:=Str.ofString "Mark",bases:=[.ref 139],mro:=[.ref 243,.ref 139,.type "object"],ns:=242,qualname:=Str.ofString "Mark"},slots:=#[some (.ref 220),none,some (.str "Mark" 462),some (.str "Mark" 470),some (.builtin "object.__new__"),some (.bool true)]})::
 (nat_lit 246,tu0)::
 (nat_lit 248,{cls:=.type "tuple",data:=.seq #[.str "text" 496]})::
 (nat_lit 249,tu0)::
 (nat_lit 251,{cls:=.type "code",data:=.fields #[.str "is_item" 493,.str "is_item" 494,.str "/claim/cut.py" 495,.int 79 0,.int 1 0,.int 0 0,.int 0 0,.int 3 0,.ref 246,.bool true,.int 181 0,.ref 247,.none,.ref 248,.ref 249,.ref 250,.int 497 0,.int 79 0,.str "/claim/cut.py" 498]})::
 (nat_lit 252,⟨(.type "function"),none,.func (W.fnOf "is_item" "is_item" (zk (top 21)) (zj (top 21)) (zb (top 21)) .none .none .none (.str "logloom.sorts" 314) none (.ref 251) .none),#[]⟩)::
 (nat_lit 253,tu0)::
 (nat_lit 255,tu0)::
 (nat_lit 256,tu0)::
 (nat_lit 258,{cls:=.type "code",data:=.fields #[.str "all_sorts" 500,.str "all_sorts" 501,.str "/claim/cut.py" 502,.int 81 0,.int 0 0,.int 0 0,.int 0 0,.int 3 0,.ref 253,.bool true,.int 181 0,.ref 254,.none,.ref 255,.ref 256,.ref 257,.int 503 0,.int 81 0,.str "/claim/cut.py" 504]})::
 (nat_lit 259,⟨(.type "function"),none,.func (W.fnOf "all_sorts" "all_sorts" (zk (top 22)) (zj (top 22)) (zb (top 22)) .none .none .none (.str "logloom.sorts" 314) none (.ref 258) .none),#[]⟩)::
 (nat_lit 260,tu0)::
 (nat_lit 262,{cls:=.type "tuple",data:=.seq #[.str "text" 509,.str "sort" 510]})::
 (nat_lit 263,tu0)::
 (nat_lit 265,{cls:=.type "code",data:=.fields #[.str "sort_of" 506,.str "sort_of" 507,.str "/claim/cut.py" 508,.int 83 0,.int 1 0,.int 0 0,.int 0 0,.int 3 0,.ref 260,.bool true,.int 181 0,.ref 261,.none,.ref 262,.ref 263,.ref 264,.int 511 0,.int 83 0,.str "/claim/cut.py" 512]})::
 (nat_lit 266,⟨(.type "function"),none,.func (W.fnOf "sort_of" "sort_of" (zk (top 23)) (zj (top 23)) (zb (top 23)) .none .none .none (.str "logloom.sorts" 314) none (.ref 265) .none),#[]⟩)::
 (nat_lit 267,tu0)::
 (nat_lit 269,{cls:=.type "tuple",data:=.seq #[.str "part" 519]})::
 (nat_lit 270,tu0)::
 (nat_lit 272,{cls:=.type "code",data:=.fields #[.str "is_gap" 516,.str "is_gap" 517,.str "/claim/cut.py" 518,.int 89 0,.int 1 0,.int 0 0,.int 0 0,.int 3 0,.ref 267,.bool true,.int 181 0,.ref 268,.none,.ref 269,.ref 270,.ref 271,.int 520 0,.int 89 0,.str "/claim/cut.py" 521]})::
 (nat_lit 273,⟨(.type "function"),none,.func (W.fnOf "is_gap" "is_gap" (zk (top 25)) (zj (top 25)) (zb (top 25)) .none .none .none (.str "logloom.forms" 514) none (.ref 272) .none),#[]⟩)::
 (nat_lit 274,tu0)::
 (nat_lit 276,{cls:=.type "tuple",data:=.seq #[.str "part" 526,.str "word" 527]})::
 (nat_lit 277,tu0)::
 (nat_lit 279,{cls:=.type "code",data:=.fields #[.str "part_takes" 523,.str "part_takes" 524,.str "/claim/cut.py" 525,.int 91 0,.int 2 0,.int 0 0,.int 0 0,.int 3 0,.ref 274,.bool true,.int 181 0,.ref 275,.none,.ref 276,.ref 277,.ref 278,.int 528 0,.int 91 0,.str "/claim/cut.py" 529]})::
 (nat_lit 280,⟨(.type "function"),none,.func (W.fnOf "part_takes" "part_takes" (zk (top 26)) (zj (top 26)) (zb (top 26)) .none .none .none (.str "logloom.forms" 514) none (.ref 279) .none),#[]⟩)::
 (nat_lit 281,tu0)::
 (nat_lit 283,{cls:=.type "tuple",data:=.seq #[.str "parts" 534,.str "words" 535,.str "shared" 536,.str "at" 537]})::
 (nat_lit 284,tu0)::
 (nat_lit 286,{cls:=.type "code",data:=.fields #[.str "first_misfit" 531,.str "first_misfit" 532,.str "/claim/cut.py" 533,.int 95 0,.int 2 0,.int 0 0,.int 0 0,.int 3 0,.ref 281,.bool true,.int 181 0,.ref 282,.none,.ref 283,.ref 284,.ref 285,.int 538 0,.int 95 0,.str "/claim/cut.py" 539]})::
 (nat_lit 287,⟨(.type "function"),none,.func (W.fnOf "first_misfit" "first_misfit" (zk (top 27)) (zj (top 27)) (zb (top 27)) .none .none .none (.str "logloom.forms" 514) none (.ref 286) .none),#[]⟩)::
 (nat_lit 288,tu0)::
 (nat_lit 290,{cls:=.type "tuple",data:=.seq #[.str "form" 544,.str "row" 545]})::
 (nat_lit 291,tu0)::
 (nat_lit 293,{cls:=.type "code",data:=.fields #[.str "writes" 541,.str "writes" 542,.str "/claim/cut.py" 543,.int 101 0,.int 2 0,.int 0 0,.int 0 0,.int 3 0,.ref 288,.bool true,.int 181 0,.ref 289,.none,.ref 290,.ref 291,.ref 292,.int 546 0,.int 101 0,.str "/claim/cut.py" 547]})::
 (nat_lit 294,⟨(.type "function"),none,.func (W.fnOf "writes" "writes" (zk (top 28)) (zj (top 28)) (zb (top 28)) .none .none .none (.str "logloom.forms" 514) none (.ref 293) .none),#[]⟩)::
 (nat_lit 295,tu0)::
 (nat_lit 298,{cls:=.type "code",data:=.fields #[.str "gaps_of" 549,.str "gaps_of" 550,.str "/claim/cut.py" 551,.int 103 0,.int 2 0,.int 0 0,.int 0 0,.int 3 0,.ref 295,.bool true,.int 181 0,.ref 296,.none,.none,.none,.ref 297,.int 552 0,.int 103 0,.str "/claim/cut.py" 553]})::
 (nat_lit 299,⟨(.type "function"),none,.func (W.fnOf "gaps_of" "gaps_of" (zk (top 29)) (zj (top 29)) (zb (top 29)) .none .none .none (.str "logloom.forms" 514) none (.ref 298) .none),#[]⟩)::
 (nat_lit 300,tu0)::
 (nat_lit 302,{cls:=.type "tuple",data:=.seq #[.str "forms" 558,.str "row" 559,.str "number" 560,.str "form" 561]})::
 (nat_lit 303,tu0)::
 (nat_lit 305,{cls:=.type "code",data:=.fields #[.str "first_writing" 555,.str "first_writing" 556,.str "/claim/cut.py" 557,.int 108 0,.int 2 0,.int 0 0,.int 0 0,.int 3 0,.ref 300,.bool true,.int 181 0,.ref 301,.none,.ref 302,.ref 303,.ref 304,.int 562 0,.int 108 0,.str "/claim/cut.py" 563]})::
 (nat_lit 306,⟨(.type "function"),none,.func (W.fnOf "first_writing" "first_writing" (zk (top 30)) (zj (top 30)) (zb (top 30)) .none .none .none (.str "logloom.forms" 514) none (.ref 305) .none),#[]⟩)::
 (nat_lit 307,tu0)::
 (nat_lit 309,{cls:=.type "tuple",data:=.seq #[.str "rows" 570,.str "met" 571,.str "row" 572]})::
 (nat_lit 310,tu0)::
 (nat_lit 312,{cls:=.type "code",data:=.fields #[.str "unlike" 567,.str "unlike" 568,.str "/claim/cut.py" 569,.int 114 0,.int 1 0,.int 0 0,.int 0 0,.int 3 0,.ref 307,.bool true,.int 181 0,.ref 308,.none,.ref 309,.ref 310,.ref 311,.int 573 0,.int 114 0,.str "/claim/cut.py" 574]})::
 (nat_lit 313,⟨(.type "function"),none,.func (W.fnOf "unlike" "unlike" (zk (top 32)) (zj (top 32)) (zb (top 32)) .none .none .none (.str "logloom.joins" 565) none (.ref 312) .none),#[]⟩)::
 (nat_lit 314,tu0)::
 (nat_lit 317,{cls:=.type "code",data:=.fields #[.str "words_at" 576,.str "words_at" 577,.str "/claim/cut.py" 578,.int 120 0,.int 2 0,.int 0 0,.int 0 0,.int 3 0,.ref 314,.bool true,.int 181 0,.ref 315,.none,.none,.none,.ref 316,.int 579 0,.int 120 0,.str "/claim/cut.py" 580]})::
 (nat_lit 318,⟨(.type "function"),none,.func (W.fnOf "words_at" "words_at" (zk (top 33)) (zj (top 33)) (zb (top 33)) .none .none .none (.str "logloom.joins" 565) none (.ref 317) .none),#[]⟩)::
 (nat_lit 319,tu0)::
 (nat_lit 322,{cls:=.type "code",data:=.fields #[.str "least_part" 582,.str "least_part" 583,.str "/claim/cut.py" 584,.int 122 0,.int 1 0,.int 0 0,.int 0 0,.int 3 0,.ref 319,.bool true,.int 181 0,.ref 320,.none,.none,.none,.ref 321,.int 585 0,.int 122 0,.str "/claim/cut.py" 586]})::
 (nat_lit 323,⟨(.type "function"),none,.func (W.fnOf "least_part" "least_part" (zk (top 34)) (zj (top 34)) (zb (top 34)) .none .none .none (.str "logloom.joins" 565) none (.ref 322) .none),#[]⟩)::
 (nat_lit 324,tu0)::
 (nat_lit 327,{cls:=.type "code",data:=.fields #[.str "least_form" 588,.str "least_form" 589,.str "/claim/cut.py" 590,.int 130 0,.int 1 0,.int 0 0,.int 0 0,.int 3 0,.ref 324,.bool true,.int 181 0,.ref 325,.none,.none,.none,.ref 326,.int 591 0,.int 130 0,.str "/claim/cut.py" 592]})::
 (nat_lit 328,⟨(.type "function"),none,.func (W.fnOf "least_form" "least_form" (zk (top 35)) (zj (top 35)) (zb (top 35)) .none .none .none (.str "logloom.joins" 565) none (.ref 327) .none),#[]⟩)::
 (nat_lit 329,tu0)::
 (nat_lit 332,{cls:=.type "code",data:=.fields #[.str "form_within" 594,.str "form_within" 595,.str "/claim/cut.py" 596,.int 135 0,.int 2 0,.int 0 0,.int 0 0,.int 3 0,.ref 329,.bool true,.int 181 0,.ref 330,.none,.none,.none,.ref 331,.int 597 0,.int 135 0,.str "/claim/cut.py" 598]})::
 (nat_lit 333,⟨(.type "function"),none,.func (W.fnOf "form_within" "form_within" (zk (top 36)) (zj (top 36)) (zb (top 36)) .none .none .none (.str "logloom.joins" 565) none (.ref 332) .none),#[]⟩)::
 (nat_lit 334,tu0)::
 (nat_lit 337,{cls:=.type "code",data:=.fields #[.str "rows_in" 604,.str "rows_in" 605,.str "/claim/cut.py" 606,.int 142 0,.int 2 0,.int 0 0,.int 0 0,.int 3 0,.ref 334,.bool true,.int 181 0,.ref 335,.none,.none,.none,.ref 336,.int 607 0,.int 142 0,.str "/claim/cut.py" 608]})::
 (nat_lit 338,⟨(.type "function"),none,.func (W.fnOf "rows_in" "rows_in" (zk (top 39)) (zj (top 39)) (zb (top 39)) .none .none .none (.str "logloom.groups" 600) none (.ref 337) .none),#[]⟩)::
 (nat_lit 339,tu0)::
 (nat_lit 342,{cls:=.type "code",data:=.fields #[.str "writes_others" 610,.str "writes_others" 611,.str "/claim/cut.py" 612,.int 144 0,.int 3 0,.int 0 0,.int 0 0,.int 3 0,.ref 339,.bool true,.int 181 0,.ref 340,.none,.none,.none,.ref 341,.int 613 0,.int 144 0,.str "/claim/cut.py" 614]})::
 (nat_lit 343,⟨(.type "function"),none,.func (W.fnOf "writes_others" "writes_others" (zk (top 40)) (zj (top 40)) (zb (top 40)) .none .none .none (.str "logloom.groups" 600) none (.ref 342) .none),#[]⟩)::
 (nat_lit 344,tu0)::
 (nat_lit 346,{cls:=.type "tuple",data:=.seq #[.str "group" 619,.str "known" 620,.str "most" 621,.str "form" 622,.str "found" 623,.str "number" 624]})::
 (nat_lit 347,tu0)::
 (nat_lit 349,{cls:=.type "code",data:=.fields #[.str "groups_on" 616,.str "groups_on" 617,.str "/claim/cut.py" 618,.int 146 0,.int 3 0,.int 0 0,.int 0 0,.int 3 0,.ref 344,.bool true,.int 181 0,.ref 345,.none,.ref 346,.ref 347,.ref 348,.int 625 0,.int 146 0,.str "/claim/cut.py" 626]})::
 (nat_lit 350,⟨(.type "function"),none,.func (W.fnOf "groups_on" "groups_on" (zk (top 41)) (zj (top 41)) (zb (top 41)) .none .none .none (.str "logloom.groups" 600) none (.ref 349) .none),#[]⟩)::
 (nat_lit 351,tu0)::
 (nat_lit 354,{cls:=.type "code",data:=.fields #[.str "first_grouping" 628,.str "first_grouping" 629,.str "/claim/cut.py" 630,.int 154 0,.int 3 0,.int 0 0,.int 0 0,.int 3 0,.ref 351,.bool true,.int 181 0,.ref 352,.none,.none,.none,.ref 353,.int 631 0,.int 154 0,.str "/claim/cut.py" 632]})::
 (nat_lit 355,⟨(.type "function"),none,.func (W.fnOf "first_grouping" "first_grouping" (zk (top 42)) (zj (top 42)) (zb (top 42)) .none .none .none (.str "logloom.groups" 600) none (.ref 354) .none),#[]⟩)::
 (nat_lit 356,{cls:=.type "tuple",data:=.seq #[.int 2 634]})::
 (nat_lit 357,tu0)::
 (nat_lit 360,{cls:=.type "code",data:=.fields #[.str "groups" 635,.str "groups" 636,.str "/claim/cut.py" 637,.int 166 0,.int 2 0,.int 0 0,.int 0 0,.int 3 0,.ref 357,.bool true,.int 181 0,.ref 358,.none,.none,.none,.ref 359,.int 638 0,.int 166 0,.str "/claim/cut.py" 639]})::
 (nat_lit 361,⟨(.type "function"),none,.func (W.fnOf "groups" "groups" (zk (top 43)) (zj (top 43)) (zb (top 43)) (.ref 356) .none .none (.str "logloom.groups" 600) none (.ref 360) .none),#[]⟩)::
 (nat_lit 362,{cls:=.type "tuple",data:=.seq #[.int 2 641]})::
 (nat_lit 363,tu0)::
 (nat_lit 366,{cls:=.type "code",data:=.fields #[.str "forms_of" 642,.str "forms_of" 643,.str "/claim/cut.py" 644,.int 177 0,.int 2 0,.int 0 0,.int 0 0,.int 3 0,.ref 363,.bool true,.int 181 0,.ref 364,.none,.none,.none,.ref 365,.int 645 0,.int 177 0,.str "/claim/cut.py" 646]})::
 (nat_lit 367,⟨(.type "function"),none,.func (W.fnOf "forms_of" "forms_of" (zk (top 44)) (zj (top 44)) (zb (top 44)) (.ref 362) .none .none (.str "logloom.groups" 600) none (.ref 366) .none),#[]⟩)::
 (nat_lit 368,tu0)::
 (nat_lit 370,{cls:=.type "tuple",data:=.seq #[.str "text" 655,.str "pieces" 656,.str "at" 657,.str "piece" 658]})::
 (nat_lit 371,tu0)::
 (nat_lit 373,{cls:=.type "code",data:=.fields #[.str "words_of" 652,.str "words_of" 653,.str "/claim/cut.py" 654,.int 182 0,.int 1 0,.int 0 0,.int 0 0,.int 3 0,.ref 368,.bool true,.int 181 0,.ref 369,.none,.ref 370,.ref 371,.ref 372,.int 659 0,.int 182 0,.str "/claim/cut.py" 660]})::
 (nat_lit 374,⟨(.type "function"),none,.func (W.fnOf "words_of" "words_of" (zk (top 47)) (zj (top 47)) (zb (top 47)) .none .none .none (.str "logloom.rows" 648) none (.ref 373) .none),#[]⟩)::
 (nat_lit 375,tu0)::
 (nat_lit 377,{cls:=.type "tuple",data:=.seq #[.str "text" 669]})::
 (nat_lit 378,tu0)::
 (nat_lit 380,{cls:=.type "code",data:=.fields #[.str "row_of" 666,.str "row_of" 667,.str "/claim/cut.py" 668,.int 192 0,.int 1 0,.int 0 0,.int 0 0,.int 3 0,.ref 375,.bool true,.int 181 0,.ref 376,.none,.ref 377,.ref 378,.ref 379,.int 670 0,.int 192 0,.str "/claim/cut.py" 671]})::
 (nat_lit 381,⟨(.type "function"),none,.func (W.fnOf "row_of" "row_of" (zk (top 50)) (zj (top 50)) (zb (top 50)) .none .none .none (.str "logloom.loom" 662) none (.ref 380) .none),#[]⟩)::
 (nat_lit 382,tu0)::
 (nat_lit 385,{cls:=.type "code",data:=.fields #[.str "rows_of" 673,.str "rows_of" 674,.str "/claim/cut.py" 675,.int 197 0,.int 1 0,.int 0 0,.int 0 0,.int 3 0,.ref 382,.bool true,.int 181 0,.ref 383,.none,.none,.none,.ref 384,.int 676 0,.int 197 0,.str "/claim/cut.py" 677]})::
 (nat_lit 386,⟨(.type "function"),none,.func (W.fnOf "rows_of" "rows_of" (zk (top 51)) (zj (top 51)) (zb (top 51)) .none .none .none (.str "logloom.loom" 662) none (.ref 385) .none),#[]⟩)::
 (nat_lit 387,tu0)::
 (nat_lit 389,{cls:=.type "tuple",data:=.seq #[.str "forms" 682,.str "text" 683,.str "row" 684,.str "letter" 685]})::
 (nat_lit 390,tu0)::
 (nat_lit 392,{cls:=.type "code",data:=.fields #[.str "entry_of" 679,.str "entry_of" 680,.str "/claim/cut.py" 681,.int 202 0,.int 2 0,.int 0 0,.int 0 0,.int 3 0,.ref 387,.bool true,.int 181 0,.ref 388,.none,.ref 389,.ref 390,.ref 391,.int 686 0,.int 202 0,.str "/claim/cut.py" 687]})::
 (nat_lit 393,⟨(.type "function"),none,.func (W.fnOf "entry_of" "entry_of" (zk (top 52)) (zj (top 52)) (zb (top 52)) .none .none .none (.str "logloom.loom" 662) none (.ref 392) .none),#[]⟩)::
 (nat_lit 401,{cls:=.type "tuple",data:=.seq #[.int 2 701]})::
 (nat_lit 402,tu0)::
 (nat_lit 404,{cls:=.type "tuple",data:=.seq #[.str "self" 705,.str "texts" 706,.str "most" 707]})::
 (nat_lit 405,tu0)::
 (nat_lit 407,{cls:=.type "code",data:=.fields #[.str "__init__" 702,.str "Loom.__init__" 703,.str "/claim/cut.py" 704,.int 208 0,.int 3 0,.int 0 0,.int 0 0,.int 3 0,.ref 402,.bool true,.int 181 0,.ref 403,.none,.ref 404,.ref 405,.ref 406,.int 708 0,.int 208 0,.str "/claim/cut.py" 709]})::
 (nat_lit 408,⟨(.type "function"),none,.func (W.fnOf "__init__" "Loom.__init__" (zk (inClass (top 53) 0)) (zj (inClass (top 53) 0)) (zb (inClass (top 53) 0)) (.ref 401) .none .none (.str "logloom.loom" 662) none (.ref 407) .none),#[]⟩)::
 (nat_lit 409,tu0)::
 (nat_lit 411,{cls:=.type "tuple",data:=.seq #[.str "self" 714]})::
 (nat_lit 412,tu0)::
 (nat_lit 414,{cls:=.type "code",data:=.fields #[.str "forms" 711,.str "Loom.forms" 712,.str "/claim/cut.py" 713,.int 212 0,.int 1 0,.int 0 0,.int 0 0,.int 3 0,.ref 409,.bool true,.int 181 0,.ref 410,.none,.ref 411,.ref 412,.ref 413,.int 715 0,.int 212 0,.str "/claim/cut.py" 716]})::
 (nat_lit 415,⟨(.type "function"),none,.func (W.fnOf "forms" "Loom.forms" (zk (inClass (top 53) 1)) (zj (inClass (top 53) 1)) (zb (inClass (top 53) 1)) .none .none .none (.str "logloom.loom" 662) none (.ref 414) .none),#[]⟩)::
 (nat_lit 416,tu0)::
 (nat_lit 418,{cls:=.type "tuple",data:=.seq #[.str "self" 721,.str "text" 722]})::
 (nat_lit 419,tu0)::
 (nat_lit 421,{cls:=.type "code",data:=.fields #[.str "letter" 718,.str "Loom.letter" 719,.str "/claim/cut.py" 720,.int 215 0,.int 2 0,.int 0 0,.int 0 0,.int 3 0,.ref 416,.bool true,.int 181 0,.ref 417,.none,.ref 418,.ref 419,.ref 420,.int 723 0,.int 215 0,.str "/claim/cut.py" 724]})::
 (nat_lit 422,⟨(.type "function"),none,.func (W.fnOf "letter" "Loom.letter" (zk (inClass (top 53) 2)) (zj (inClass (top 53) 2)) (zb (inClass (top 53) 2)) .none .none .none (.str "logloom.loom" 662) none (.ref 421) .none),#[]⟩)::
 (nat_lit 423,tu0)::
 (nat_lit 425,{cls:=.type "tuple",data:=.seq #[.str "self" 729,.str "texts" 730]})::
 (nat_lit 426,tu0)::
 (nat_lit 428,{cls:=.type "code",data:=.fields #[.str "log" 726,.str "Loom.log" 727,.str "/claim/cut.py" 728,.int 218 0,.int 2 0,.int 0 0,.int 0 0,.int 3 0,.ref 423,.bool true,.int 181 0,.ref 424,.none,.ref 425,.ref 426,.ref 427,.int 731 0,.int 218 0,.str "/claim/cut.py" 732]})::
 (nat_lit 429,⟨(.type "function"),none,.func (W.fnOf "log" "Loom.log" (zk (inClass (top 53) 3)) (zj (inClass (top 53) 3)) (zb (inClass (top 53) 3)) .none .none .none (.str "logloom.loom" 662) none (.ref 428) .none),#[]⟩)::
 (nat_lit 430,tu0)::
 (nat_lit 432,{cls:=.type "tuple",data:=.seq #[.str "self" 737,.str "texts" 738]})::
 (nat_lit 433,tu0)::
 (nat_lit 435,{cls:=.type "code",data:=.fields #[.str "letters" 734,.str "Loom.letters" 735,.str "/claim/cut.py" 736,.int 221 0,.int 2 0,.int 0 0,.int 0 0,.int 3 0,.ref 430,.bool true,.int 181 0,.ref 431,.none,.ref 432,.ref 433,.ref 434,.int 739 0,.int 221 0,.str "/claim/cut.py" 740]})::
 (nat_lit 436,⟨(.type "function"),none,.func (W.fnOf "letters" "Loom.letters" (zk (inClass (top 53) 4)) (zj (inClass (top 53) 4)) (zb (inClass (top 53) 4)) .none .none .none (.str "logloom.loom" 662) none (.ref 435) .none),#[]⟩)::
 (nat_lit 437,tu0)::
 (nat_lit 439,{cls:=.type "tuple",data:=.seq #[.str "self" 745,.str "texts" 746]})::
 (nat_lit 440,tu0)::
 (nat_lit 442,{cls:=.type "code",data:=.fields #[.str "run_of" 742,.str "Loom.run_of" 743,.str "/claim/cut.py" 744,.int 224 0,.int 2 0,.int 0 0,.int 0 0,.int 3 0,.ref 437,.bool true,.int 181 0,.ref 438,.none,.ref 439,.ref 440,.ref 441,.int 747 0,.int 224 0,.str "/claim/cut.py" 748]})::
 (nat_lit 443,⟨(.type "function"),none,.func (W.fnOf "run_of" "Loom.run_of" (zk (inClass (top 53) 5)) (zj (inClass (top 53) 5)) (zb (inClass (top 53) 5)) .none .none .none (.str "logloom.loom" 662) none (.ref 442) .none),#[]⟩)::
 (nat_lit 444,{cls:=.type "tuple",data:=.seq #[.int 3 750]})::
 (nat_lit 445,tu0)::
 (nat_lit 447,{cls:=.type "tuple",data:=.seq #[.str "self" 754,.str "good" 755,.str "bad" 756,.str "most" 757]})::
 (nat_lit 448,tu0)::
 (nat_lit 450,{cls:=.type "code",data:=.fields #[.str "teach" 751,.str "Loom.teach" 752,.str "/claim/cut.py" 753,.int 227 0,.int 4 0,.int 0 0,.int 0 0,.int 3 0,.ref 445,.bool true,.int 181 0,.ref 446,.none,.ref 447,.ref 448,.ref 449,.int 758 0,.int 227 0,.str "/claim/cut.py" 759]})::
 (nat_lit 451,⟨(.type "function"),none,.func (W.fnOf "teach" "Loom.teach" (zk (inClass (top 53) 6)) (zj (inClass (top 53) 6)) (zb (inClass (top 53) 6)) (.ref 444) .none .none (.str "logloom.loom" 662) none (.ref 450) .none),#[]⟩)::
 (nat_lit 452,tu0)::
 (nat_lit 454,{cls:=.type "tuple",data:=.seq #[.str "self" 764]})::
 (nat_lit 455,tu0)::
 (nat_lit 457,{cls:=.type "code",data:=.fields #[.str "machine" 761,.str "Loom.machine" 762,.str "/claim/cut.py" 763,.int 230 0,.int 1 0,.int 0 0,.int 0 0,.int 3 0,.ref 452,.bool true,.int 181 0,.ref 453,.none,.ref 454,.ref 455,.ref 456,.int 765 0,.int 230 0,.str "/claim/cut.py" 766]})::
 (nat_lit 458,⟨(.type "function"),none,.func (W.fnOf "machine" "Loom.machine" (zk (inClass (top 53) 7)) (zj (inClass (top 53) 7)) (zb (inClass (top 53) 7)) .none .none .none (.str "logloom.loom" 662) none (.ref 457) .none),#[]⟩)::
 (nat_lit 459,tu0)::
 (nat_lit 461,{cls:=.type "tuple",data:=.seq #[.str "self" 771,.str "texts" 772]})::
 (nat_lit 462,tu0)::
 (nat_lit 464,{cls:=.type "code",data:=.fields #[.str "odd" 768,.str "Loom.odd" 769,.str "/claim/cut.py" 770,.int 233 0,.int 2 0,.int 0 0,.int 0 0,.int 3 0,.ref 459,.bool true,.int 181 0,.ref 460,.none,.ref 461,.ref 462,.ref 463,.int 773 0,.int 233 0,.str "/claim/cut.py" 774]})::
 (nat_lit 465,⟨(.type "function"),none,.func (W.fnOf "odd" "Loom.odd" (zk (inClass (top 53) 8)) (zj (inClass (top 53) 8)) (zb (inClass (top 53) 8)) .none .none .none (.str "logloom.loom" 662) none (.ref 464) .none),#[]⟩)::
 (nat_lit 466,tu0)::
 (nat_lit 468,{cls:=.type "tuple",data:=.seq #[.str "self" 779,.str "question" 780,.str "texts" 781]})::
 (nat_lit 469,tu0)::
 (nat_lit 471,{cls:=.type "code",data:=.fields #[.str "asked" 776,.str "Loom.asked" 777,.str "/claim/cut.py" 778,.int 236 0,.int 3 0,.int 0 0,.int 0 0,.int 3 0,.ref 466,.bool true,.int 181 0,.ref 467,.none,.ref 468,.ref 469,.ref 470,.int 782 0,.int 236 0,.str "/claim/cut.py" 783]})::
 (nat_lit 472,⟨(.type "function"),none,.func (W.fnOf "asked" "Loom.asked" (zk (inClass (top 53) 9)) (zj (inClass (top 53) 9)) (zb (inClass (top 53) 9)) .none .none .none (.str "logloom.loom" 662) none (.ref 471) .none),#[]⟩)::
 (nat_lit 473,tu0)::
 (nat_lit 475,{cls:=.type "tuple",data:=.seq #[.str "self" 788,.str "texts" 789]})::
 (nat_lit 476,tu0)::
 (nat_lit 478,{cls:=.type "code",data:=.fields #[.str "pressed" 785,.str "Loom.pressed" 786,.str "/claim/cut.py" 787,.int 239 0,.int 2 0,.int 0 0,.int 0 0,.int 3 0,.ref 473,.bool true,.int 181 0,.ref 474,.none,.ref 475,.ref 476,.ref 477,.int 790 0,.int 239 0,.str "/claim/cut.py" 791]})::
 (nat_lit 479,⟨(.type "function"),none,.func (W.fnOf "pressed" "Loom.pressed" (zk (inClass (top 53) 10)) (zj (inClass (top 53) 10)) (zb (inClass (top 53) 10)) .none .none .none (.str "logloom.loom" 662) none (.ref 478) .none),#[]⟩)::
 (nat_lit 480,tu0)::
 (nat_lit 482,{cls:=.type "tuple",data:=.seq #[.str "self" 796,.str "numbers" 797]})::
 (nat_lit 483,tu0)::
 (nat_lit 485,{cls:=.type "code",data:=.fields #[.str "unpressed" 793,.str "Loom.unpressed" 794,.str "/claim/cut.py" 795,.int 242 0,.int 2 0,.int 0 0,.int 0 0,.int 3 0,.ref 480,.bool true,.int 181 0,.ref 481,.none,.ref 482,.ref 483,.ref 484,.int 798 0,.int 242 0,.str "/claim/cut.py" 799]})::
 (nat_lit 486,⟨(.type "function"),none,.func (W.fnOf "unpressed" "Loom.unpressed" (zk (inClass (top 53) 11)) (zj (inClass (top 53) 11)) (zb (inClass (top 53) 11)) .none .none .none (.str "logloom.loom" 662) none (.ref 485) .none),#[]⟩)::
 (nat_lit 487,{cls:=.type "tuple",data:=.seq #[.str "known" 801,.str "taught" 802]})::
 (nat_lit 488,{cls:=.type "dict",data:=.dict #[⟨PyData.keyHash P "__module__",.str "__module__" 696,.str "logloom.loom" 662⟩,⟨PyData.keyHash P "__firstlineno__",.str "__firstlineno__" 700,.int 206 699⟩,⟨PyData.keyHash P "__init__",.str "__init__" 710,.ref 408⟩,⟨PyData.keyHash P "forms",.str "forms" 717,.ref 415⟩,⟨PyData.keyHash P "letter",.str "letter" 725,.ref 422⟩,⟨PyData.keyHash P "log",.str "log" 733,.ref 429⟩,⟨PyData.keyHash P "letters",.str "letters" 741,.ref 436⟩,⟨PyData.keyHash P "run_of",.str "run_of" 749,.ref 443⟩,⟨PyData.keyHash P "teach",.str "teach" 760,.ref 451⟩,⟨PyData.keyHash P "machine",.str "machine" 767,.ref 458⟩,⟨PyData.keyHash P "odd",.str "odd" 775,.ref 465⟩,⟨PyData.keyHash P "asked",.str "asked" 784,.ref 472⟩,⟨PyData.keyHash P "pressed",.str "pressed" 792,.ref 479⟩,⟨PyData.keyHash P "unpressed",.str "unpressed" 800,.ref 486⟩,⟨PyData.keyHash P "__static_attributes__",.str "__static_attributes__" 803,.ref 487⟩,⟨PyData.keyHash P "__dict__",.str "__dict__" 805,.ref 490⟩,⟨PyData.keyHash P "__weakref__",.str "__weakref__" 807,.ref 491⟩,⟨PyData.keyHash P "__doc__",.str "__doc__" 808,.none⟩] 4})::
 (nat_lit 489,{cls:=.type "type",data:=Data.cls { name:=Str.ofString "Loom",bases:=[.type "object"],mro:=[.ref 489,.type "object"],ns:=488,qualname:=Str.ofString "Loom"},slots:=#[none,none,some (.str "Loom" 689),some (.str "Loom" 697),some (.builtin "object.__new__"),some (.bool true)]})::
 (nat_lit 490,{cls:=.type "getset_descriptor",data:=.fields #[.str "__dict__" 804,.ref 489,.builtin "function.__dict__",.builtin "function.__dict__#set"]})::
 (nat_lit 491,{cls:=.type "getset_descriptor",data:=.fields #[.str "__weakref__" 806,.ref 489,.builtin "ExceptionGroup.__weakref__",.none]})::
 (nat_lit 494,tu0)::
 (nat_lit 496,{cls:=.type "tuple",data:=.seq #[.str "_law_script" 816,.str "_law_k" 817]})::
 (nat_lit 497,tu0)::
 (nat_lit 499,{cls:=.type "code",data:=.fields #[.str "_law_cell_at" 813,.str "_law_cell_at" 814,.str "/claim/cut.py" 815,.int 245 0,.int 2 0,.int 0 0,.int 0 0,.int 3 0,.ref 494,.bool true,.int 181 0,.ref 495,.none,.ref 496,.ref 497,.ref 498,.int 818 0,.int 245 0,.str "/claim/cut.py" 819]})::
 (nat_lit 500,⟨(.type "function"),none,.func (W.fnOf "_law_cell_at" "_law_cell_at" (zk (top 55)) (zj (top 55)) (zb (top 55)) .none .none .none (.str "law_logloom_k80_looms_of_texts" 811) none (.ref 499) .none),#[]⟩)::
 (nat_lit 501,tu0)::
 (nat_lit 504,{cls:=.type "code",data:=.fields #[.str "_law_of" 821,.str "_law_of" 822,.str "/claim/cut.py" 823,.int 249 0,.int 2 0,.int 0 0,.int 0 0,.int 3 0,.ref 501,.bool true,.int 181 0,.ref 502,.none,.none,.none,.ref 503,.int 824 0,.int 249 0,.str "/claim/cut.py" 825]})::
 (nat_lit 505,⟨(.type "function"),none,.func (W.fnOf "_law_of" "_law_of" (zk (top 56)) (zj (top 56)) (zb (top 56)) .none .none .none (.str "law_logloom_k80_looms_of_texts" 811) none (.ref 504) .none),#[]⟩)::
 (nat_lit 506,tu0)::
 (nat_lit 508,{cls:=.type "tuple",data:=.seq #[.str "_law_text_here" 830]})::
 (nat_lit 509,tu0)::
 (nat_lit 511,{cls:=.type "code",data:=.fields #[.str "_law_is_number" 827,.str "_law_is_number" 828,.str "/claim/cut.py" 829,.int 251 0,.int 1 0,.int 0 0,.int 0 0,.int 3 0,.ref 506,.bool true,.int 181 0,.ref 507,.none,.ref 508,.ref 509,.ref 510,.int 831 0,.int 251 0,.str "/claim/cut.py" 832]})::
 (nat_lit 512,⟨(.type "function"),none,.func (W.fnOf "_law_is_number" "_law_is_number" (zk (top 57)) (zj (top 57)) (zb (top 57)) .none .none .none (.str "law_logloom_k80_looms_of_texts" 811) none (.ref 511) .none),#[]⟩)::
 (nat_lit 513,tu0)::
 (nat_lit 515,{cls:=.type "tuple",data:=.seq #[.str "_law_text_here" 837,.str "_law_small" 838]})::
 (nat_lit 516,tu0)::
 (nat_lit 518,{cls:=.type "code",data:=.fields #[.str "_law_is_name" 834,.str "_law_is_name" 835,.str "/claim/cut.py" 836,.int 255 0,.int 1 0,.int 0 0,.int 0 0,.int 3 0,.ref 513,.bool true,.int 181 0,.ref 514,.none,.ref 515,.ref 516,.ref 517,.int 839 0,.int 255 0,.str "/claim/cut.py" 840]})::
 (nat_lit 519,⟨(.type "function"),none,.func (W.fnOf "_law_is_name" "_law_is_name" (zk (top 58)) (zj (top 58)) (zb (top 58)) .none .none .none (.str "law_logloom_k80_looms_of_texts" 811) none (.ref 518) .none),#[]⟩)::
 (nat_lit 520,tu0)::
 (nat_lit 523,{cls:=.type "code",data:=.fields #[.str "_law_is_list" 842,.str "_law_is_list" 843,.str "/claim/cut.py" 844,.int 260 0,.int 1 0,.int 0 0,.int 0 0,.int 3 0,.ref 520,.bool true,.int 181 0,.ref 521,.none,.none,.none,.ref 522,.int 845 0,.int 260 0,.str "/claim/cut.py" 846]})::
 (nat_lit 524,⟨(.type "function"),none,.func (W.fnOf "_law_is_list" "_law_is_list" (zk (top 59)) (zj (top 59)) (zb (top 59)) .none .none .none (.str "law_logloom_k80_looms_of_texts" 811) none (.ref 523) .none),#[]⟩)::
 (nat_lit 525,tu0)::
 (nat_lit 527,{cls:=.type "tuple",data:=.seq #[.str "_law_text_here" 851,.str "_law_small" 852]})::
 (nat_lit 528,tu0)::
 (nat_lit 530,{cls:=.type "code",data:=.fields #[.str "_law_sort" 848,.str "_law_sort" 849,.str "/claim/cut.py" 850,.int 273 0,.int 1 0,.int 0 0,.int 0 0,.int 3 0,.ref 525,.bool true,.int 181 0,.ref 526,.none,.ref 527,.ref 528,.ref 529,.int 853 0,.int 273 0,.str "/claim/cut.py" 854]})::
 (nat_lit 531,⟨(.type "function"),none,.func (W.fnOf "_law_sort" "_law_sort" (zk (top 60)) (zj (top 60)) (zb (top 60)) .none .none .none (.str "law_logloom_k80_looms_of_texts" 811) none (.ref 530) .none),#[]⟩)::
 (nat_lit 532,tu0)::
 (nat_lit 534,{cls:=.type "tuple",data:=.seq #[.str "_law_cell" 859,.str "_law_many" 860,.str "_law_signs_here" 861,.str "_law_found" 862,.str "_law_number" 863,.str "_law_k" 864]})::
 (nat_lit 535,tu0)::
 (nat_lit 537,{cls:=.type "code",data:=.fields #[.str "_law_signs" 856,.str "_law_signs" 857,.str "/claim/cut.py" 858,.int 284 0,.int 3 0,.int 0 0,.int 0 0,.int 3 0,.ref 532,.bool true,.int 181 0,.ref 533,.none,.ref 534,.ref 535,.ref 536,.int 865 0,.int 284 0,.str "/claim/cut.py" 866]})::
 (nat_lit 538,⟨(.type "function"),none,.func (W.fnOf "_law_signs" "_law_signs" (zk (top 61)) (zj (top 61)) (zb (top 61)) .none .none .none (.str "law_logloom_k80_looms_of_texts" 811) none (.ref 537) .none),#[]⟩)::
 (nat_lit 539,tu0)::
 (nat_lit 541,{cls:=.type "tuple",data:=.seq #[.str "_law_cell" 871,.str "_law_many" 872]})::
 (nat_lit 542,tu0)::
 (nat_lit 544,{cls:=.type "code",data:=.fields #[.str "_law_number_word" 868,.str "_law_number_word" 869,.str "/claim/cut.py" 870,.int 291 0,.int 1 0,.int 0 0,.int 0 0,.int 3 0,.ref 539,.bool true,.int 181 0,.ref 540,.none,.ref 541,.ref 542,.ref 543,.int 873 0,.int 291 0,.str "/claim/cut.py" 874]})::
 (nat_lit 545,⟨(.type "function"),none,.func (W.fnOf "_law_number_word" "_law_number_word" (zk (top 62)) (zj (top 62)) (zb (top 62)) .none .none .none (.str "law_logloom_k80_looms_of_texts" 811) none (.ref 544) .none),#[]⟩)::
 (nat_lit 546,tu0)::
 (nat_lit 548,{cls:=.type "tuple",data:=.seq #[.str "_law_cell" 879,.str "_law_small" 880]})::
 (nat_lit 549,tu0)::
 (nat_lit 551,{cls:=.type "code",data:=.fields #[.str "_law_name_word" 876,.str "_law_name_word" 877,.str "/claim/cut.py" 878,.int 296 0,.int 1 0,.int 0 0,.int 0 0,.int 3 0,.ref 546,.bool true,.int 181 0,.ref 547,.none,.ref 548,.ref 549,.ref 550,.int 881 0,.int 296 0,.str "/claim/cut.py" 882]})::
 (nat_lit 552,⟨(.type "function"),none,.func (W.fnOf "_law_name_word" "_law_name_word" (zk (top 63)) (zj (top 63)) (zb (top 63)) .none .none .none (.str "law_logloom_k80_looms_of_texts" 811) none (.ref 551) .none),#[]⟩)::
 (nat_lit 553,tu0)::
 (nat_lit 555,{cls:=.type "tuple",data:=.seq #[.str "_law_cell" 887,.str "_law_signs_here" 888,.str "_law_many" 889,.str "_law_word_here" 890,.str "_law_at" 891,.str "_law_great" 892]})::
 (nat_lit 556,tu0)::
 (nat_lit 558,{cls:=.type "code",data:=.fields #[.str "_law_mark_word" 884,.str "_law_mark_word" 885,.str "/claim/cut.py" 886,.int 299 0,.int 1 0,.int 0 0,.int 0 0,.int 3 0,.ref 553,.bool true,.int 181 0,.ref 554,.none,.ref 555,.ref 556,.ref 557,.int 893 0,.int 299 0,.str "/claim/cut.py" 894]})::
 (nat_lit 559,⟨(.type "function"),none,.func (W.fnOf "_law_mark_word" "_law_mark_word" (zk (top 64)) (zj (top 64)) (zb (top 64)) .none .none .none (.str "law_logloom_k80_looms_of_texts" 811) none (.ref 558) .none),#[]⟩)::
 (nat_lit 560,tu0)::
 (nat_lit 562,{cls:=.type "tuple",data:=.seq #[.str "_law_cell" 899,.str "_law_items" 900,.str "_law_k" 901,.str "_law_part" 902]})::
 (nat_lit 563,tu0)::
 (nat_lit 565,{cls:=.type "code",data:=.fields #[.str "_law_list_word" 896,.str "_law_list_word" 897,.str "/claim/cut.py" 898,.int 308 0,.int 1 0,.int 0 0,.int 0 0,.int 3 0,.ref 560,.bool true,.int 181 0,.ref 561,.none,.ref 562,.ref 563,.ref 564,.int 903 0,.int 308 0,.str "/claim/cut.py" 904]})::
 (nat_lit 566,⟨(.type "function"),none,.func (W.fnOf "_law_list_word" "_law_list_word" (zk (top 65)) (zj (top 65)) (zb (top 65)) .none .none .none (.str "law_logloom_k80_looms_of_texts" 811) none (.ref 565) .none),#[]⟩)::
 (nat_lit 567,tu0)::
 (nat_lit 569,{cls:=.type "tuple",data:=.seq #[.str "_law_cell" 909]})::
 (nat_lit 570,tu0)::
 (nat_lit 572,{cls:=.type "code",data:=.fields #[.str "_law_word" 906,.str "_law_word" 907,.str "/claim/cut.py" 908,.int 317 0,.int 1 0,.int 0 0,.int 0 0,.int 3 0,.ref 567,.bool true,.int 181 0,.ref 568,.none,.ref 569,.ref 570,.ref 571,.int 910 0,.int 317 0,.str "/claim/cut.py" 911]})::
 (nat_lit 573,⟨(.type "function"),none,.func (W.fnOf "_law_word" "_law_word" (zk (top 66)) (zj (top 66)) (zb (top 66)) .none .none .none (.str "law_logloom_k80_looms_of_texts" 811) none (.ref 572) .none),#[]⟩)::
 (nat_lit 574,tu0)::
 (nat_lit 576,{cls:=.type "tuple",data:=.seq #[.str "_law_cell" 916,.str "_law_many" 917,.str "_law_row" 918,.str "_law_k" 919,.str "_law_number" 920]})::
 (nat_lit 577,tu0)::
 (nat_lit 579,{cls:=.type "code",data:=.fields #[.str "_law_row_by" 913,.str "_law_row_by" 914,.str "/claim/cut.py" 915,.int 325 0,.int 2 0,.int 0 0,.int 0 0,.int 3 0,.ref 574,.bool true,.int 181 0,.ref 575,.none,.ref 576,.ref 577,.ref 578,.int 921 0,.int 325 0,.str "/claim/cut.py" 922]})::
 (nat_lit 580,⟨(.type "function"),none,.func (W.fnOf "_law_row_by" "_law_row_by" (zk (top 67)) (zj (top 67)) (zb (top 67)) .none .none .none (.str "law_logloom_k80_looms_of_texts" 811) none (.ref 579) .none),#[]⟩)::
 (nat_lit 581,tu0)::
 (nat_lit 583,{cls:=.type "tuple",data:=.seq #[.str "_law_sort_here" 927,.str "_law_cell" 928]})::
 (nat_lit 584,tu0)::
 (nat_lit 586,{cls:=.type "code",data:=.fields #[.str "_law_word_of" 924,.str "_law_word_of" 925,.str "/claim/cut.py" 926,.int 331 0,.int 2 0,.int 0 0,.int 0 0,.int 3 0,.ref 581,.bool true,.int 181 0,.ref 582,.none,.ref 583,.ref 584,.ref 585,.int 929 0,.int 331 0,.str "/claim/cut.py" 930]})::
 (nat_lit 587,⟨(.type "function"),none,.func (W.fnOf "_law_word_of" "_law_word_of" (zk (top 68)) (zj (top 68)) (zb (top 68)) .none .none .none (.str "law_logloom_k80_looms_of_texts" 811) none (.ref 586) .none),#[]⟩)::
 (nat_lit 588,tu0)::
 (nat_lit 590,{cls:=.type "tuple",data:=.seq #[.str "_law_script" 935,.str "_law_found" 936,.str "_law_k" 937,.str "_law_cell" 938,.str "_law_row" 939,.str "_law_first" 940,.str "_law_second" 941,.str "_law_base" 942,.str "_law_at" 943]})::
 (nat_lit 591,tu0)::
 (nat_lit 593,{cls:=.type "code",data:=.fields #[.str "_law_bases" 932,.str "_law_bases" 933,.str "/claim/cut.py" 934,.int 339 0,.int 1 0,.int 0 0,.int 0 0,.int 3 0,.ref 588,.bool true,.int 181 0,.ref 589,.none,.ref 590,.ref 591,.ref 592,.int 944 0,.int 339 0,.str "/claim/cut.py" 945]})::
 (nat_lit 594,⟨(.type "function"),none,.func (W.fnOf "_law_bases" "_law_bases" (zk (top 69)) (zj (top 69)) (zb (top 69)) .none .none .none (.str "law_logloom_k80_looms_of_texts" 811) none (.ref 593) .none),#[]⟩)::
 (nat_lit 595,tu0)::
 (nat_lit 597,{cls:=.type "tuple",data:=.seq #[.str "_law_script" 950,.str "_law_bases_here" 951,.str "_law_cell" 952,.str "_law_words" 953,.str "_law_number" 954,.str "_law_kind" 955,.str "_law_thing" 956]})::
 (nat_lit 598,tu0)::
 (nat_lit 600,{cls:=.type "code",data:=.fields #[.str "_law_text" 947,.str "_law_text" 948,.str "/claim/cut.py" 949,.int 354 0,.int 3 0,.int 0 0,.int 0 0,.int 3 0,.ref 595,.bool true,.int 181 0,.ref 596,.none,.ref 597,.ref 598,.ref 599,.int 957 0,.int 354 0,.str "/claim/cut.py" 958]})::
 (nat_lit 601,⟨(.type "function"),none,.func (W.fnOf "_law_text" "_law_text" (zk (top 70)) (zj (top 70)) (zb (top 70)) .none .none .none (.str "law_logloom_k80_looms_of_texts" 811) none (.ref 600) .none),#[]⟩)::
 (nat_lit 602,tu0)::
 (nat_lit 604,{cls:=.type "tuple",data:=.seq #[.str "_law_cell" 963,.str "_law_some" 964]})::
 (nat_lit 605,tu0)::
 (nat_lit 607,{cls:=.type "code",data:=.fields #[.str "_law_odd_text" 960,.str "_law_odd_text" 961,.str "/claim/cut.py" 962,.int 363 0,.int 1 0,.int 0 0,.int 0 0,.int 3 0,.ref 602,.bool true,.int 181 0,.ref 603,.none,.ref 604,.ref 605,.ref 606,.int 965 0,.int 363 0,.str "/claim/cut.py" 966]})::
 (nat_lit 608,⟨(.type "function"),none,.func (W.fnOf "_law_odd_text" "_law_odd_text" (zk (top 71)) (zj (top 71)) (zb (top 71)) .none .none .none (.str "law_logloom_k80_looms_of_texts" 811) none (.ref 607) .none),#[]⟩)::
 (nat_lit 609,tu0)::
 (nat_lit 611,{cls:=.type "tuple",data:=.seq #[.str "_law_texts_here" 971,.str "_law_most_here" 972,.str "_law_found" 973,.str "_law_text_here" 974]})::
 (nat_lit 612,tu0)::
 (nat_lit 614,{cls:=.type "code",data:=.fields #[.str "_law_unlike" 968,.str "_law_unlike" 969,.str "/claim/cut.py" 970,.int 368 0,.int 2 0,.int 0 0,.int 0 0,.int 3 0,.ref 609,.bool true,.int 181 0,.ref 610,.none,.ref 611,.ref 612,.ref 613,.int 975 0,.int 368 0,.str "/claim/cut.py" 976]})::
 (nat_lit 615,⟨(.type "function"),none,.func (W.fnOf "_law_unlike" "_law_unlike" (zk (top 72)) (zj (top 72)) (zb (top 72)) .none .none .none (.str "law_logloom_k80_looms_of_texts" 811) none (.ref 614) .none),#[]⟩)::
 (nat_lit 616,tu0)::
 (nat_lit 618,{cls:=.type "tuple",data:=.seq #[.str "_law_part" 981,.str "_law_word_here" 982]})::
 (nat_lit 619,tu0)::
 (nat_lit 621,{cls:=.type "code",data:=.fields #[.str "_law_takes" 978,.str "_law_takes" 979,.str "/claim/cut.py" 980,.int 374 0,.int 2 0,.int 0 0,.int 0 0,.int 3 0,.ref 616,.bool true,.int 181 0,.ref 617,.none,.ref 618,.ref 619,.ref 620,.int 983 0,.int 374 0,.str "/claim/cut.py" 984]})::
 (nat_lit 622,⟨(.type "function"),none,.func (W.fnOf "_law_takes" "_law_takes" (zk (top 73)) (zj (top 73)) (zb (top 73)) .none .none .none (.str "law_logloom_k80_looms_of_texts" 811) none (.ref 621) .none),#[]⟩)::
 (nat_lit 623,tu0)::
 (nat_lit 626,{cls:=.type "code",data:=.fields #[.str "_law_entry" 986,.str "_law_entry" 987,.str "/claim/cut.py" 988,.int 378 0,.int 2 0,.int 0 0,.int 0 0,.int 3 0,.ref 623,.bool true,.int 181 0,.ref 624,.none,.none,.none,.ref 625,.int 989 0,.int 378 0,.str "/claim/cut.py" 990]})::
 (nat_lit 627,⟨(.type "function"),none,.func (W.fnOf "_law_entry" "_law_entry" (zk (top 74)) (zj (top 74)) (zb (top 74)) .none .none .none (.str "law_logloom_k80_looms_of_texts" 811) none (.ref 626) .none),#[]⟩)::
 (nat_lit 628,tu0)::
 (nat_lit 631,{cls:=.type "code",data:=.fields #[.str "_law_texts" 992,.str "_law_texts" 993,.str "/claim/cut.py" 994,.int 390 0,.int 1 0,.int 0 0,.int 0 0,.int 3 0,.ref 628,.bool true,.int 181 0,.ref 629,.none,.none,.none,.ref 630,.int 995 0,.int 390 0,.str "/claim/cut.py" 996]})::
 (nat_lit 632,⟨(.type "function"),none,.func (W.fnOf "_law_texts" "_law_texts" (zk (top 75)) (zj (top 75)) (zb (top 75)) .none .none .none (.str "law_logloom_k80_looms_of_texts" 811) none (.ref 631) .none),#[]⟩)::
 (nat_lit 633,tu0)::
 (nat_lit 635,{cls:=.type "tuple",data:=.seq #[.str "_law_texts_here" 1001,.str "_law_cell" 1002]})::
 (nat_lit 636,tu0)::
 (nat_lit 638,{cls:=.type "code",data:=.fields #[.str "_law_made" 998,.str "_law_made" 999,.str "/claim/cut.py" 1000,.int 399 0,.int 2 0,.int 0 0,.int 0 0,.int 3 0,.ref 633,.bool true,.int 181 0,.ref 634,.none,.ref 635,.ref 636,.ref 637,.int 1003 0,.int 399 0,.str "/claim/cut.py" 1004]})::
 (nat_lit 639,⟨(.type "function"),none,.func (W.fnOf "_law_made" "_law_made" (zk (top 76)) (zj (top 76)) (zb (top 76)) .none .none .none (.str "law_logloom_k80_looms_of_texts" 811) none (.ref 638) .none),#[]⟩)::
 (nat_lit 640,tu0)::
 (nat_lit 642,{cls:=.type "tuple",data:=.seq #[.str "_law_cell" 1009]})::
 (nat_lit 643,tu0)::
 (nat_lit 645,{cls:=.type "code",data:=.fields #[.str "_law_most" 1006,.str "_law_most" 1007,.str "/claim/cut.py" 1008,.int 403 0,.int 1 0,.int 0 0,.int 0 0,.int 3 0,.ref 640,.bool true,.int 181 0,.ref 641,.none,.ref 642,.ref 643,.ref 644,.int 1010 0,.int 403 0,.str "/claim/cut.py" 1011]})::
 (nat_lit 646,⟨(.type "function"),none,.func (W.fnOf "_law_most" "_law_most" (zk (top 77)) (zj (top 77)) (zb (top 77)) .none .none .none (.str "law_logloom_k80_looms_of_texts" 811) none (.ref 645) .none),#[]⟩)::
 (nat_lit 647,tu0)::
 (nat_lit 649,{cls:=.type "tuple",data:=.seq #[.str "_law_texts_here" 1016,.str "_law_cell" 1017,.str "_law_wanted" 1018,.str "_law_number" 1019,.str "_law_error" 1020,.str "e" 1021]})::
 (nat_lit 650,tu0)::
 (nat_lit 652,{cls:=.type "code",data:=.fields #[.str "_law_refused" 1013,.str "_law_refused" 1014,.str "/claim/cut.py" 1015,.int 405 0,.int 4 0,.int 0 0,.int 0 0,.int 3 0,.ref 647,.bool true,.int 181 0,.ref 648,.none,.ref 649,.ref 650,.ref 651,.int 1022 0,.int 405 0,.str "/claim/cut.py" 1023]})::
 (nat_lit 653,⟨(.type "function"),none,.func (W.fnOf "_law_refused" "_law_refused" (zk (top 78)) (zj (top 78)) (zb (top 78)) .none .none .none (.str "law_logloom_k80_looms_of_texts" 811) none (.ref 652) .none),#[]⟩)::
 (nat_lit 654,tu0)::
 (nat_lit 657,{cls:=.type "code",data:=.fields #[.str "_law_is_row" 1025,.str "_law_is_row" 1026,.str "/claim/cut.py" 1027,.int 416 0,.int 1 0,.int 0 0,.int 0 0,.int 3 0,.ref 654,.bool true,.int 181 0,.ref 655,.none,.none,.none,.ref 656,.int 1028 0,.int 416 0,.str "/claim/cut.py" 1029]})::
 (nat_lit 658,⟨(.type "function"),none,.func (W.fnOf "_law_is_row" "_law_is_row" (zk (top 79)) (zj (top 79)) (zb (top 79)) .none .none .none (.str "law_logloom_k80_looms_of_texts" 811) none (.ref 657) .none),#[]⟩)::
 (nat_lit 659,tu0)::
 (nat_lit 662,{cls:=.type "code",data:=.fields #[.str "_law_writers" 1031,.str "_law_writers" 1032,.str "/claim/cut.py" 1033,.int 419 0,.int 2 0,.int 0 0,.int 0 0,.int 3 0,.ref 659,.bool true,.int 181 0,.ref 660,.none,.none,.none,.ref 661,.int 1034 0,.int 419 0,.str "/claim/cut.py" 1035]})::
 (nat_lit 663,⟨(.type "function"),none,.func (W.fnOf "_law_writers" "_law_writers" (zk (top 80)) (zj (top 80)) (zb (top 80)) .none .none .none (.str "law_logloom_k80_looms_of_texts" 811) none (.ref 662) .none),#[]⟩)::
 (nat_lit 664,tu0)::
 (nat_lit 667,{cls:=.type "code",data:=.fields #[.str "law" 1037,.str "law" 1038,.str "/claim/cut.py" 1039,.int 421 0,.int 1 0,.int 0 0,.int 0 0,.int 3 0,.ref 664,.bool true,.int 181 0,.ref 665,.none,.none,.none,.ref 666,.int 1040 0,.int 421 0,.str "/claim/cut.py" 1041]})::
 (nat_lit 668,⟨(.type "function"),none,.func (W.fnOf "law" "law" (zk (top 81)) (zj (top 81)) (zb (top 81)) .none .none .none (.str "law_logloom_k80_looms_of_texts" 811) none (.ref 667) .none),#[]⟩)::[]
def hA:List PySem.Addr:=nat_lit 2::nat_lit 3::nat_lit 15::nat_lit 17::nat_lit 18::nat_lit 20::nat_lit 21::nat_lit 22::nat_lit 29::nat_lit 30::nat_lit 31::nat_lit 32::nat_lit 35::nat_lit 42::nat_lit 44::nat_lit 45::nat_lit 47::nat_lit 48::nat_lit 49::nat_lit 50::nat_lit 51::nat_lit 54::nat_lit 61::nat_lit 63::nat_lit 64::nat_lit 66::nat_lit 67::nat_lit 68::nat_lit 69::nat_lit 70::nat_lit 73::nat_lit 80::nat_lit 82::nat_lit 83::nat_lit 85::nat_lit 86::nat_lit 87::nat_lit 88::nat_lit 89::nat_lit 92::nat_lit 99::nat_lit 101::nat_lit 102::nat_lit 104::nat_lit 105::nat_lit 106::nat_lit 107::nat_lit 108::nat_lit 111::nat_lit 114::nat_lit 115::nat_lit 123::nat_lit 125::nat_lit 126::nat_lit 128::nat_lit 129::nat_lit 130::nat_lit 132::nat_lit 133::nat_lit 135::nat_lit 136::nat_lit 137::nat_lit 138::nat_lit 139::nat_lit 140::nat_lit 141::nat_lit 144::nat_lit 151::nat_lit 153::nat_lit 154::nat_lit 156::nat_lit 157::nat_lit 158::nat_lit 160::nat_lit 161::nat_lit 163::nat_lit 164::nat_lit 165::nat_lit 166::nat_lit 167::nat_lit 170::nat_lit 177::nat_lit 179::nat_lit 180::nat_lit 182::nat_lit 183::nat_lit 184::nat_lit 186::nat_lit 187::nat_lit 189::nat_lit 190::nat_lit 191::nat_lit 192::nat_lit 193::nat_lit 196::nat_lit 203::nat_lit 205::nat_lit 206::nat_lit 208::nat_lit 209::nat_lit 210::nat_lit 213::nat_lit 214::nat_lit 215::nat_lit 216::nat_lit 217::nat_lit 220::nat_lit 227::nat_lit 229::nat_lit 230::nat_lit 232::nat_lit 233::nat_lit 234::nat_lit 236::nat_lit 237::nat_lit 239::nat_lit 240::nat_lit 241::nat_lit 242::nat_lit 243::nat_lit 246::nat_lit 248::nat_lit 249::nat_lit 251::nat_lit 252::nat_lit 253::nat_lit 255::nat_lit 256::nat_lit 258::nat_lit 259::nat_lit 260::nat_lit 262::nat_lit 263::nat_lit 265::nat_lit 266::nat_lit 267::nat_lit 269::nat_lit 270::nat_lit 272::nat_lit 273::nat_lit 274::nat_lit 276::nat_lit 277::nat_lit 279::nat_lit 280::nat_lit 281::nat_lit 283::nat_lit 284::nat_lit 286::nat_lit 287::nat_lit 288::nat_lit 290::nat_lit 291::nat_lit 293::nat_lit 294::nat_lit 295::nat_lit 298::nat_lit 299::nat_lit 300::nat_lit 302::nat_lit 303::nat_lit 305::nat_lit 306::nat_lit 307::nat_lit 309::nat_lit 310::nat_lit 312::nat_lit 313::nat_lit 314::nat_lit 317::nat_lit 318::nat_lit 319::nat_lit 322::nat_lit 323::nat_lit 324::nat_lit 327::nat_lit 328::nat_lit 329::nat_lit 332::nat_lit 333::nat_lit 334::nat_lit 337::nat_lit 338::nat_lit 339::nat_lit 342::nat_lit 343::nat_lit 344::nat_lit 346::nat_lit 347::nat_lit 349::nat_lit 350::nat_lit 351::nat_lit 354::nat_lit 355::nat_lit 356::nat_lit 357::nat_lit 360::nat_lit 361::nat_lit 362::nat_lit 363::nat_lit 366::nat_lit 367::nat_lit 368::nat_lit 370::nat_lit 371::nat_lit 373::nat_lit 374::nat_lit 375::nat_lit 377::nat_lit 378::nat_lit 380::nat_lit 381::nat_lit 382::nat_lit 385::nat_lit 386::nat_lit 387::nat_lit 389::nat_lit 390::nat_lit 392::nat_lit 393::nat_lit 401::nat_lit 402::nat_lit 404::nat_lit 405::nat_lit 407::nat_lit 408::nat_lit 409::nat_lit 411::nat_lit 412::nat_lit 414::nat_lit 415::nat_lit 416::nat_lit 418::nat_lit 419::nat_lit 421::nat_lit 422::nat_lit 423::nat_lit 425::nat_lit 426::nat_lit 428::nat_lit 429::nat_lit 430::nat_lit 432::nat_lit 433::nat_lit 435::nat_lit 436::nat_lit 437::nat_lit 439::nat_lit 440::nat_lit 442::nat_lit 443::nat_lit 444::nat_lit 445::nat_lit 447::nat_lit 448::nat_lit 450::nat_lit 451::nat_lit 452::nat_lit 454::nat_lit 455::nat_lit 457::nat_lit 458::nat_lit 459::nat_lit 461::nat_lit 462::nat_lit 464::nat_lit 465::nat_lit 466::nat_lit 468::nat_lit 469::nat_lit 471::nat_lit 472::nat_lit 473::nat_lit 475::nat_lit 476::nat_lit 478::nat_lit 479::nat_lit 480::nat_lit 482::nat_lit 483::nat_lit 485::nat_lit 486::nat_lit 487::nat_lit 488::nat_lit 489::nat_lit 490::nat_lit 491::nat_lit 494::nat_lit 496::nat_lit 497::nat_lit 499::nat_lit 500::nat_lit 501::nat_lit 504::nat_lit 505::nat_lit 506::nat_lit 508::nat_lit 509::nat_lit 511::nat_lit 512::nat_lit 513::nat_lit 515::nat_lit 516::nat_lit 518::nat_lit 519::nat_lit 520::nat_lit 523::nat_lit 524::nat_lit 525::nat_lit 527::nat_lit 528::nat_lit 530::nat_lit 531::nat_lit 532::nat_lit 534::nat_lit 535::nat_lit 537::nat_lit 538::nat_lit 539::nat_lit 541::nat_lit 542::nat_lit 544::nat_lit 545::nat_lit 546::nat_lit 548::nat_lit 549::nat_lit 551::nat_lit 552::nat_lit 553::nat_lit 555::nat_lit 556::nat_lit 558::nat_lit 559::nat_lit 560::nat_lit 562::nat_lit 563::nat_lit 565::nat_lit 566::nat_lit 567::nat_lit 569::nat_lit 570::nat_lit 572::nat_lit 573::nat_lit 574::nat_lit 576::nat_lit 577::nat_lit 579::nat_lit 580::nat_lit 581::nat_lit 583::nat_lit 584::nat_lit 586::nat_lit 587::nat_lit 588::nat_lit 590::nat_lit 591::nat_lit 593::nat_lit 594::nat_lit 595::nat_lit 597::nat_lit 598::nat_lit 600::nat_lit 601::nat_lit 602::nat_lit 604::nat_lit 605::nat_lit 607::nat_lit 608::nat_lit 609::nat_lit 611::nat_lit 612::nat_lit 614::nat_lit 615::nat_lit 616::nat_lit 618::nat_lit 619::nat_lit 621::nat_lit 622::nat_lit 623::nat_lit 626::nat_lit 627::nat_lit 628::nat_lit 631::nat_lit 632::nat_lit 633::nat_lit 635::nat_lit 636::nat_lit 638::nat_lit 639::nat_lit 640::nat_lit 642::nat_lit 643::nat_lit 645::nat_lit 646::nat_lit 647::nat_lit 649::nat_lit 650::nat_lit 652::nat_lit 653::nat_lit 654::nat_lit 657::nat_lit 658::nat_lit 659::nat_lit 662::nat_lit 663::nat_lit 664::nat_lit 667::nat_lit 668::[]
theorem hE:∀P,hA=(hK P).map (·.1):=fun _=>by kernel_rfl
def hQ:PySem.Program:={ PySem.Challenge.pw_logloom_k80_looms_of_texts with
 main:={ PySem.Challenge.pw_logloom_k80_looms_of_texts.main with
  body:=[top 0,top 2,top 3,top 4,top 5,top 6,top 8,top 9,top 10,top 11,top 12,top 13,top 14,top 15,top 16,top 17,top 18,top 19,top 20,top 21,top 22,top 23,top 25,top 26,top 27,top 28,top 29,top 30,top 32,top 33,top 34,top 35,top 36,top 38,top 39,top 40,top 41,top 42,top 46,top 47,top 49,top 50,top 51,top 52,top 53,top 55,top 56,top 57,top 58,top 59,top 60,top 61,top 62,top 63,top 64,top 65,top 66,top 67,top 68,top 69,top 70,top 71,top 72,top 73,top 74,top 75,top 76,top 77,top 78,top 79,top 80,top 81] } }
abbrev hH:W.Hook:=W.kHook hK hA hE
abbrev hX (s:PySem.Shared):Bool:=W.xlAt hQ [] s&&
 W.recOk (W.RowW.records (W.OpenRow.toRowW (W.OpenLaw.row PySem.Challenge.rw_logloom_k80_looms_of_texts))) s
set_option maxHeartbeats 0
noncomputable abbrev hR (w:PySem.World) (o:PySem.OsState):=HT.runQ PySem.Challenge.pw_logloom_k80_looms_of_texts w 9746 (HT.at0 w o) (W.topStub PySem.Challenge.pw_logloom_k80_looms_of_texts)
noncomputable abbrev hF (b:W.SharedT):=W.Fast.tw4187177175401517315 hQ [PySem.Str.ofString "groups",PySem.Str.ofString "forms_of"] (PySem.importedModules (PySem.Challenge.pw_logloom_k80_looms_of_texts).main.body) hX true b.abs
open PySem PySem.W in
theorem hL4:∀w o,(hR w o).map (fun b=>(hF b).2)=some (openGood hQ [PySem.Str.ofString "groups",PySem.Str.ofString "forms_of"]).2:=fun w o=>by kernel_rfl
open PySem PySem.W in
theorem hL5:∀w o,(hR w o).map (fun b=>(hF b).1)=some (openGood hQ [PySem.Str.ofString "groups",PySem.Str.ofString "forms_of"]).1:=fun w o=>by kernel_rfl
theorem hL1:∀w o,(hR w o).map (fun b=>HT.kept PySem.Challenge.pw_logloom_k80_looms_of_texts w.params b.abs)=some true:=fun w o=>by kernel_rfl
theorem hL3:∀w o,(hR w o).map (fun b=>hH.obs b.abs)=some (hH.val w):=fun w o=>by kernel_rfl
theorem hL:W.LeftO PySem.Challenge.pw_logloom_k80_looms_of_texts hQ [PySem.Str.ofString "groups",PySem.Str.ofString "forms_of"] hX hH.obs hH.val 9746:=HT.zvm rfl rfl (fun _=>rfl) hL1 hL4 hL5 hL3
set_option maxHeartbeats 4000000
end SL
namespace L2
open PySem PySem.Spec PyProof.Rows
abbrev Key:=Sum Int Str
def zMk:Key->Value->Bool
 |.inl k,v=>Value.isInt k v
 |.inr x,v=>Value.isStrOf x v
def keyH (w:World):Key->Int
 |.inl k=>hashInt k
 |.inr x=>hashStr w x
theorem zda:∀{k:Key}{v:Value},zMk k v=true->(∃i t,k=Sum.inl i/\v=Value.int i t)\/(∃x t,k=Sum.inr x/\v=Value.str x t)
 |.inl i,v,h=>by
  obtain⟨t,e⟩:=Value.isInt_shape (k:=i) (v:=v) h
  exact .inl ⟨i,t,rfl,e⟩
 |.inr x,v,h=>by
  obtain⟨t,e⟩:=Value.isStrOf_shape (x:=x) (v:=v) h
  exact .inr ⟨x,t,rfl,e⟩
theorem zNk (a b:Int):decide ((Sum.inl a:Key)=Sum.inl b)=(a==b):=by
 by_cases e:a=b
 ·subst e;simp
 ·have h:¬(Sum.inl a:Key)=Sum.inl b:=fun q=>e (Sum.inl.inj q)
  rw[decide_eq_false h]
  exact(beq_eq_false_iff_ne.mpr e).symm
theorem zOk (a b:Str):decide ((Sum.inr a:Key)=Sum.inr b)=decide (a=b):=by
 by_cases e:a=b
 ·subst e;simp
 ·have h:¬(Sum.inr a:Key)=Sum.inr b:=fun q=>e (Sum.inr.inj q)
  rw[decide_eq_false h,decide_eq_false e]
theorem zPk (a:Int)(b:Str):decide ((Sum.inl a:Key)=Sum.inr b)=false:=decide_eq_false (fun q=>nomatch q)
theorem zQk (a:Str)(b:Int):decide ((Sum.inr a:Key)=Sum.inl b)=false:=decide_eq_false (fun q=>nomatch q)
def zYf (prog:Program)(w:World):PySem.KeyKind prog w Key where
 is:=zMk
 hash:=keyH w
 inj:=fun v a b ha hb=>by
  rcases zda ha with⟨i,t,rfl,rfl⟩|⟨x,t,rfl,rfl⟩
  ·rcases zda hb with⟨j,u,rfl,e⟩|⟨y,u,rfl,e⟩
   ·injection e with e1 _;rw[e1]
   ·exact nomatch e
  ·rcases zda hb with⟨j,u,rfl,e⟩|⟨y,u,rfl,e⟩
   ·exact nomatch e
   ·injection e with e1 _;rw[e1]
 byValue:=fun k v h=>by
  rcases zda h with⟨i,t,rfl,rfl⟩|⟨x,t,rfl,rfl⟩<;>rfl
 pyHash:=fun hv h=>by
  rcases zda hv with⟨i,t,rfl,rfl⟩|⟨x,t,rfl,rfl⟩
  ·exact wpAny_pyHash_int h
  ·exact wpAny_pyHash_str h
 eqBool:=fun hu hv h=>by
  rcases zda hu with⟨i,t,rfl,rfl⟩|⟨x,t,rfl,rfl⟩
  ·rcases zda hv with⟨j,u,rfl,rfl⟩|⟨y,u,rfl,rfl⟩
   ·rw[zNk] at h;exact wpAny_eqBool_int h
   ·rw[zPk] at h;exact SeqAt.EqAt.int_str i t y u _ _ _ _ h
  ·rcases zda hv with⟨j,u,rfl,rfl⟩|⟨y,u,rfl,rfl⟩
   ·rw[zQk] at h;exact SeqAt.EqAt.str_int x t j u _ _ _ _ h
   ·rw[zOk] at h;exact wpAny_eqBool_str h
 «strs»:=fun k x t v h=>by
  rcases zda h with⟨i,u,rfl,e⟩|⟨y,u,rfl,e⟩
  ·exact nomatch e
  ·injection e with e1 _
   subst e1
   cases v<;>rfl
inductive V where
 |non|bl (b:Bool)|int (i:Int)|str (x:Str)|byt (b:Array UInt8)|flt (b:UInt64)|ref (a:Addr)|ty (n:String)
 deriving DecidableEq
def RelV:V->Value->Prop
 |.non,u=>u=Value.none
 |.bl b,u=>u=Value.bool b
 |.int i,u=>∃t,u=Value.int i t
 |.str x,u=>∃t,u=Value.str x t
 |.byt b,u=>∃t,u=Value.bytes b t
 |.flt b,u=>∃t,u=Value.float b t
 |.ref a,u=>u=Value.ref a
 |.ty n,u=>u=Value.type n
abbrev Vals:List V->List Value->Prop:=Paired RelV
theorem Vals.length {xs:List V}{us:List Value}(r:Vals xs us):xs.length=us.length:=Paired.length r
theorem Vals.get:∀{xs:List V}{us:List Value}{i:Nat}{x:V},Vals xs us->xs[i]?=some x->∃u,us[i]?=some u/\RelV x u
 |_,_,_,_,.nil,e=>by simp at e
 |_,_,0,_,.cons r _,e=>by simp at e;subst e;exact⟨_,rfl,r⟩
 |_,_,i+1,x,.cons _ t,e=>by
  obtain⟨u,h1,h2⟩:=Vals.get (i:=i) (x:=x) t (by simpa using e)
  exact⟨u,by simpa using h1,h2⟩
theorem Vals.set {x:V}{u:Value}(r:RelV x u):∀{xs:List V}{us:List Value}(i:Nat),Vals xs us->Vals (xs.set i x) (us.set i u)
 |_,_,_,.nil=>.nil
 |_,_,0,.cons _ t=>.cons r t
 |_,_,i+1,.cons q t=>.cons q (Vals.set r i t)
theorem Vals.append:∀{xs ys:List V}{us ws:List Value},Vals xs us->Vals ys ws->Vals (xs++ys) (us++ws)
 |_,_,_,_,.nil,s=>s
 |_,_,_,_,.cons r t,s=>.cons r (Vals.append t s)
theorem Vals.take:∀{xs:List V}{us:List Value}(n:Nat),Vals xs us->Vals (xs.take n) (us.take n)
 |_,_,0,_=>.nil
 |_,_,_+1,.nil=>.nil
 |_,_,n+1,.cons r t=>.cons r (Vals.take n t)
theorem Vals.drop:∀{xs:List V}{us:List Value}(n:Nat),Vals xs us->Vals (xs.drop n) (us.drop n)
 |_,_,0,r=>r
 |_,_,_+1,.nil=>.nil
 |_,_,n+1,.cons _ t=>Vals.drop n t
def RelO:Option V->Option Value->Prop
 |some v,some u=>RelV v u
 |none,none=>True
 |_,_=>False
def KV {κ:Type}:List (κ×V)->List (κ×Value)->Prop:=Paired fun(p:κ×V) (q:κ×Value)=>p.1=q.1/\RelV p.2 q.2
def kV:Key->V
 |.inl i=>.int i
 |.inr x=>.str x
inductive HO where
 |lst (xs:List V)
 |tup (xs:List V)
 |dK (kvs:List (Key×V))|dT (kvs:List (List Key×V))
 |set (S:Int->Bool) (n:Nat)
 |ins (C dx:Addr) (fs:List (Str×V))
 |own (x:Addr)
 |xd (fs:List (Str×V))
 |met (f x:Addr)
 |rng (lo hi:Int)
 |frz (o:Obj) (u:HO)
 |tbl (ps:Array Value)
 |ext (φ:Heap->Prop)
abbrev Hp:=Addr->Option HO
def upd (H:Hp)(a:Addr)(o:HO):Hp:=fun b=>if b=a then some o else H b
theorem zc {H:Hp}{a:Addr}{o:HO}:upd H a o a=some o:=by unfold upd;rw[if_pos rfl]
theorem zy {H:Hp}{a b:Addr}{o:HO}(h:b≠a):upd H a o b=H b:=by unfold upd;rw[if_neg h]
theorem zwm {H:Hp}{a b:Addr}{o u:HO}(h:H a=some o)(h':H b=some u)(d:o≠u):a≠b:=by
 intro e;subst e;rw[h] at h';exact d (Option.some.inj h')
theorem zJ {H:Hp}{a b:Addr}{o:HO}(h:H a=some o)(h':H b=none):a≠b:=by
 intro e;subst e;rw[h] at h';cases h'
section
variable (P:Program)(w:World)
def zqa (H:Hp)(h:Heap)(a:Addr):HO->Prop
 |.lst xs=>xs.length<=sizeLine/\∃(its:List Value)(n:Nat),Vals xs its/\h.get? a=some { cls:=.type "list",data:=.seq its.toArray n }
 |.tup xs=>xs.length<=sizeLine/\∃its:List Value,Vals xs its/\IsTup h a its.toArray
 |.dK kvs=>kvs.length<=sizeLine/\(a==sysModules)=false/\∃vs,KV kvs vs/\h.DictOf (zYf P w) a vs
 |.dT kvs=>kvs.length<=sizeLine/\(a==sysModules)=false/\∃xs:List (List Key×Addr×Value),
   Paired (fun(p:List Key×V) (q:List Key×Addr×Value)=>p.1=q.1/\H q.2.1=some (.tup (p.1.map kV))/\RelV p.2 q.2.2) kvs xs∧
   ∃o es ep,h.get? a=some o/\o.ExactDict/\o.data=.dict es ep/\es.toList=xs.map (entryOfKey (tupleKind (zYf P w)))/\(xs.map (·.1)).Nodup
 |.set S n=>h.SetOf (intKind P w) a S n
 |.ins C dx fs=>H dx=some (.own a)/\fs.length<=1000/\dx≠a/\h.get? a=some (W.instObj C dx)∧
   ∃mA,h.Ns1 dx mA/\(∀f,RelO (fs.lookup f) (mA f))/\PySem.Within mA (fs.map (·.1))
 |.own _=>∃o,h.get? a=some o
 |.xd fs=>∃mA,h.Ns1 a mA/\∀f,RelO (fs.lookup f) (mA f)
 |.rng lo hi=>∃t u v,h.get? a=some { cls:=.type "range",data:=.fields #[.int lo t,.int hi u,.int 1 v] }
 |.frz o u=>h.get? a=some o/\zqa H h a u
 |.tbl ps=>h.get? a=some { cls:=.none,data:=.fields ps }
 |.met f x=>h.get? a=some (W.methodObj (.ref f) (.ref x))
 |.ext φ=>φ h/\(∃o,h.get? a=some o)/\∀h1 h2:Heap,φ h1->(∀o,h1.get? a=some o->h2.get? a=some o)->φ h2
def HOk (H:Hp)(h:Heap):Prop:=∀a o,H a=some o->zqa P w H h a o
end
section
variable {P:Program}{w:World}{H H':Hp}{h h':Heap}{a:Addr}{o:HO}
theorem zqa.lt (x:zqa P w H h a o):a<h.objs.size:=by
 cases o with
 |lst xs=>obtain⟨_,_,_,_,e⟩:=x;exact Heap.lt_size e
 |tup xs=>obtain⟨_,_,_,p⟩:=x;exact p.lt
 |dK kvs=>obtain⟨_,_,_,_,o,_,_,e,_⟩:=x;exact Heap.lt_size e
 |dT kvs=>obtain⟨_,_,_,_,o,_,_,e,_⟩:=x;exact Heap.lt_size e
 |set S n=>obtain⟨o,_,_,_,e,_⟩:=x;exact Heap.lt_size e
 |ins C dx fs=>obtain⟨_,_,_,e,_⟩:=x;exact Heap.lt_size e
 |own y=>obtain⟨_,e⟩:=x;exact Heap.lt_size e
 |xd fs=>obtain⟨_,⟨_,_,_,e,_⟩,_⟩:=x;exact Heap.lt_size e
 |rng lo hi=>obtain⟨_,_,_,e⟩:=x;exact Heap.lt_size e
 |frz ob u=>obtain⟨e,_⟩:=x;exact Heap.lt_size e
 |tbl ps=>exact Heap.lt_size (show h.get? a=some _ from x)
 |met f y=>exact Heap.lt_size (show h.get? a=some _ from x)
 |ext φ=>obtain⟨_,⟨_,e⟩,_⟩:=x;exact Heap.lt_size e
theorem Paired.zso {α β:Type}{F G:α->β->Prop}:∀{l₁:List α}{l₂:List β},Paired F l₁ l₂->(∀a b,F a b->G a b)->Paired G l₁ l₂
 |_,_,.nil,_=>.nil
 |_,_,.cons r t,f=>.cons (f _ _ r) (Paired.zso t f)
theorem zqa.zto (x:zqa P w H h a o)(k:∀b u,(b=a\/H b=some (.own a))->h.get? b=some u->h'.get? b=some u)
  (ho:∀b,H b=some (.own a)->H' b=some (.own a))(ht:∀b xs,H b=some (.tup xs)->H' b=some (.tup xs)):zqa P w H' h' a o:=by
 induction o with
 |lst xs=>obtain⟨z,its,n,r,e⟩:=x;exact⟨z,its,n,r,k _ _ (.inl rfl) e⟩
 |tup xs=>obtain⟨z,its,r,ob,e,c⟩:=x;exact⟨z,its,r,ob,k _ _ (.inl rfl) e,c⟩
 |dK kvs=>obtain⟨z,y,vs,r,ob,es,ep,e,c⟩:=x;exact⟨z,y,vs,r,ob,es,ep,k _ _ (.inl rfl) e,c⟩
 |dT kvs=>
  obtain⟨z,y,xs,r,ob,es,ep,e,c⟩:=x
  exact⟨z,y,xs,Paired.zso r fun p q z=>⟨z.1,ht _ _ z.2.1,z.2.2⟩,ob,es,ep,k _ _ (.inl rfl) e,c⟩
 |set S n=>obtain⟨ob,es,ep,t,e,c⟩:=x;exact⟨ob,es,ep,t,k _ _ (.inl rfl) e,c⟩
 |ins C dx fs=>
  obtain⟨d,z,ne,e,mA,⟨od,es,ep,e2,c⟩,r⟩:=x
  exact⟨ho _ d,z,ne,k _ _ (.inl rfl) e,mA,⟨od,es,ep,k _ _ (.inr d) e2,c⟩,r⟩
 |own y=>obtain⟨ob,e⟩:=x;exact⟨ob,k _ _ (.inl rfl) e⟩
 |xd fs=>obtain⟨mA,⟨od,es,ep,e,c⟩,r⟩:=x;exact⟨mA,⟨od,es,ep,k _ _ (.inl rfl) e,c⟩,r⟩
 |rng lo hi=>obtain⟨t,u,v,e⟩:=x;exact⟨t,u,v,k _ _ (.inl rfl) e⟩
 |frz ob u ih=>obtain⟨e,q⟩:=x;exact⟨k _ _ (.inl rfl) e,ih q⟩
 |tbl ps=>
  have e:h.get? a=some { cls:=.none,data:=.fields ps }:=x
  show h'.get? a=some { cls:=.none,data:=.fields ps }
  exact k a _ (.inl rfl) e
 |met f y=>
  have e:h.get? a=some (W.methodObj (.ref f) (.ref y)):=x
  show h'.get? a=some (W.methodObj (.ref f) (.ref y))
  exact k a _ (.inl rfl) e
 |ext φ=>obtain⟨p,⟨o,e⟩,st⟩:=x;exact⟨st _ _ p fun o q=>k _ _ (.inl rfl) q,⟨o,k _ _ (.inl rfl) e⟩,st⟩
theorem HOk.lt (x:HOk P w H h)(e:H a=some o):a<h.objs.size:=(x a o e).lt
theorem HOk.fresh (x:HOk P w H h)(e:h.objs.size<=a):H a=none:=by
 cases q:H a with
 |none=>rfl
 |some u=>exact absurd (Nat.lt_of_lt_of_le (x.lt q) e) (Nat.lt_irrefl _)
theorem HOk.kept (x:HOk P w H h)(k:∀b u,h.get? b=some u->h'.get? b=some u):HOk P w H h':=fun a o e=>
 (x a o e).zto (fun b u _ q=>k b u q) (fun _ q=>q) fun _ _ q=>q
theorem HOk.laid (x:HOk P w H h)(k:∀b u,h.get? b=some u->h'.get? b=some u)(hp:h.objs.size<=a)(new:zqa P w (upd H a o) h' a o):HOk P w (upd H a o) h':=fun b u e=>by
 have hn:=x.fresh hp
 by_cases hb:b=a
 ·subst hb;rw[zc] at e;cases e;exact new
 ·rw[zy hb] at e
  exact(x b u e).zto (fun c v _ q=>k c v q) (fun c q=>by rw[zy (zJ q hn)];exact q) fun c xs q=>by rw[zy (zJ q hn)];exact q
end
def Rd (H:Hp)(a:Addr)(u:HO):Prop:=H a=some u\/∃o,H a=some (.frz o u)
theorem Rd.ok {P:Program}{w:World}{H:Hp}{h:Heap}{a:Addr}{u:HO}(r:Rd H a u)(x:HOk P w H h):zqa P w H h a u:=by
 rcases r with r|⟨o,r⟩
 ·exact x a u r
 ·obtain⟨_,q⟩:=x a _ r
  exact q
def Mut:Option HO->Prop
 |some (.lst _)=>True
 |some (.dK _)=>True
 |some (.dT _)=>True
 |some (.set _ _)=>True
 |some (.ins _ _ _)=>True
 |some (.ext _)=>True
 |_=>False
section
variable {P:Program}{w:World}{H:Hp}{h h':Heap}{x e:Addr}{o':HO}
theorem HOk.write (ok:HOk P w H h)(mu:Mut (H x))(he:e=x\/H e=some (.own x))(k:∀b u,b≠e->h.get? b=some u->h'.get? b=some u)(heo:∃u,h'.get? e=some u)
  (new:zqa P w (upd H x o') h' x o'):HOk P w (upd H x o') h':=fun b u q=>by
 have nown:∀c y,H c=some (.own y)->c≠x:=fun c y r z=>by subst z;rw[r] at mu;exact mu
 have ntup:∀c xs,H c=some (.tup xs)->c≠x:=fun c xs r z=>by subst z;rw[r] at mu;exact mu
 by_cases hb:b=x
 ·subst hb;rw[zc] at q;cases q;exact new
 ·rw[zy hb] at q
  by_cases hbe:b=e
  ·have q':H b=some (.own x):=by
    rcases he with z|z
    ·exact absurd (hbe.trans z) hb
    ·rw[hbe];exact z
   rw[q] at q';cases q'
   obtain⟨v,hv⟩:=heo
   exact⟨v,by rw[hbe];exact hv⟩
  ·refine(ok b u q).zto (fun c v hc r=>k c v ?_ r) (fun c r=>by rw[zy (nown c b r)];exact r) fun c xs r=>by rw[zy (ntup c xs r)];exact r
   rcases hc with rfl|hc
   ·exact hbe
   ·rintro rfl
    rcases he with z|z
    ·exact nown c b hc z
    ·rw[hc] at z;cases z;exact hb rfl
end
structure Un (fs ex:List Addr)(H H':Hp)(h h':Heap):Prop where
 keep:∀b o,h.get? b=some o->H b=none->b∉fs->b∉ex->h'.get? b=some o
 slot:∀b o,h.get? b=some o->H b=none->b∈fs->b∉ex->∃sl,h'.get? b=some { o with slots:=sl }
 free:∀b o,h.get? b=some o->H b=none->b∉ex->H' b=none
 there:∀b o,h.get? b=some o->b∉ex->∃o',h'.get? b=some o'
 tups:∀b xs,H b=some (.tup xs)->H' b=some (.tup xs)
 frzs:∀b o u,H b=some (.frz o u)->H' b=some (.frz o u)
 tbls:∀b ps,H b=some (.tbl ps)->∃more,H' b=some (.tbl (ps++more))
section
variable {fs fs' ex ex':List Addr}{H H1 H2:Hp}{h h1 h2 h':Heap}{a x e:Addr}{o:HO}
theorem Un.any (u:Un fs ex H H1 h h1){b:Addr}{ob:Obj}(q:h.get? b=some ob)(n:H b=none)(hx:b∉ex):∃sl,h1.get? b=some { ob with slots:=sl }:=by
 by_cases hb:b∈fs
 ·exact u.slot b ob q n hb hx
 ·exact⟨ob.slots,u.keep b ob q n hb hx⟩
theorem Un.kept (k:∀b u,h.get? b=some u->h'.get? b=some u):Un fs ex H H h h':=
 ⟨fun b ob q _ _ _=>k b ob q,fun b ob q _ _ _=>⟨ob.slots,k b ob q⟩,fun _ _ _ n _=>n,fun b ob q _=>⟨ob,k b ob q⟩,fun _ _ q=>q,fun _ _ _ q=>q,fun _ ps q=>⟨#[],by rw[q];simp⟩⟩
theorem Un.refl:Un fs ex H H h h:=Un.kept fun _ _ q=>q
theorem Un.laid (k:∀b u,h.get? b=some u->h'.get? b=some u)(hp:h.objs.size<=a)(hn:H a=none):Un fs ex H (upd H a o) h h' where
 keep:=fun b u q _ _ _=>k b u q
 slot:=fun b u q _ _ _=>⟨u.slots,k b u q⟩
 free:=fun b u q n _=>by rw[zy (Nat.ne_of_lt (Nat.lt_of_lt_of_le (Heap.lt_size q) hp))];exact n
 there:=fun b u q _=>⟨u,k b u q⟩
 tups:=fun b xs q=>by rw[zy (zJ q hn)];exact q
 frzs:=fun b u xs q=>by rw[zy (zJ q hn)];exact q
 tbls:=fun b ps q=>⟨#[],by rw[zy (zJ q hn),q];simp⟩
theorem Un.write (mu:Mut (H x))(he:e=x\/H e=some (.own x))(k:∀b u,b≠e->h.get? b=some u->h'.get? b=some u)(heo:∃u,h'.get? e=some u):Un fs ex H (upd H x o) h h':=by
 have hx:∀b,H b=none->b≠x:=fun b n z=>by subst z;rw[n] at mu;exact mu
 have hb:∀b,H b=none->b≠e:=fun b n z=>by
  subst z
  rcases he with r|r
  ·exact hx b n r
  ·rw[n] at r;cases r
 have hm:∀b u,H b=some u->¬Mut (some u)->b≠x:=fun b u q nm z=>by subst z;rw[q] at mu;exact nm mu
 refine⟨fun b u q n _ _=>k b u (hb b n) q,fun b u q n _ _=>⟨u.slots,k b u (hb b n) q⟩,fun b u q n _=>by rw[zy (hx b n)];exact n,fun b u q _=>?_,
  fun b xs q=>by rw[zy (hm b _ q fun z=>z)];exact q,fun b u xs q=>by rw[zy (hm b _ q fun z=>z)];exact q,fun b ps q=>⟨#[],by rw[zy (hm b _ q fun z=>z),q];simp⟩⟩
 by_cases hbe:b=e
 ·subst hbe;exact heo
 ·exact⟨u,k b u hbe q⟩
end
def trk (h:Heap)(H:Hp):List Addr:=(List.range h.objs.size).filter fun a=>(H a).isSome
def hidT (h:Heap)(H:Hp):Heap:=W.hideAll h (trk h H)
theorem hidT_size (h:Heap)(H:Hp):(hidT h H).objs.size=h.objs.size:=W.hideAll_size _ _
theorem hidT_get {h:Heap}{H:Hp}{b:Addr}{o:Obj}(e:h.get? b=some o)(n:H b=none):(hidT h H).get? b=some o:=
 W.hideAll_get _ e fun hm=>by
  have q:(H b).isSome=true:=(List.mem_filter.mp hm).2
  rw[n] at q;simp at q
theorem zmj {h:Heap}{H:Hp}{b:Addr}{o:Obj}(e:(hidT h H).get? b=some o):h.get? b=some o/\H b=none:=by
 have e':h.get? b=some o:=W.of_hideAll (trk h H) e
 refine⟨e',?_⟩
 cases q:H b with
 |none=>rfl
 |some x=>
  have hm:b∈trk h H:=List.mem_filter.mpr ⟨List.mem_range.mpr (Heap.lt_size e'),by simp[q]⟩
  have z:(hidT h H).get? b=none:=W.hideAll_none (trk h H) hm
  rw[z] at e;cases e
structure Mod (K:W.Frag)(mg:zT3)(base:Heap):Prop where
 kin:K.In base
 glob:base.Ns mainGlobals mg
 blt:∃mb,base.Ns builtinsNs mb/\∀x:Str,x≠"__name__"->mb x=bootBuiltins x
 nolimit:base.NoLimit
structure Cx where
 prog:Program
 w:World
 K:W.Frag
 mg:Str->Option Value
 base:Heap
 A:Around
 N:List Str
 s₀:Shared
 H₀:Hp
 env:Env
 outer:List Env
 stack:List Env
 ex:List Addr
 fn:Str->Bool
 calm:Bool
 pn:List (Addr×Obj)
 xe:Value->Shared->Prop
def frs (l:List Env):List Addr:=l.filterMap (·.frame)
abbrev Cx.fs (X:Cx):List Addr:=frs X.outer
def Vis (sc:Scope)(x:Str):Prop:=sc.names.lookup x=some .local\/sc.names.lookup x=some .cell\/sc.names.lookup x=some .free
def Loc (sc:Scope)(x:Str):Prop:=sc.names.lookup x=some .local\/sc.names.lookup x=some .cell
def Look (env:Env)(h:Heap)(m:zT3)(x:Str)(u:Value):Prop:=
 (env.kindOf x=some .local/\m x=some u)\/((env.kindOf x=some .cell\/env.kindOf x=some .free)/\∃c,env.cells.lookup x=some c/\h.IsCell c (some u))
structure Cx.Ok (X:Cx):Prop where
 mod:Mod X.K X.mg X.base
 kind:X.env.scope.kind=.function
 glob:X.env.globals=mainGlobals
 blt:X.env.builtins=builtinsNs
 above:X.s₀.heap.objs.size<=X.env.locals
 inj:∀x y c,X.env.cells.lookup x=some c->X.env.cells.lookup y=some c->x=y
 has:∀x,(X.env.kindOf x=some .cell\/X.env.kindOf x=some .free)->∃c,X.env.cells.lookup x=some c
 cab:∀x c,X.fn x=true->X.env.cells.lookup x=some c->X.s₀.heap.objs.size<=c
 hd:X.calm=true->X.A.handled=none
 frames:X.A.frames=some X.stack
 stk:X.stack=X.outer\/(X.stack=X.env::X.outer/\X.env.frame=some X.env.locals)
 exf:∀b∈X.ex,b≠X.env.locals/\∀x c,X.env.cells.lookup x=some c->c≠b
 bs:∀b o,X.base.get? b=some o->X.s₀.heap.get? b=some o/\X.H₀ b=none
 bsz:X.base.objs.size<=X.s₀.heap.objs.size
 noex:∀b o,X.base.get? b=some o->b∉X.ex
 exfs:∀b∈X.ex,b∉X.fs
 funs:X.s₀.heap.FunFrames X.base X.outer
 frf:∀b∈X.fs,X.H₀ b=none
structure Inv (X:Cx)(pins:zT2)(σ:List (Option V))(H:Hp)(s:Shared):Prop where
 ok:X.Ok
 os:s.os=X.s₀.os
 bare:AllBare s.gens
 base:Un X.fs X.ex X.H₀ H X.s₀.heap s.heap
 loc:∃m,s.heap.Ns X.env.locals m/\∀(i:Nat)(x:Str)(v:V),X.N[i]?=some x->σ[i]?=some (some v)->Vis X.env.scope x->∃u,RelV v u/\Look X.env s.heap m x u
 cell:∀x c,X.env.cells.lookup x=some c->∃v,s.heap.IsCell c v
 free:H X.env.locals=none
 freeC:∀x c,X.env.cells.lookup x=some c->H c=none
 pin:∀p∈X.pn++pins,s.heap.get? p.1=some p.2/\H p.1=none/\p.1≠X.env.locals/\p.1∉X.fs/\∀v,p.2.data≠.cell v
 hok:HOk X.prog X.w H s.heap
 len:σ.length=X.N.length
section
variable {X:Cx}{pins:zT2}{σ:List (Option V)}{H H':Hp}{s:Shared}{h':Heap}
theorem Cx.Ok.zuo (ok:X.Ok){b:Addr}{o:Obj}(e:X.base.get? b=some o):b∉X.fs:=fun hb=>by
 have:=(ok.funs.mem hb).1
 rw[e] at this;cases this
theorem Inv.bs (I:Inv X pins σ H s):∀b o,X.base.get? b=some o->s.heap.get? b=some o/\H b=none:=fun b o e=>
 ⟨I.base.keep b o (I.ok.bs b o e).1 (I.ok.bs b o e).2 (I.ok.zuo e) (I.ok.noex b o e),I.base.free b o (I.ok.bs b o e).1 (I.ok.bs b o e).2 (I.ok.noex b o e)⟩
theorem Inv.bk (I:Inv X pins σ H s):∀b o,X.base.get? b=some o->s.heap.get? b=some o:=fun b o e=>(I.bs b o e).1
theorem Inv.mod (I:Inv X pins σ H s):Mod X.K X.mg X.base:=I.ok.mod
theorem Inv.kIn (I:Inv X pins σ H s):X.K.In s.heap:=I.ok.mod.kin.keeps I.bk
theorem Inv.lt (I:Inv X pins σ H s):X.env.locals<s.heap.objs.size:=let ⟨_,hn,_⟩:=I.loc;hn.lt
theorem Inv.sz (I:Inv X pins σ H s):X.s₀.heap.objs.size<=s.heap.objs.size:=Nat.le_trans I.ok.above (Nat.le_of_lt I.lt)
theorem Inv.zvo (I:Inv X pins σ H s){a:Addr}(h:s.heap.objs.size<=a):a∉X.fs:=fun hb=>by
 obtain⟨_,o,ho,_⟩:=I.ok.funs.mem hb
 exact absurd (Nat.lt_of_lt_of_le (Heap.lt_size ho) (Nat.le_trans I.sz h)) (Nat.lt_irrefl _)
theorem Inv.cne (I:Inv X pins σ H s):∀x c,X.env.cells.lookup x=some c->c≠X.env.locals:=fun x c e z=>by
 obtain⟨v,o,ho,hd⟩:=I.cell x c e
 obtain⟨m,⟨o',es,ep,ho',hd',_⟩,_⟩:=I.loc
 rw[z,ho'] at ho;cases ho;rw[hd'] at hd;cases hd
theorem Inv.funs (I:Inv X pins σ H s):s.heap.FunFrames X.base X.outer:=by
 have all:∀(l:List Env),(∀b∈frs l,b∈X.fs)->X.s₀.heap.FunFrames X.base l->s.heap.FunFrames X.base l:=by
  intro l
  induction l with
  |nil=>intro _ _;trivial
  |cons env r ih=>
   intro hs hl
   obtain⟨hk,⟨L,o,hf,hn,ho,hd⟩,hr⟩:=hl
   have hL:L∈X.fs:=hs L (by unfold frs;rw[List.filterMap_cons,hf];exact List.mem_cons_self)
   obtain⟨sl,e⟩:=I.base.slot L o ho (I.ok.frf L hL) hL fun z=>I.ok.exfs L z hL
   exact⟨hk,⟨L,_,hf,hn,e,hd⟩,ih (fun b hb=>hs b (by unfold frs;rw[List.filterMap_cons,hf];exact List.mem_cons_of_mem _ hb)) hr⟩
 exact all X.outer (fun _ hb=>hb) I.ok.funs
theorem Inv.stack (I:Inv X pins σ H s):s.heap.FunFrames X.base X.stack:=by
 rcases I.ok.stk with e|⟨e,hf⟩
 ·rw[e];exact I.funs
 ·rw[e]
  obtain⟨m,hn,_⟩:=I.loc
  refine .cons (by rw[I.ok.kind];decide) hf hn ?_ I.funs
  exact Heap.get?_none_of_le (Nat.le_trans I.ok.bsz I.ok.above)
theorem Inv.zho (I:Inv X pins σ H s):∀b∈frs X.stack,b∈X.env.locals::X.fs:=fun b hb=>by
 rcases I.ok.stk with e|⟨e,hf⟩
 ·rw[e] at hb;exact List.mem_cons_of_mem _ hb
 ·rw[e] at hb
  unfold frs at hb
  rw[List.filterMap_cons,hf] at hb
  exact hb
theorem Inv.zco (I:Inv X pins σ H s):∀b∈frs X.stack,H b=none:=fun b hb=>by
 rcases List.mem_cons.mp (I.zho b hb) with e|hb
 ·rw[e];exact I.free
 ·obtain⟨_,o,ho,_⟩:=I.ok.funs.mem hb
  exact I.base.free b o ho (I.ok.frf b hb) fun z=>I.ok.exfs b z hb
theorem Inv.step {g':Array GenState}{t':Nat}{d':Drawn}{ch:List Addr}(I:Inv X pins σ H s)
  (hch:∀b∈ch,(b∈X.ex\/X.s₀.heap.objs.size<=b)/\b≠X.env.locals/\(∀x c,X.env.cells.lookup x=some c->c≠b)/\∀p∈X.pn++pins,p.1≠b)
  (keep:∀b o,b≠X.env.locals->b∉X.fs->b∉ch->s.heap.get? b=some o->H b=none->h'.get? b=some o)
  (slot:∀b o,b≠X.env.locals->b∈X.fs->b∉ch->s.heap.get? b=some o->H b=none->∃sl,h'.get? b=some { o with slots:=sl })(free:∀b o,b∉ch->s.heap.get? b=some o->H b=none->H' b=none)
  (there:∀b o,b∉ch->s.heap.get? b=some o->∃o',h'.get? b=some o')
  (tups:∀b xs,H b=some (.tup xs)->H' b=some (.tup xs)) (frzs:∀b o u,H b=some (.frz o u)->H' b=some (.frz o u)) (tbls:∀b ps,H b=some (.tbl ps)->∃more,H' b=some (.tbl (ps++more)))
  (ns:∀m,s.heap.Ns X.env.locals m->h'.Ns X.env.locals m) (hok:HOk X.prog X.w H' h') (hg:AllBare g'):
  Inv X pins σ H' { s with heap:=h',gens:=g',drawn:=d',toks:=t' }:=by
 have neL:∀b o,X.s₀.heap.get? b=some o->b≠X.env.locals:=fun b o e=>Nat.ne_of_lt (Nat.lt_of_lt_of_le (Heap.lt_size e) I.ok.above)
 have neC:∀b o,X.s₀.heap.get? b=some o->b∉X.ex->b∉ch:=fun b o e hx hb=>by
  rcases(hch b hb).1 with z|z
  ·exact hx z
  ·exact absurd (Nat.lt_of_lt_of_le (Heap.lt_size e) z) (Nat.lt_irrefl _)
 have cellK:∀x c,X.env.cells.lookup x=some c->∀v,s.heap.IsCell c v->h'.IsCell c v:=fun x c e v ⟨o,ho,hd⟩=>by
  have nch:c∉ch:=fun z=>(hch c z).2.2.1 x c e rfl
  by_cases hc:c∈X.fs
  ·obtain⟨sl,q⟩:=slot c o (I.cne x c e) hc nch ho (I.freeC x c e)
   exact⟨_,q,hd⟩
  ·exact⟨o,keep c o (I.cne x c e) hc nch ho (I.freeC x c e),hd⟩
 refine⟨I.ok,I.os,hg,⟨fun b o e n hb hx=>?_,fun b o e n hb hx=>?_,fun b o e n hx=>?_,fun b o e hx=>?_,fun b xs e=>tups b xs (I.base.tups b xs e),fun b o xs e=>frzs b o xs (I.base.frzs b o xs e),fun b ps e=>?_⟩,?_,fun x c e=>?_,?_,fun x c e=>?_,fun p hp=>?_,hok,I.len⟩
 ·exact keep b o (neL b o e) hb (neC b o e hx) (I.base.keep b o e n hb hx) (I.base.free b o e n hx)
 ·obtain⟨sl,e1⟩:=I.base.slot b o e n hb hx
  obtain⟨sl',e2⟩:=slot b _ (neL b o e) hb (neC b o e hx) e1 (I.base.free b o e n hx)
  exact⟨sl',e2⟩
 ·obtain⟨o',e1⟩:=I.base.there b o e hx
  exact free b o' (neC b o e hx) e1 (I.base.free b o e n hx)
 ·obtain⟨o',e1⟩:=I.base.there b o e hx
  exact there b o' (neC b o e hx) e1
 ·obtain⟨m1,e1⟩:=I.base.tbls b ps e
  obtain⟨m2,e2⟩:=tbls b _ e1
  exact⟨m1++m2,by rw[e2,Array.append_assoc]⟩
 ·obtain⟨m,hn,hl⟩:=I.loc
  refine⟨m,ns m hn,fun i x v e1 e2 e3=>?_⟩
  obtain⟨u,r,l⟩:=hl i x v e1 e2 e3
  refine⟨u,r,?_⟩
  rcases l with l|⟨k,c,e,z⟩
  ·exact .inl l
  ·exact .inr ⟨k,c,e,cellK x c e _ z⟩
 ·obtain⟨v,z⟩:=I.cell x c e
  exact⟨v,cellK x c e v z⟩
 ·obtain⟨m,⟨o,_,_,ho,_⟩,_⟩:=I.loc
  exact free _ o (fun z=>(hch _ z).2.1 rfl) ho I.free
 ·obtain⟨v,o,ho,hd⟩:=I.cell x c e
  exact free c o (fun z=>(hch c z).2.2.1 x c e rfl) ho (I.freeC x c e)
 ·obtain⟨e,n,ne,nf,d⟩:=I.pin p hp
  have nch:p.1∉ch:=fun z=>(hch p.1 z).2.2.2 p hp rfl
  exact⟨keep p.1 p.2 ne nf nch e n,free p.1 p.2 nch e n,ne,nf,d⟩
theorem Inv.un {t':Nat}(I:Inv X pins σ H s)(u:Un X.fs [] H H' s.heap h')(hok:HOk X.prog X.w H' h'):Inv X pins σ H' { s with heap:=h',toks:=t' }:=by
 obtain⟨m,⟨o,es,ep,ho,r⟩,_⟩:=id I.loc
 obtain⟨sl,hL⟩:=u.any ho I.free (by simp)
 exact I.step (g':=s.gens) (d':=s.drawn) (ch:=[]) (fun _ z=>nomatch z) (fun b o _ hb _ e n=>u.keep b o e n hb (by simp)) (fun b o _ hb _ e n=>u.slot b o e n hb (by simp)) (fun b o _ e n=>u.free b o e n (by simp)) (fun b o _ e=>u.there b o e (by simp)) u.tups u.frzs u.tbls (fun m' hm=>by
  obtain⟨o',es',ep',ho',r'⟩:=hm
  rw[ho] at ho';cases ho'
  exact⟨_,es',ep',hL,r'⟩) hok I.bare
theorem Inv.call {g':Array GenState}{t':Nat}{d':Drawn}{ch:List Addr}(I:Inv X pins σ H s)(u:Un (frs X.stack) ch H H' s.heap h')(hok:HOk X.prog X.w H' h')(hg:AllBare g')
  (hch:∀b∈ch,(b∈X.ex\/X.s₀.heap.objs.size<=b)/\b≠X.env.locals/\(∀x c,X.env.cells.lookup x=some c->c≠b)/\∀p∈X.pn++pins,p.1≠b):
  Inv X pins σ H' { s with heap:=h',gens:=g',drawn:=d',toks:=t' }:=by
 obtain⟨m,⟨o,es,ep,ho,r⟩,_⟩:=id I.loc
 obtain⟨sl,hL⟩:=u.any ho I.free fun z=>(hch _ z).2.1 rfl
 exact I.step (ch:=ch) hch (fun b o hL hb hc e n=>u.keep b o e n (fun z=>(List.mem_cons.mp (I.zho b z)).elim hL hb) hc) (fun b o _ _ hc e n=>u.any e n hc) (fun b o hc e n=>u.free b o e n hc) (fun b o hc e=>u.there b o e hc) u.tups u.frzs u.tbls (fun m' hm=>by
  obtain⟨o',es',ep',ho',r'⟩:=hm
  rw[ho] at ho';cases ho'
  exact⟨_,es',ep',hL,r'⟩) hok hg
theorem Inv.turned {t':Nat}{it:Addr}(I:Inv X pins σ H s)(k:∀b o,b≠it->s.heap.get? b=some o->h'.get? b=some o)(hn:H it=none)(hL:it≠X.env.locals)
  (h1:it∈X.ex\/X.s₀.heap.objs.size<=it)(h2:∀x c,X.env.cells.lookup x=some c->c≠it)(h3:∀p∈X.pn++pins,p.1≠it):Inv X pins σ H { s with heap:=h',toks:=t' }:=by
 have nit:∀b u,H b=some u->b≠it:=fun b u e z=>by rw[z,hn] at e;cases e
 refine I.step (g':=s.gens) (d':=s.drawn) (ch:=[it]) (fun b hb=>?_) (fun b o _ _ hc e _=>k b o (fun z=>hc (by simp[z])) e) (fun b o _ _ hc e _=>⟨o.slots,k b o (fun z=>hc (by simp[z])) e⟩) (fun _ _ _ _ n=>n)
  (fun b o hc e=>⟨o,k b o (fun z=>hc (by simp[z])) e⟩) (fun _ _ e=>e) (fun _ _ _ e=>e) (fun b ps e=>⟨#[],by rw[e];simp⟩) (fun m hm=>?_) (fun b u e=>?_) I.bare
 ·have e:b=it:=by simpa using hb
  subst e
  exact⟨h1,hL,h2,h3⟩
 ·obtain⟨o,es,ep,ho,r⟩:=hm
  exact⟨o,es,ep,k _ o (Ne.symm hL) ho,r⟩
 ·refine(I.hok b u e).zto (fun c v hc q=>k c v ?_ q) (fun _ q=>q) fun _ _ q=>q
  rcases hc with z|z
  ·rw[z];exact nit b u e
  ·exact nit c _ z
theorem Inv.tok (I:Inv X pins σ H s)(t:Nat):Inv X pins σ H { s with toks:=t }:=I.un (h':=s.heap) (t':=t) Un.refl I.hok
theorem Inv.kept {t':Nat}(I:Inv X pins σ H s)(k:∀b u,s.heap.get? b=some u->h'.get? b=some u):Inv X pins σ H { s with heap:=h',toks:=t' }:=I.un (Un.kept k) (I.hok.kept k)
theorem Inv.laid {a:Addr}{o:HO}{t':Nat}(I:Inv X pins σ H s)(k:∀b u,s.heap.get? b=some u->h'.get? b=some u)(hp:s.heap.objs.size<=a)(new:zqa X.prog X.w (upd H a o) h' a o):
  Inv X pins σ (upd H a o) { s with heap:=h',toks:=t' }:=I.un (Un.laid k hp (I.hok.fresh hp)) (I.hok.laid k hp new)
theorem Inv.write {x e:Addr}{o:HO}{t':Nat}(I:Inv X pins σ H s)(mu:Mut (H x))(he:e=x\/H e=some (.own x))(k:∀b u,b≠e->s.heap.get? b=some u->h'.get? b=some u)(heo:∃u,h'.get? e=some u)
  (new:zqa X.prog X.w (upd H x o) h' x o):Inv X pins σ (upd H x o) { s with heap:=h',toks:=t' }:=I.un (Un.write mu he k heo) (I.hok.write mu he k heo new)
theorem Inv.zdo {pins':zT2}(I:Inv X pins σ H s)(h:∀p∈pins',s.heap.get? p.1=some p.2/\H p.1=none/\p.1≠X.env.locals/\p.1∉X.fs/\∀v,p.2.data≠.cell v):Inv X pins' σ H s:=
 ⟨I.ok,I.os,I.bare,I.base,I.loc,I.cell,I.free,I.freeC,fun p hp=>(List.mem_append.mp hp).elim (fun z=>I.pin p (List.mem_append_left _ z)) (h p),I.hok,I.len⟩
theorem zgd {N:List Str}(hN:N.Nodup){i j:Nat}{x:Str}(a:N[i]?=some x)(b:N[j]?=some x):i=j:=by
 obtain⟨h1,e1⟩:=List.getElem?_eq_some_iff.mp a
 obtain⟨h2,e2⟩:=List.getElem?_eq_some_iff.mp b
 exact(List.getElem_inj hN).mp (e1.trans e2.symm)
theorem zPd {M:Model}{A:Around}{E:zE1}{i:Nat}{x:Str}{v:V}{u:Value}{Q:Unit->Shared->Prop}(I:Inv X pins σ H s)(hN:X.N.Nodup)(hi:X.N[i]?=some x)(hx:Loc X.env.scope x)(r:RelV v u)
  (h:∀s',Inv X pins (σ.set i (some v)) H s'->(∃a,Heap.SameBut a s.heap s'.heap/\(a=X.env.locals\/X.env.cells.lookup x=some a))->Q () s')(hf:X.fn x=true\/X.env.scope.names.lookup x=some .local:=by first|exact .inl rfl|exact .inr rfl|assumption):wpAny M A (storeName X.env x u) Q E s:=by
 obtain⟨m,hn,hl⟩:=id I.loc
 have hcls:(X.env.scope.kind==.class||(X.env.scope.kind==.module&&X.env.locals !=X.env.globals))=false:=by rw[I.ok.kind];rfl
 have hiσ:i<σ.length:=by rw[I.len];exact(List.getElem?_eq_some_iff.mp hi).1
 have cne:=I.cne
 have tracked:∀{a:Addr}{h':Heap},(∃o,s.heap.get? a=some o/\H a=none)->Heap.SameBut a s.heap h'->HOk X.prog X.w H h':=fun {a h'} ha hs b ob e=>by
  obtain⟨_,_,hfree⟩:=ha
  refine(I.hok b ob e).zto (fun c w' hc q=>(hs.2 c ?_).trans q) (fun _ q=>q) fun _ _ q=>q
  rintro rfl
  rcases hc with rfl|hc
  ·rw[hfree] at e;cases e
  ·rw[hfree] at hc;cases hc
 rcases hx with hk|hk
 ·refine wpAny_storeName_local hk hn (fun h' hn' hs=>?_) hcls
  obtain⟨oL,_,_,hoL,_⟩:=id hn
  refine h _ ⟨I.ok,I.os,I.bare,⟨fun b o e n hb hx=>?_,fun b o e n hb hx=>?_,I.base.free,fun b o e hx=>?_,I.base.tups,I.base.frzs,I.base.tbls⟩,⟨_,hn',fun j y v' e1 e2 e3=>?_⟩,fun y c e=>?_,I.free,I.freeC,fun p hp=>?_,tracked ⟨oL,hoL,I.free⟩ hs,by simpa using I.len⟩ ⟨_,hs,.inl rfl⟩
  ·exact(hs.2 b (Nat.ne_of_lt (Nat.lt_of_lt_of_le (Heap.lt_size e) I.ok.above))).trans (I.base.keep b o e n hb hx)
  ·obtain⟨sl,e1⟩:=I.base.slot b o e n hb hx
   exact⟨sl,(hs.2 b (Nat.ne_of_lt (Nat.lt_of_lt_of_le (Heap.lt_size e) I.ok.above))).trans e1⟩
  ·obtain⟨o',e1⟩:=I.base.there b o e hx
   exact⟨o',(hs.2 b (Nat.ne_of_lt (Nat.lt_of_lt_of_le (Heap.lt_size e) I.ok.above))).trans e1⟩
  ·by_cases hj:j=i
   ·subst hj
    rw[hi] at e1;cases e1
    rw[List.getElem?_set_self hiσ] at e2
    cases e2
    exact⟨u,r,.inl ⟨hk,by simp⟩⟩
   ·rw[List.getElem?_set_ne (Ne.symm hj)] at e2
    obtain⟨u',r',q⟩:=hl j y v' e1 e2 e3
    refine⟨u',r',?_⟩
    rcases q with⟨k,e⟩|⟨k,c,e,z⟩
    ·refine .inl ⟨k,?_⟩
     have:y≠x:=fun e=>hj (zgd hN e1 (e▸hi))
     simp[this,e]
    ·exact .inr ⟨k,c,e,z.sameBut hs (cne y c e)⟩
  ·obtain⟨w',z⟩:=I.cell y c e
   exact⟨w',z.sameBut hs (cne y c e)⟩
  ·obtain⟨e,n,ne,nf,d⟩:=I.pin p hp
   exact⟨(hs.2 p.1 ne).trans e,n,ne,nf,d⟩
 ·have hfn:X.fn x=true:=by
   rcases hf with z|z
   ·exact z
   ·rw[z] at hk;cases hk
  obtain⟨c,hc⟩:=I.ok.has x (.inl hk)
  obtain⟨w',z⟩:=I.cell x c hc
  refine wpAny_storeName_cell I.ok.kind hk hc z (fun h' hc' hs=>?_)
  obtain⟨oc,hoc,hocd⟩:=id z
  refine h { s with heap:=h' } ⟨I.ok,I.os,I.bare,⟨fun b o e n hb hx=>?_,fun b o e n hb hx=>?_,I.base.free,fun b o e hx=>?_,I.base.tups,I.base.frzs,I.base.tbls⟩,⟨m,hn.sameBut hs (Ne.symm (cne x c hc)),fun j y v' e1 e2 e3=>?_⟩,fun y c' e=>?_,I.free,I.freeC,fun p hp=>?_,tracked ⟨oc,hoc,I.freeC x c hc⟩ hs,by simpa using I.len⟩ ⟨c,hs,.inr hc⟩
  ·exact(hs.2 b (Nat.ne_of_lt (Nat.lt_of_lt_of_le (Heap.lt_size e) (I.ok.cab x c hfn hc)))).trans (I.base.keep b o e n hb hx)
  ·obtain⟨sl,e1⟩:=I.base.slot b o e n hb hx
   exact⟨sl,(hs.2 b (Nat.ne_of_lt (Nat.lt_of_lt_of_le (Heap.lt_size e) (I.ok.cab x c hfn hc)))).trans e1⟩
  ·obtain⟨o',e1⟩:=I.base.there b o e hx
   exact⟨o',(hs.2 b (Nat.ne_of_lt (Nat.lt_of_lt_of_le (Heap.lt_size e) (I.ok.cab x c hfn hc)))).trans e1⟩
  ·by_cases hj:j=i
   ·subst hj
    rw[hi] at e1;cases e1
    rw[List.getElem?_set_self hiσ] at e2
    cases e2
    exact⟨u,r,.inr ⟨.inl hk,c,hc,hc'⟩⟩
   ·rw[List.getElem?_set_ne (Ne.symm hj)] at e2
    obtain⟨u',r',q⟩:=hl j y v' e1 e2 e3
    refine⟨u',r',?_⟩
    rcases q with q|⟨k,c',e,z'⟩
    ·exact .inl q
    ·refine .inr ⟨k,c',e,z'.sameBut hs ?_⟩
     rintro rfl
     exact hj (zgd hN e1 (I.ok.inj _ _ _ e hc▸hi))
  ·by_cases hcc:c'=c
   ·subst hcc;exact⟨_,hc'⟩
   ·obtain⟨w2,z2⟩:=I.cell y c' e
    exact⟨w2,z2.sameBut hs hcc⟩
  ·obtain⟨e,n,ne,nf,d⟩:=I.pin p hp
   refine⟨(hs.2 p.1 ?_).trans e,n,ne,nf,d⟩
   intro q
   rw[q,hoc] at e
   have q':oc=p.2:=Option.some.inj e
   exact d w' (by rw[<- q'];exact hocd)
theorem zhd {M:Model}{A:Around}{E:zE1}{i:Nat}{x:Str}{v:V}{u:Value}{Q:Unit->Shared->Prop}(I:Inv X pins σ H s)(hN:X.N.Nodup)(hi:X.N[i]?=some x)(hx:Loc X.env.scope x)(r:RelV v u)
  (h:∀s',Inv X pins (σ.set i (some v)) H s'->Q () s')(hf:X.fn x=true\/X.env.scope.names.lookup x=some .local:=by first|exact .inl rfl|exact .inr rfl|assumption):wpAny M A (storeName X.env x u) Q E s:=
 zPd I hN hi hx r (fun s' I' _=>h s' I') hf
theorem Inv.zlo {s':Shared}{ch:List Addr}(I:Inv X pins σ H s)(ho:s'.os=s.os)(u:Un (frs X.stack) ch H H' s.heap s'.heap)(hok:HOk X.prog X.w H' s'.heap)(hg:AllBare s'.gens)
  (hch:∀b∈ch,(b∈X.ex\/X.s₀.heap.objs.size<=b)/\b≠X.env.locals/\(∀x c,X.env.cells.lookup x=some c->c≠b)/\∀p∈X.pn++pins,p.1≠b):Inv X pins σ H' s':=by
 obtain⟨h',g',d',t',o'⟩:=s'
 have e:o'=s.os:=ho
 subst e
 exact I.call (g':=g') (t':=t') (d':=d') u hok hg hch
end
abbrev XK:=Value->Option Addr->Hp->Prop
abbrev St:=List (Option V)
abbrev VK:=V->Hp->Prop
abbrev TE:=St->Hp->VK->Prop
abbrev TT:=St->Hp->(Bool->Hp->Prop)->Prop
abbrev TA:=St->Hp->(List V->Hp->Prop)->Prop
structure Ends where
 nx:St->Hp->Prop
 rt:VK
 bk:St->Hp->Prop:=fun _ _=>False
 ct:St->Hp->Prop:=fun _ _=>False
abbrev TS:=Ends->St->Hp->Prop
def EP (X:Cx)(pins:zT2)(σ:St)(Q:VK)(u:Value)(s':Shared):Prop:=∃v H',Inv X pins σ H' s'/\RelV v u/\Q v H'
def TP (X:Cx)(pins:zT2)(σ:St)(Q:Bool->Hp->Prop)(b:Bool)(s':Shared):Prop:=∃H',Inv X pins σ H' s'/\Q b H'
def AP (X:Cx)(pins:zT2)(σ:St)(Q:List V->Hp->Prop)(us:List Value)(s':Shared):Prop:=∃vs H',Inv X pins σ H' s'/\Vals vs us/\Q vs H'
def SP (X:Cx)(pins:zT2)(D:Ends)(f:Flow)(s':Shared):Prop:=
 match f with
 |.next=>∃σ' H',Inv X pins σ' H' s'/\D.nx σ' H'
 |.brk=>∃σ' H',Inv X pins σ' H' s'/\D.bk σ' H'
 |.cont=>∃σ' H',Inv X pins σ' H' s'/\D.ct σ' H'
 |.ret u=>∃v σ' H',Inv X pins σ' H' s'/\RelV v u/\D.rt v H'
def PE (X:Cx)(e:Expr)(t:TE):Prop:=
 ∀(pins:zT2)(s:Shared)(σ:St)(H:Hp)(Q:VK),Inv X pins σ H s->t σ H Q->wpAny (model X.prog X.w) X.A (eval e X.env) (EP X pins σ Q) X.xe s
def PT (X:Cx)(e:Expr)(t:TT):Prop:=
 ∀(pins:zT2)(s:Shared)(σ:St)(H:Hp)(Q:Bool->Hp->Prop),Inv X pins σ H s->t σ H Q->wpAny (model X.prog X.w) X.A (isTrue e X.env (eval e X.env)) (TP X pins σ Q) X.xe s
def PW (X:Cx)(e:Expr)(t:TT):Prop:=
 ∀(whole:Sem Value)(pins:zT2)(s:Shared)(σ:St)(H:Hp)(Q:Bool->Hp->Prop),Inv X pins σ H s->t σ H Q->wpAny (model X.prog X.w) X.A (isTrue e X.env whole) (TP X pins σ Q) X.xe s
theorem PW.pt {X:Cx}{e:Expr}{t:TT}(h:PW X e t):PT X e t:=h _
def PA (X:Cx)(es:List Expr)(t:TA):Prop:=
 ∀(pos:Pos)(pins:zT2)(s:Shared)(σ:St)(H:Hp)(Q:List V->Hp->Prop),Inv X pins σ H s->t σ H Q->wpAny (model X.prog X.w) X.A (spliced (backTo pos (starEach es X.env))) (AP X pins σ Q) X.xe s
def PS (X:Cx)(st:Stmt)(t:TS):Prop:=
 ∀(pins:zT2)(s:Shared)(σ:St)(H:Hp)(D:Ends),Inv X pins σ H s->t D σ H->wpAny (model X.prog X.w) X.A (exec st X.env) (SP X pins D) X.xe s
def PSs (X:Cx)(st:List Stmt)(t:TS):Prop:=
 ∀(pins:zT2)(s:Shared)(σ:St)(H:Hp)(D:Ends),Inv X pins σ H s->t D σ H->wpAny (model X.prog X.w) X.A (execs st X.env) (SP X pins D) X.xe s
theorem thn {α:Type}{t:Sem α}{Q Q':α->Shared->Prop}{M:Model}{A:Around}{E:zE1}{s:Shared}(h:wpAny M A t Q E s)(hQ:∀a s,Q a s->Q' a s):wpAny M A t Q' E s:=wpAny_mono h hQ fun _ _ x=>x
section
variable {X:Cx}
def tVar (i:Nat):TE:=fun σ H Q=>∃v,σ[i]?=some (some v)/\Q v H
def tC (v:V):TE:=fun _ H Q=>Q v H
theorem zRk {i:Nat}{x:Str}{pos:Pos}(hN:X.N[i]?=some x)(hv:Vis X.env.scope x)(hd:(x==("__debug__":Str))=false:=by decide)(hcd:(x==("__classdict__":Str))=false:=by decide):PE X (.Name x pos) (tVar i):=by
 intro pins s σ H Q I h
 obtain⟨v,e,h⟩:=h
 obtain⟨m,hn,hl⟩:=I.loc
 obtain⟨u,r,l⟩:=hl i x v hN e hv
 have fin:EP X pins σ Q u s:=⟨v,H,I,r,h⟩
 rcases l with⟨hk,hm⟩|⟨hk,c,hc,hcell⟩
 ·exact wpAny_Name (wpAny_loadName_local I.ok.kind hk hn hm fin) hd
 ·rcases hk with hk|hk
  ·exact wpAny_Name (wpAny_loadName_cell I.ok.kind hk hc hcell fin) hd
  ·exact wpAny_Name (wpAny_loadName_free I.ok.kind hk hc hcell fin hcd) hd
theorem zg {i j pos}:PE X (.Constant (.int i) j pos) (tC (.int i)):=fun _ _ _ H _ I h=>wpAny_Constant_int ⟨.int i,H,I.tok _,⟨_,rfl⟩,h⟩
theorem zHb {b j pos}:PE X (.Constant (.bool b) j pos) (tC (.bl b)):=fun _ _ _ H _ I h=>Constant_bool ⟨.bl b,H,I,rfl,h⟩
theorem zia {j pos}:PE X (.Constant .none j pos) (tC .non):=fun _ _ _ H _ I h=>Constant_none ⟨.non,H,I,rfl,h⟩
theorem zx {x j pos}:PE X (.Constant (.str x) j pos) (tC (.str x)):=fun _ _ _ H _ I h=>Calls.Constant_str ⟨.str x,H,I.tok _,⟨_,rfl⟩,h⟩
def Gl (X:Cx)(x:Str):Prop:=X.env.kindOf x=some .globalImplicit
theorem zib {E:zE1}{pins:zT2}{s:Shared}{σ:St}{H:Hp}{x:Str}{u:Value}{pos:Pos}{Q:zE1}(I:Inv X pins σ H s)(hg:Gl X x)(hm:X.mg x=some u)(h:Q u s)
  (hd:(x==("__debug__":Str))=false:=by decide):wpAny (model X.prog X.w) X.A (eval (.Name x pos) X.env) Q E s:=
 Calls.Name_function_global I.ok.kind hg (Calls.loadGlobal_global (by rw[I.ok.glob];exact I.mod.glob.keeps I.bk) hm h) hd
theorem zCb {E:zE1}{pins:zT2}{s:Shared}{σ:St}{H:Hp}{x:Str}{u:Value}{pos:Pos}{Q:zE1}(I:Inv X pins σ H s)(hg:Gl X x)(hm:X.mg x=none)(hv:bootBuiltins x=some u)(h:Q u s)
  (hn:x≠"__name__":=by decide)(hd:(x==("__debug__":Str))=false:=by decide):wpAny (model X.prog X.w) X.A (eval (.Name x pos) X.env) Q E s:=by
 obtain⟨mb,h1,h2⟩:=I.mod.blt
 exact Calls.Name_function_global I.ok.kind hg (Calls.loadGlobal_builtin (by rw[I.ok.glob];exact I.mod.glob.keeps I.bk) hm (by rw[I.ok.blt];exact h1.keeps I.bk) ((h2 x hn).trans hv) h) hd
theorem zra {x:Str}{v:V}{u:Value}{pos:Pos}(hg:Gl X x)(hm:X.mg x=some u)(r:RelV v u)(hd:(x==("__debug__":Str))=false:=by decide):PE X (.Name x pos) (tC v):=
 fun _ _ _ H _ I h=>zib I hg hm ⟨v,H,I,r,h⟩ hd
theorem zxc {x:Str}{v:V}{u:Value}{pos:Pos}(hg:Gl X x)(hm:X.mg x=none)(hv:bootBuiltins x=some u)(r:RelV v u)(hn:x≠"__name__":=by decide)(hd:(x==("__debug__":Str))=false:=by decide):PE X (.Name x pos) (tC v):=
 fun _ _ _ H _ I h=>zCb I hg hm hv ⟨v,H,I,r,h⟩ hn hd
variable {a b:Expr}{ta tb:TE}{pos:Pos}
def PC (X:Cx)(op:CmpOp)(a b:Expr)(t:TE):Prop:=
 ∀(pins:zT2)(s:Shared)(σ:St)(H:Hp)(Q:VK),Inv X pins σ H s->t σ H Q→
  wpAny (model X.prog X.w) X.A (eval a X.env) (fun v s₁=>wpAny (model X.prog X.w) X.A (eval b X.env) (fun u s₂=>wpAny (model X.prog X.w) X.A (compareOp op v u) (EP X pins σ Q) X.xe s₂) X.xe s₁) X.xe s
theorem zRe (b:Expr){op:CmpOp}(h:op≠.In)(h2:op≠.NotIn):behindInMarks op b=false:=by
 have e1:(op==CmpOp.In)=false:=by cases op<;>first|rfl|exact absurd rfl h
 have e2:(op==CmpOp.NotIn)=false:=by cases op<;>first|rfl|exact absurd rfl h2
 cases b<;>simp[behindInMarks,e1,e2]
def tIsN (ta:TE):TE:=fun σ H Q=>ta σ H fun x H1=>Q (.bl (decide (x=.non))) H1
def zxm (ta:TE):TE:=fun σ H Q=>ta σ H fun x H1=>Q (.bl (!decide (x=.non))) H1
theorem RelV.zXn {x:V}{v:Value}(r:RelV x v):(v==Value.none)=decide (x=.non):=by
 cases x with
 |non=>cases r;rfl
 |bl _=>cases r;rfl
 |int _=>obtain⟨t,rfl⟩:=r;rfl
 |str _=>obtain⟨t,rfl⟩:=r;rfl
 |byt _=>obtain⟨t,rfl⟩:=r;rfl
 |flt _=>obtain⟨t,rfl⟩:=r;rfl
 |ref _=>cases r;rfl
 |ty _=>cases r;rfl
theorem zQd {j pos'}(ha:PE X a ta):PC X .Is a (.Constant .none j pos') (tIsN ta):=by
 intro pins s σ H Q I h
 refine thn (ha pins s σ H _ I h) fun v s1 hq9=>?_
 obtain⟨x,H1,I1,r1,q1⟩:=hq9
 exact Constant_none (is_none_gen ⟨.bl _,H1,I1,by rw[r1.zXn];rfl,q1⟩)
theorem zid {j pos'}(ha:PE X a ta):PC X .IsNot a (.Constant .none j pos') (zxm ta):=by
 intro pins s σ H Q I h
 refine thn (ha pins s σ H _ I h) fun v s1 hq9=>?_
 obtain⟨x,H1,I1,r1,q1⟩:=hq9
 exact Constant_none (isnot_none_gen ⟨.bl _,H1,I1,by rw[r1.zXn];rfl,q1⟩)
def tB (t:TE):TT:=fun σ H Q=>t σ H fun x H1=>∃c,x=.bl c/\Q c H1
theorem zPi {op:CmpOp}{t:TE}(h:PC X op a b t)(h1:behindInMarks op b=false:=by first|exact zRe _ (by decide) (by decide)|rfl):PE X (.Compare a [op] [b] pos) t:=fun pins s σ H Q I hw=>wpAny_Compare1 (h pins s σ H Q I hw) h1
theorem zyc {op:CmpOp}{t:TE}(h:PC X op a b t)(h1:behindInMarks op b=false:=by first|exact zRe _ (by decide) (by decide)|rfl):PT X (.Compare a [op] [b] pos) (tB t):=by
 intro pins s σ H Q I hw
 refine wpAny_isTrue_Compare1 (thn (h pins s σ H _ I hw) fun v s1 h1=>thn h1 fun u s2 h2=>thn h2 fun c s3 ⟨x,H1,I1,r1,q1⟩=>?_) h1
 obtain⟨d,rfl,q⟩:=q1
 cases r1
 exact wpAny_truthy_bool ⟨H1,I1,q⟩
theorem zba {e:Expr}{t:TE}(h:PE X e t)(he:∀whole,isTrue e X.env whole=(do let v ← whole;standAt e.pos;holding [v] (truthy v)):=by intro _;rfl):PT X e (tB t):=by
 intro pins s σ H Q I hw
 refine isTrue_plain (thn (h pins s σ H _ I hw) fun v s1 ⟨x,H1,I1,r1,q1⟩=>?_) (he _)
 obtain⟨d,rfl,q⟩:=q1
 cases r1
 exact wpAny_truthy_bool ⟨H1,I1,q⟩
variable {tA tB':TT}{rest:List Expr}
def tAnd (t u:TT):TT:=fun σ H Q=>t σ H fun c H1=>if c=true then u σ H1 Q else Q false H1
def tOr (t u:TT):TT:=fun σ H Q=>t σ H fun c H1=>if c=true then Q true H1 else u σ H1 Q
def tNot (t:TT):TT:=fun σ H Q=>t σ H fun c H1=>Q (!c) H1
theorem zjd (ha:PT X a tA):PW X (.BoolOp .And [a] pos) tA:=by
 intro wh pins s σ H Q I h
 refine isTrue_and (thn (ha pins s σ H Q I h) fun c s1 e=>?_)
 cases c with
 |true=>exact isTrue_and_nil e
 |false=>exact e
theorem zDb (ha:PT X a tA):PW X (.BoolOp .Or [a] pos) tA:=by
 intro wh pins s σ H Q I h
 refine isTrue_or (thn (ha pins s σ H Q I h) fun c s1 e=>?_)
 cases c with
 |false=>exact isTrue_or_nil e
 |true=>exact e
theorem zRd (ha:PT X a tA)(hb:PW X (.BoolOp .And (b::rest) pos) tB'):PW X (.BoolOp .And (a::b::rest) pos) (tAnd tA tB'):=by
 intro wh pins s σ H Q I h
 refine isTrue_and (thn (ha pins s σ H _ I h) fun c s1 ⟨H1,I1,q1⟩=>?_)
 cases c with
 |true=>exact hb wh pins s1 σ H1 Q I1 q1
 |false=>exact⟨H1,I1,q1⟩
theorem zPb (ha:PT X a tA)(hb:PW X (.BoolOp .Or (b::rest) pos) tB'):PW X (.BoolOp .Or (a::b::rest) pos) (tOr tA tB'):=by
 intro wh pins s σ H Q I h
 refine isTrue_or (thn (ha pins s σ H _ I h) fun c s1 ⟨H1,I1,q1⟩=>?_)
 cases c with
 |true=>exact⟨H1,I1,q1⟩
 |false=>exact hb wh pins s1 σ H1 Q I1 q1
theorem zEb (ha:PT X a tA):PT X (.UnaryOp .Not a pos) (tNot tA):=by
 intro pins s σ H Q I h
 exact isTrue_not (ha pins s σ H (fun c H1=>Q (!c) H1) I h)
def zym (ta tb:TE):TE:=fun σ H Q=>ta σ H fun x H1=>∃c,x=.bl c/\if c=true then tb σ H1 Q else Q (.bl false) H1
def tOrV (ta tb:TE):TE:=fun σ H Q=>ta σ H fun x H1=>∃c,x=.bl c/\if c=true then Q (.bl true) H1 else tb σ H1 Q
def zzm (ta:TE):TE:=fun σ H Q=>ta σ H fun x H1=>∃c,x=.bl c/\Q (.bl (!c)) H1
theorem zjb {op}{t:TE}(h:PE X a t):PE X (.BoolOp op [a] pos) t:=fun pins s σ H Q I hw=>BoolOp_one (h pins s σ H Q I hw)
theorem zQb (ha:PE X a ta)(hb:PE X (.BoolOp .And (b::rest) pos) tb):PE X (.BoolOp .And (a::b::rest) pos) (zym ta tb):=by
 intro pins s σ H Q I h
 refine BoolOp_and (thn (ha pins s σ H _ I h) fun v s1 ⟨x,H1,I1,r1,q1⟩=>?_)
 obtain⟨c,rfl,q1⟩:=q1
 cases r1
 refine wpAny_truthy_bool ?_
 cases c with
 |true=>exact hb pins s1 σ H1 Q I1 q1
 |false=>exact⟨.bl false,H1,I1,rfl,q1⟩
theorem znj (ha:PE X a ta)(hb:PE X (.BoolOp .Or (b::rest) pos) tb):PE X (.BoolOp .Or (a::b::rest) pos) (tOrV ta tb):=by
 intro pins s σ H Q I h
 refine BoolOp_or (thn (ha pins s σ H _ I h) fun v s1 ⟨x,H1,I1,r1,q1⟩=>?_)
 obtain⟨c,rfl,q1⟩:=q1
 cases r1
 refine wpAny_truthy_bool ?_
 cases c with
 |false=>exact hb pins s1 σ H1 Q I1 q1
 |true=>exact⟨.bl true,H1,I1,rfl,q1⟩
theorem zQi (ha:PE X a ta):PE X (.UnaryOp .Not a pos) (zzm ta):=by
 intro pins s σ H Q I h
 refine UnaryOp_ (thn (ha pins s σ H _ I h) fun v s1 ⟨x,H1,I1,r1,q1⟩=>?_)
 obtain⟨c,rfl,q1⟩:=q1
 cases r1
 exact not_of (wpAny_truthy_bool ⟨.bl (!c),H1,I1,rfl,q1⟩)
def tIf (t:TT)(ta tb:TE):TE:=fun σ H Q=>t σ H fun c H1=>if c=true then ta σ H1 Q else tb σ H1 Q
theorem ztb {c:Expr}(hc:PT X c tA)(ha:PE X a ta)(hb:PE X b tb):PE X (.IfExp c a b pos) (tIf tA ta tb):=by
 intro pins s σ H Q I h
 refine wpAny_IfExp (thn (hc pins s σ H _ I h) fun d s1 ⟨H1,I1,q1⟩=>?_)
 cases d with
 |true=>exact ha pins s1 σ H1 Q I1 q1
 |false=>exact hb pins s1 σ H1 Q I1 q1
end
def SqL (K:W.Frag)(H:Hp)(a:Addr)(xs:List V):Prop:=
 Rd H a (.lst xs)∨
  ∃(o:Obj)(its:Array Value)(n:Nat),K.lookup a=some o/\o.cls=.type "list"/\o.dict=none/\o.data=.seq its n/\its.size<=sizeLine/\Vals xs its.toList
def SqT (K:W.Frag)(H:Hp)(a:Addr)(xs:List V):Prop:=
 Rd H a (.tup xs)∨
  ∃(o:Obj)(its:Array Value)(n:Nat),K.lookup a=some o/\o.cls=.type "tuple"/\o.data=.seq its n/\its.size<=sizeLine/\Vals xs its.toList
def absV:Value->Option V
 |.none=>some .non
 |.bool b=>some (.bl b)
 |.int i _=>some (.int i)
 |.str x _=>some (.str x)
 |.bytes b _=>some (.byt b)
 |.float b _=>some (.flt b)
 |.ref a=>some (.ref a)
 |.type n=>some (.ty n)
 |_=>none
theorem RelV.abs {x:V}{u:Value}(r:RelV x u):absV u=some x:=by
 cases x with
 |non=>cases r;rfl
 |bl _=>cases r;rfl
 |int _=>obtain⟨t,rfl⟩:=r;rfl
 |str _=>obtain⟨t,rfl⟩:=r;rfl
 |byt _=>obtain⟨t,rfl⟩:=r;rfl
 |flt _=>obtain⟨t,rfl⟩:=r;rfl
 |ref _=>cases r;rfl
 |ty _=>cases r;rfl
theorem RelV.inj {x y:V}{u:Value}(r:RelV x u)(q:RelV y u):x=y:=Option.some.inj (r.abs.symm.trans q.abs)
theorem Vals.inj:∀{xs ys:List V}{us:List Value},Vals xs us->Vals ys us->xs=ys
 |_,_,_,.nil,.nil=>rfl
 |_,_,_,.cons r t,.cons r' t'=>by rw[r.inj r',Vals.inj t t']
section
variable {X:Cx}{pins:zT2}{σ:St}{H:Hp}{s:Shared}{a:Addr}{xs ys:List V}
theorem SqL.of {K:W.Frag}(h:H a=some (.lst xs)):SqL K H a xs:=.inl (.inl h)
theorem SqT.of {K:W.Frag}(h:H a=some (.tup xs)):SqT K H a xs:=.inl (.inl h)
theorem Inv.list (I:Inv X pins σ H s)(h:SqL X.K H a xs):∃its:List Value,Vals xs its/\PlainL s.heap a its.toArray/\xs.length<=sizeLine:=by
 rcases h with h|⟨o,its,n,hk,hc,hd,hs,hz,r⟩
 ·obtain⟨z,its,n,r,e⟩:=h.ok I.hok
  exact⟨its,r,⟨_,n,e,rfl,rfl,rfl⟩,z⟩
 ·refine⟨its.toList,r,⟨o,n,I.kIn a o hk,hc,hd,by simpa using hs⟩,?_⟩
  have e:=r.length
  simp only[Array.length_toList] at e
  omega
theorem Inv.tuple (I:Inv X pins σ H s)(h:SqT X.K H a xs):∃its:List Value,Vals xs its/\IsTup s.heap a its.toArray/\xs.length<=sizeLine:=by
 rcases h with h|⟨o,its,n,hk,hc,hs,hz,r⟩
 ·obtain⟨z,its,r,p⟩:=h.ok I.hok
  exact⟨its,r,p,z⟩
 ·refine⟨its.toList,r,⟨o,I.kIn a o hk,hc,n,by simpa using hs⟩,?_⟩
  have e:=r.length
  simp only[Array.length_toList] at e
  omega
theorem Inv.zYn (I:Inv X pins σ H s)(h:SqL X.K H a xs)(h':SqL X.K H a ys):xs=ys:=by
 obtain⟨its,r,⟨o,n,e,_,_,d⟩,_⟩:=I.list h
 obtain⟨its',r',⟨o',n',e',_,_,d'⟩,_⟩:=I.list h'
 rw[e] at e';cases e'
 rw[d] at d'
 injection d' with d1 _
 have:its=its':=by simpa using congrArg Array.toList d1
 subst this
 exact r.inj r'
theorem Inv.zWn (I:Inv X pins σ H s)(h:SqT X.K H a xs)(h':SqT X.K H a ys):xs=ys:=by
 obtain⟨its,r,⟨o,e,_,n,d⟩,_⟩:=I.tuple h
 obtain⟨its',r',⟨o',e',_,n',d'⟩,_⟩:=I.tuple h'
 rw[e] at e';cases e'
 rw[d] at d'
 injection d' with d1 _
 have:its=its':=by simpa using congrArg Array.toList d1
 subst this
 exact r.inj r'
end
abbrev Cx.zwo (X:Cx)(E:zE1):Cx:={ X with xe:=E }
abbrev Cx.nox (X:Cx):Cx:=X.zwo fun _ _=>False
theorem Cx.Ok.zwo {X:Cx}(ok:X.Ok)(E:zE1):(X.zwo E).Ok:=
 ⟨ok.mod,ok.kind,ok.glob,ok.blt,ok.above,ok.inj,ok.has,ok.cab,ok.hd,ok.frames,ok.stk,ok.exf,ok.bs,ok.bsz,ok.noex,ok.exfs,ok.funs,ok.frf⟩
theorem Cx.Ok.zio {X:Cx}{E:zE1}(ok:(X.zwo E).Ok):X.Ok:=
 ⟨ok.mod,ok.kind,ok.glob,ok.blt,ok.above,ok.inj,ok.has,ok.cab,ok.hd,ok.frames,ok.stk,ok.exf,ok.bs,ok.bsz,ok.noex,ok.exfs,ok.funs,ok.frf⟩
section
variable {X:Cx}{pins:zT2}{σ:St}{H:Hp}{s:Shared}{E:zE1}
theorem Inv.zwo (I:Inv X pins σ H s)(E:zE1):Inv (X.zwo E) pins σ H s:=⟨I.ok.zwo E,I.os,I.bare,I.base,I.loc,I.cell,I.free,I.freeC,I.pin,I.hok,I.len⟩
theorem Inv.zio (I:Inv (X.zwo E) pins σ H s):Inv X pins σ H s:=⟨I.ok.zio,I.os,I.bare,I.base,I.loc,I.cell,I.free,I.freeC,I.pin,I.hok,I.len⟩
theorem SP.zio {D:Ends}{f:Flow}{s':Shared}(h:SP (X.zwo E) pins D f s'):SP X pins D f s':=by
 cases f with
 |next=>obtain⟨σ',H',I,q⟩:=h;exact⟨σ',H',I.zio,q⟩
 |brk=>obtain⟨σ',H',I,q⟩:=h;exact⟨σ',H',I.zio,q⟩
 |cont=>obtain⟨σ',H',I,q⟩:=h;exact⟨σ',H',I.zio,q⟩
 |ret u=>obtain⟨v,σ',H',I,r,q⟩:=h;exact⟨v,σ',H',I.zio,r,q⟩
theorem PSs.nox {st:List Stmt}{t:TS}(h:PSs X.nox st t):PSs X st t:=fun pins s σ H D I hw=>
 wpAny_mono (h pins s σ H D (I.zwo _) hw) (fun _ _ q=>q.zio) fun _ _ z=>False.elim z
end
section
variable {X:Cx}{st:Stmt}{rest:List Stmt}{t u:TS}{e:Expr}{te:TE}{pos:Pos}
def zAm:TS:=fun D σ H=>D.nx σ H
def tSeq (t u:TS):TS:=fun D σ H=>t { D with nx:=u D } σ H
theorem zt:PSs X [] zAm:=fun _ _ σ H _ I h=>wpAny_execs_nil ⟨σ,H,I,h⟩
theorem ze (h1:PS X st t)(h2:PSs X rest u):PSs X (st::rest) (tSeq t u):=by
 intro pins s σ H D I h
 refine wpAny_execs_cons (thn (h1 pins s σ H { D with nx:=u D } I h) fun f s1 q=>?_)
 cases f with
 |next=>
  obtain⟨σ',H',I',q⟩:=q
  exact h2 pins s1 σ' H' D I' q
 |ret v=>exact q
 |brk=>exact q
 |cont=>exact q
theorem zf (h1:PS X st t):PSs X [st] t:=by
 intro pins s σ H D I h
 refine wpAny_execs_cons (thn (h1 pins s σ H D I h) fun f s1 q=>?_)
 cases f with
 |next=>exact wpAny_execs_nil q
 |ret v=>exact q
 |brk=>exact q
 |cont=>exact q
theorem Inv.quiet {pins:zT2}{σ:St}{H:Hp}{s:Shared}(I:Inv X pins σ H s):interactive X.env=false:=by simp[interactive,I.ok.kind]
def zBm (te:TE):TS:=fun D σ H=>te σ H fun _ H1=>D.nx σ H1
theorem zHa (he:PE X e te)(hs:swapsWith e none pos.line X.env=pure false:=by rfl):PS X (.Expr e pos) (zBm te):=by
 intro pins s σ H D I h
 exact wpAny_Expr_any (thn (he pins s σ H _ I h) fun v s1 ⟨x,H1,I1,r1,q1⟩=>⟨σ,H1,I1,q1⟩) I.quiet hs
def tRet (te:TE):TS:=fun D σ H=>te σ H D.rt
theorem zp (he:PE X e te):PS X (.Return (some e) pos) (tRet te):=by
 intro pins s σ H D I h
 exact wpAny_Return_some (thn (he pins s σ H _ I h) fun v s1 ⟨x,H1,I1,r1,q1⟩=>⟨x,σ,H1,I1,r1,q1⟩)
def tIfS (c:TT)(t u:TS):TS:=fun D σ H=>c σ H fun b H1=>if b=true then t D σ H1 else u D σ H1
theorem zM {c:Expr}{a b:List Stmt}{tc:TT}(hc:PT X c tc)(ha:PSs X a t)(hb:PSs X b u):PS X (.If c a b pos) (tIfS tc t u):=by
 intro pins s σ H D I h
 refine wpAny_If (thn (hc pins s σ H _ I h) fun d s1 ⟨H1,I1,q1⟩=>?_)
 cases d with
 |true=>exact ha pins s1 σ H1 D I1 q1
 |false=>exact hb pins s1 σ H1 D I1 q1
def zSk:TS:=fun _ _ _=>False
theorem zzc {sts:List Stmt}:PSs X sts zSk:=fun _ _ _ _ _ _ h=>h.elim
end
abbrev TG:=V->St->Hp->(St->Hp->Prop)->Prop
abbrev TGs:=List V->St->Hp->(St->Hp->Prop)->Prop
def PG (X:Cx)(target:Expr)(t:TG):Prop:=
 ∀(pins:zT2)(s:Shared)(σ:St)(H:Hp)(v:V)(u:Value)(Q:St->Hp->Prop),Inv X pins σ H s->RelV v u->t v σ H Q→
  wpAny (model X.prog X.w) X.A (assign target X.env u) (fun _ s'=>∃σ' H',Inv X pins σ' H' s'/\Q σ' H') X.xe s
def PGs (X:Cx)(ts:List Expr)(t:TGs):Prop:=
 ∀(pins:zT2)(s:Shared)(σ:St)(H:Hp)(vs:List V)(us:List Value)(Q:St->Hp->Prop),Inv X pins σ H s->Vals vs us->t vs σ H Q→
  wpAny (model X.prog X.w) X.A (assignInOrder ((assignEach ts X.env).map (·.2)) us) (fun _ s'=>∃σ' H',Inv X pins σ' H' s'/\Q σ' H') X.xe s
abbrev TSet:=V->V->V->Hp->(Hp->Prop)->Prop
def PSet (X:Cx)(t:TSet):Prop:=
 ∀(pins:zT2)(s:Shared)(σ:St)(H:Hp)(o i v:V)(ov iv u:Value)(Q:Hp->Prop),Inv X pins σ H s->RelV o ov->RelV i iv->RelV v u->t o i v H Q→
  wpAny (model X.prog X.w) X.A (setItem ov iv u) (fun _ s'=>∃H',Inv X pins σ H' s'/\Q H') X.xe s
section
variable {X:Cx}{pos:Pos}
def zRb (i:Nat):TG:=fun v σ H Q=>Q (σ.set i (some v)) H
theorem zC {i:Nat}{x:Str}(hN:X.N.Nodup)(hi:X.N[i]?=some x)(hx:Loc X.env.scope x)(hf:X.fn x=true\/X.env.scope.names.lookup x=some .local:=by first|exact .inl rfl|exact .inr rfl|assumption):PG X (.Name x pos) (zRb i):=by
 intro pins s σ H v u Q I r h
 exact wpAny_assign_Name (zhd I hN hi hx r (fun s' I'=>⟨_,H,I',h⟩) hf)
def gNil:TGs:=fun vs σ H Q=>vs=[]/\Q σ H
def zkd (t:TG)(u:TGs):TGs:=fun vs σ H Q=>∃v r,vs=v::r/\t v σ H fun σ' H'=>u r σ' H' Q
theorem zdc:PGs X [] gNil:=by
 intro pins s σ H vs us Q I r h
 obtain⟨e,h⟩:=h
 subst e
 cases r
 exact assignInOrder_nil ⟨σ,H,I,h⟩
theorem zpa {e:Expr}{es:List Expr}{t:TG}{u:TGs}(h1:PG X e t)(h2:PGs X es u)
  (hs:(assignEach (e::es) X.env).map (·.2)=assign e X.env::(assignEach es X.env).map (·.2):=by rfl):PGs X (e::es) (zkd t u):=by
 intro pins s σ H vs us Q I r h
 obtain⟨v,vr,e1,h⟩:=h
 subst e1
 cases r with
 |cons r rr=>
  rw[hs]
  refine assignInOrder_cons (thn (h1 pins s σ H _ _ _ I r h) fun _ s1 ⟨σ1,H1,I1,q1⟩=>?_)
  exact h2 pins s1 σ1 H1 _ _ Q I1 rr q1
def gTup (K:W.Frag)(n:Nat)(t:TGs):TG:=fun v σ H Q=>∃a xs,v=.ref a/\SqT K H a xs/\xs.length=n/\t xs σ H Q
theorem zUc {es:List Expr}{k:Nat}{t:TGs}{n:Nat}(hc:X.calm=true)(h:PGs X es t)
  (hn:(assignEach es X.env).length=n:=by rfl)(hst:(assignEach es X.env).findIdx? (·.1)=none:=by rfl):PG X (.Tuple es k pos) (gTup X.K n t):=by
 intro pins s σ H v u Q I r hw
 obtain⟨a,xs,e1,hq,hl,hw⟩:=hw
 subst e1
 cases r
 obtain⟨its,rv,ht,hz⟩:=I.tuple hq
 refine assign_Tuple_tuple (I.ok.hd hc) ht (by simp[hn,<- hl,rv.length]) hst fun h' hx=>?_
 have I1:Inv X pins σ H { s with heap:=h' }:=I.kept (t':=s.toks) fun b o e=>hx b o (Nat.ne_of_lt (Heap.lt_size e)) e
 exact h pins _ σ H xs _ Q I1 (by simpa using rv) hw
def gSub (to ti:TE)(t:TSet):TG:=fun v σ H Q=>to σ H fun o H1=>ti σ H1 fun i H2=>t o i v H2 fun H3=>Q σ H3
theorem zTk {o i:Expr}{to ti:TE}{t:TSet}(ho:PE X o to)(hi:PE X i ti)(hs:PSet X t)
  (ha:∀v,assign (.Subscript o i pos) X.env v=(do
   let ov ← holding [v] (eval o X.env)
   let iv ← holding [v,ov] (eval i X.env)
   standAt pos
   holding [v,ov,iv] (setItem ov iv v)
   release [v,ov,iv] []):=by intro _;rfl):PG X (.Subscript o i pos) (gSub to ti t):=by
 intro pins s σ H v u Q I r h
 rw[ha]
 refine wpAny_bind (wpAny_holding (thn (ho pins s σ H _ I h) fun ov s1 ⟨x,H1,I1,r1,q1⟩=>?_))
 refine wpAny_bind (wpAny_holding (thn (hi pins s1 σ H1 _ I1 q1) fun iv s2 ⟨y,H2,I2,r2,q2⟩=>?_))
 refine wpAny_bind (wpAny_standAt (wpAny_bind (wpAny_holding (thn (hs pins s2 σ H2 x y v ov iv u _ I2 r1 r2 r q2) fun _ s3 ⟨H3,I3,q3⟩=>?_))))
 exact wpAny_release ⟨σ,H3,I3,q3⟩
def tAsg (te:TE)(g:TG):TS:=fun D σ H=>te σ H fun x H1=>g x σ H1 D.nx
theorem zUk {tg e:Expr}{te:TE}{g:TG}(he:PE X e te)(hg:PG X tg g)(hs:swapsWithSole [tg] e pos.line X.env=pure false:=by rfl)(hw:swappedStores [tg] e X.env=pure none:=by rfl)
  (h1:(assignEach [tg] X.env).map (·.2)=[assign tg X.env]:=by rfl):PS X (.Assign [tg] e pos) (tAsg te g):=by
 intro pins s σ H D I h
 refine wpAny_Assign_stores (thn (he pins s σ H _ I h) fun v s1 ⟨x,H1,I1,r1,q1⟩=>?_) hs hw
 rw[h1]
 exact thn (hg pins s1 σ H1 x v _ I1 r1 q1) fun _ s2 q=>q
theorem zH {i:Nat}{x:Str}{e:Expr}{te:TE}{pos':Pos}(hN:X.N.Nodup)(hi:X.N[i]?=some x)(hx:Loc X.env.scope x)(he:PE X e te)(hs:swapsWith e (some (.Name x pos')) pos.line X.env=pure false:=by rfl)(hf:X.fn x=true\/X.env.scope.names.lookup x=some .local:=by first|exact .inl rfl|exact .inr rfl|assumption):
  PS X (.Assign [.Name x pos'] e pos) (tAsg te (zRb i)):=by
 intro pins s σ H D I h
 refine wpAny_Assign_Name (thn (he pins s σ H _ I h) fun v s1 ⟨y,H1,I1,r1,q1⟩=>?_) hs
 exact zhd I1 hN hi hx r1 (fun s2 I2=>⟨_,H1,I2,q1⟩) hf
end
structure It where
 go:Nat->Hp->Prop
 yld:Nat->Hp->V->Hp->Prop
 stop:Nat->Hp->Prop
def FpOk (X:Cx)(pins:zT2)(H:Hp)(b:Addr):Prop:=
 H b=none/\b≠X.env.locals/\b∉X.fs/\(b∈X.ex\/X.s₀.heap.objs.size<=b)/\(∀x c,X.env.cells.lookup x=some c->c≠b)/\∀p∈X.pn++pins,p.1≠b
theorem Inv.zxo {X:Cx}{pins:zT2}{σ:St}{H H':Hp}{s:Shared}{b:Addr}(I:Inv X pins σ H s)(hb:s.heap.objs.size<=b)(hn:H' b=none):FpOk X pins H' b:=by
 refine⟨hn,Nat.ne_of_gt (Nat.lt_of_lt_of_le I.lt hb),I.zvo hb,.inr (Nat.le_trans I.sz hb),fun x c e z=>?_,fun p hp z=>?_⟩
 ·obtain⟨v,q⟩:=I.cell x c e
  exact absurd (Nat.lt_of_lt_of_le q.lt (by rw[z];exact hb)) (Nat.lt_irrefl _)
 ·exact absurd (Nat.lt_of_lt_of_le (Heap.lt_size (I.pin p hp).1) (by rw[z];exact hb)) (Nat.lt_irrefl _)
structure Turn (P:Program)(w:World)(K:W.Frag)(tg:Expr)(J:It)(fp:List Addr)(it:Addr)(tn:Nat->Heap->Prop):Prop where
 mem:it∈fp
 obj:∀i h,tn i h->∀b∈fp,∃o,h.get? b=some o/\∀v,o.data≠.cell v
 keep:∀i h h',tn i h->(∀b∈fp,∀o,h.get? b=some o->h'.get? b=some o)->tn i h'
 item:∀(X:Cx),X.prog=P->X.w=w->X.K=K->X.calm=true->∀(i:Nat)(pins:zT2)(s:Shared)(σ:St)(H:Hp)(E:zE1),Inv X pins σ H s->(∀b∈fp,FpOk X pins H b)->tn i s.heap->J.go i H→
  wpAny (model P w) X.A (pyNext (.ref it)) (fun r s1=>∃u,r=some u∧
   wpAny (model P w) X.A (letOwnedTupleGo tg (.ref it) u) (fun _ s2=>∃x H',Inv X pins σ H' s2/\RelV x u/\J.yld i H x H'/\tn (i+1) s2.heap/\∀b∈fp,H' b=none) E s1) E s
 done:∀(X:Cx),X.prog=P->X.w=w->X.K=K->X.calm=true->∀(i:Nat)(pins:zT2)(s:Shared)(σ:St)(H:Hp)(E:zE1),Inv X pins σ H s->(∀b∈fp,FpOk X pins H b)->tn i s.heap->J.stop i H→
  wpAny (model P w) X.A (pyNext (.ref it)) (fun r s1=>r=none/\Inv X pins σ H s1) E s
 self:∀(A:Around)(i:Nat)(s:Shared)(Q:zE1)(E:zE1),tn i s.heap->Q (.ref it) s->wpAny (model P w) A (pyIter (.ref it)) Q E s
abbrev TI:=St->Hp->(It->Hp->Prop)->Prop
def PIE (X:Cx)(pins:zT2)(σ:St)(tg:Expr)(R:It->Hp->Prop)(itv:Value)(s2:Shared):Prop:=
 ∃(it:Addr)(fp:List Addr)(tn:Nat->Heap->Prop)(J:It)(H':Hp),itv=.ref it/\Inv X pins σ H' s2/\Turn X.prog X.w X.K tg J fp it tn/\tn 0 s2.heap/\(∀b∈fp,FpOk X pins H' b)/\R J H'
def PI (X:Cx)(tg iter:Expr)(wi:TI):Prop:=
 ∀(pins:zT2)(s:Shared)(σ:St)(H:Hp)(R:It->Hp->Prop),Inv X pins σ H s->wi σ H R→
  wpAny (model X.prog X.w) X.A (eval iter X.env) (fun v s1=>wpAny (model X.prog X.w) X.A (pyIter v) (PIE X pins σ tg R) X.xe s1) X.xe s
theorem zHh {M:Model}{A:Around}{E:zE1}{s:Shared}{tg:Expr}{it:Addr}{u:Value}{o:Obj}{n:String}{vs:Array Value}{Q:Unit->Shared->Prop}(ho:s.heap.get? it=some o)(hc:o.cls=.type n)(hd:o.data=.fields vs)
  (hn:["enumerate","zip","dict_itemiterator","dict_reverseitemiterator","odict_iterator","itertools.zip_longest","itertools.pairwise"].contains n=false)(hQ:Q () s):wpAny M A (letOwnedTupleGo tg (.ref it) u) Q E s:=by
 unfold letOwnedTupleGo
 cases tg<;>first
  |exact wpAny_pure hQ
  | (cases u<;>first
      |exact wpAny_pure hQ
      | (refine wpAny_bind (wpAny_load ho ?_)
         rw[hc,hd]
         show wpAny M A (if (["enumerate","zip","dict_itemiterator","dict_reverseitemiterator","odict_iterator","itertools.zip_longest","itertools.pairwise"].contains n&&vs[0]?==some (rawInt _))=true then _ else _) Q E s
         rw[if_neg (by intro h;rw[hn,Bool.false_and] at h;cases h)]
         exact wpAny_pure hQ))
def Itl (K:W.Frag)(a:Addr):It:=
 ⟨fun i H=>∃xs x,SqL K H a xs/\xs[i]?=some x,fun i H x H'=>H'=H/\∀xs,SqL K H a xs->xs[i]?=some x,fun i H=>∃xs,SqL K H a xs/\xs.length<=i⟩
def Itt (K:W.Frag)(a:Addr):It:=
 ⟨fun i H=>∃xs x,SqT K H a xs/\xs[i]?=some x,fun i H x H'=>H'=H/\∀xs,SqT K H a xs->xs[i]?=some x,fun i H=>∃xs,SqT K H a xs/\xs.length<=i⟩
def Itr (lo:Int)(n:Nat):It:=⟨fun i _=>i<n,fun i H x H'=>H'=H/\x=.int (lo+i),fun i _=>n<=i⟩
theorem zZf {P:Program}{w:World}{K:W.Frag}{tg:Expr}(a it:Addr):Turn P w K tg (Itl K a) [it] it (fun i h=>h.IsListIter it a i) where
 mem:=by simp
 obj:=fun i h st b hb=>by
  have e:b=it:=by simpa using hb
  subst e
  obtain⟨o,e,c,d⟩:=st
  exact⟨o,e,fun v z=>by rw[d] at z;cases z⟩
 keep:=fun i h h' st k=>st.at fun o e=>k it (by simp) o e
 item:=by
  intro X hP hw hK hc i pins s σ H E I hf st hg
  subst hP hw hK
  obtain⟨xs,x,hq,hx⟩:=hg
  obtain⟨its,rv,p,hz⟩:=I.list hq
  obtain⟨u,hu,ru⟩:=rv.get hx
  obtain⟨f0,f1,f2,f3,f4,f5⟩:=hf it (by simp)
  refine wpAny_pyNext_list_item st p.isList (x:=u) (by simpa using hu) fun h' st' sb=>?_
  have I1:Inv X pins σ H { s with heap:=h' }:=I.turned (t':=s.toks) (fun b o hb e=>(sb.2 b hb).trans e) f0 f1 f3 f4 f5
  obtain⟨o,e,c,d⟩:=id st'
  exact⟨u,rfl,zHh (s:={ s with heap:=h' }) e c d (by decide) ⟨x,H,I1,ru,⟨rfl,fun ys hy=>by rw[I.zYn hy hq];exact hx⟩,st',fun b hb=>(hf b hb).1⟩⟩
 done:=by
  intro X hP hw hK hc i pins s σ H E I hf st hg
  subst hP hw hK
  obtain⟨xs,hq,hx⟩:=hg
  obtain⟨its,rv,p,hz⟩:=I.list hq
  obtain⟨f0,f1,f2,f3,f4,f5⟩:=hf it (by simp)
  have hl:=rv.length
  exact wpAny_pyNext_list_end (I.ok.hd hc) st p.isList (by simp;omega) fun h' eb=>⟨rfl,I.turned (t':=s.toks) (fun b o hb e=>eb b o hb e) f0 f1 f3 f4 f5⟩
 self:=fun _ _ _ _ _ st h=>wpAny_pyIter_listiter st h
theorem zyf {P:Program}{w:World}{K:W.Frag}{tg:Expr}(a it:Addr):Turn P w K tg (Itt K a) [it] it (fun i h=>h.IsTupleIter it a i) where
 mem:=by simp
 obj:=fun i h st b hb=>by
  have e:b=it:=by simpa using hb
  subst e
  obtain⟨o,e,c,d⟩:=st
  exact⟨o,e,fun v z=>by rw[d] at z;cases z⟩
 keep:=fun i h h' st k=>st.at fun o e=>k it (by simp) o e
 item:=by
  intro X hP hw hK hc i pins s σ H E I hf st hg
  subst hP hw hK
  obtain⟨xs,x,hq,hx⟩:=hg
  obtain⟨its,rv,p,hz⟩:=I.tuple hq
  obtain⟨u,hu,ru⟩:=rv.get hx
  obtain⟨f0,f1,f2,f3,f4,f5⟩:=hf it (by simp)
  refine wpAny_pyNext_tuple_item st (show s.heap.IsTuple a its.toArray from p) (x:=u) (by simpa using hu) fun h' st' sb=>?_
  have I1:Inv X pins σ H { s with heap:=h' }:=I.turned (t':=s.toks) (fun b o hb e=>(sb.2 b hb).trans e) f0 f1 f3 f4 f5
  obtain⟨o,e,c,d⟩:=id st'
  exact⟨u,rfl,zHh (s:={ s with heap:=h' }) e c d (by decide) ⟨x,H,I1,ru,⟨rfl,fun ys hy=>by rw[I.zWn hy hq];exact hx⟩,st',fun b hb=>(hf b hb).1⟩⟩
 done:=by
  intro X hP hw hK hc i pins s σ H E I hf st hg
  subst hP hw hK
  obtain⟨xs,hq,hx⟩:=hg
  obtain⟨its,rv,p,hz⟩:=I.tuple hq
  obtain⟨f0,f1,f2,f3,f4,f5⟩:=hf it (by simp)
  have hl:=rv.length
  exact wpAny_pyNext_tuple_end (I.ok.hd hc) st (show s.heap.IsTuple a its.toArray from p) (by simp;omega) fun h' eb=>⟨rfl,I.turned (t':=s.toks) (fun b o hb e=>eb b o hb e) f0 f1 f3 f4 f5⟩
 self:=fun _ _ _ _ _ st h=>wpAny_pyIter_tupleiter st h
theorem zzf {P:Program}{w:World}{K:W.Frag}{tg:Expr}(it:Addr)(lo:Int)(n:Nat):Turn P w K tg (Itr lo n) [it] it (fun i h=>IsRangeIter h it (lo+(i:Nat)*1) ((n:Int)-(i:Nat)) 1) where
 mem:=by simp
 obj:=fun i h st b hb=>by
  have e:b=it:=by simpa using hb
  subst e
  exact⟨_,st,fun v z=>by
   have z':Data.fields _=Data.cell v:=z
   cases z'⟩
 keep:=fun i h h' st k=>k it (by simp) _ st
 item:=by
  intro X hP hw hK hc i pins s σ H E I hf st hg
  subst hP hw hK
  obtain⟨f0,f1,f2,f3,f4,f5⟩:=hf it (by simp)
  have W:=Walks.range (prog:=X.prog) (w:=X.w) (I.ok.hd hc) it lo 1 n
  refine W.item i s _ _ hg st fun v h' tk hv st' kk=>?_
  obtain⟨t,rfl⟩:=hv
  have I1:Inv X pins σ H { s with heap:=h',toks:=tk }:=I.turned (fun b o hb e=>kk b o (by simpa using hb) e) f0 f1 f3 f4 f5
  refine⟨_,rfl,zHh (s:={ s with heap:=h',toks:=tk }) (n:="range_iterator") st' rfl rfl (by decide) ⟨.int (lo+i),H,I1,⟨t,?_⟩,⟨rfl,rfl⟩,st',fun b hb=>(hf b hb).1⟩⟩
  rw[Int.mul_one]
 done:=by
  intro X hP hw hK hc i pins s σ H E I hf st hg
  subst hP hw hK
  obtain⟨f0,f1,f2,f3,f4,f5⟩:=hf it (by simp)
  exact wpAny_pyNext_range_end (I.ok.hd hc) st (by have:n<=i:=hg;omega) fun h' eb=>⟨rfl,I.turned (t':=s.toks) (fun b o hb e=>eb b o hb e) f0 f1 f3 f4 f5⟩
 self:=fun _ _ _ _ _ st h=>wpAny_pyIter_rangeiter st h
section
variable {X:Cx}{tg:Expr}
def zCm (K:W.Frag)(tl:TE):TI:=fun σ H R=>tl σ H fun x H1=>∃a,x=.ref a/\(∃xs,SqL K H1 a xs)/\R (Itl K a) H1
def iTup (K:W.Frag)(tl:TE):TI:=fun σ H R=>tl σ H fun x H1=>∃a,x=.ref a/\(∃xs,SqT K H1 a xs)/\R (Itt K a) H1
theorem zja {l:Expr}{tl:TE}(hl:PE X l tl):PI X tg l (zCm X.K tl):=by
 intro pins s σ H R I h
 refine thn (hl pins s σ H _ I h) fun v s1 hq9=>?_
 obtain⟨x,H1,I1,r1,q1⟩:=hq9
 obtain⟨a,e,⟨xs,hq⟩,q⟩:=q1
 subst e
 cases r1
 obtain⟨its,rv,p,hz⟩:=I1.list hq
 refine wpAny_pyIter_list p.isList ?_
 refine⟨s1.heap.objs.size,[s1.heap.objs.size],_,_,H1,rfl,I1.kept (t':=s1.toks) fun b o e=>Heap.get?_push_of_some _ e,zZf a _,⟨_,Heap.get?_push_size _ rfl,rfl,rfl⟩,fun b hb=>?_,q⟩
 have e:b=s1.heap.objs.size:=by simpa using hb
 subst e
 exact I1.zxo (Nat.le_refl _) (I1.hok.fresh (Nat.le_refl _))
theorem zkc {l:Expr}{tl:TE}(hl:PE X l tl):PI X tg l (iTup X.K tl):=by
 intro pins s σ H R I h
 refine thn (hl pins s σ H _ I h) fun v s1 hq9=>?_
 obtain⟨x,H1,I1,r1,q1⟩:=hq9
 obtain⟨a,e,⟨xs,hq⟩,q⟩:=q1
 subst e
 cases r1
 obtain⟨its,rv,p,hz⟩:=I1.tuple hq
 refine wpAny_pyIter_tuple (show s1.heap.IsTuple a its.toArray from p) ?_
 refine⟨s1.heap.objs.size,[s1.heap.objs.size],_,_,H1,rfl,I1.kept (t':=s1.toks) fun b o e=>Heap.get?_push_of_some _ e,zyf a _,⟨_,Heap.get?_push_size _ rfl,rfl,rfl⟩,fun b hb=>?_,q⟩
 have e:b=s1.heap.objs.size:=by simpa using hb
 subst e
 exact I1.zxo (Nat.le_refl _) (I1.hok.fresh (Nat.le_refl _))
theorem zSe {pins:zT2}{σ:St}{H:Hp}{s:Shared}{R:It->Hp->Prop}{E:zE1}{lo hi:Int}{t u v:Tok}{tk:Nat}(I:Inv X pins σ H s)(h1:-(2 ^ 62)<=lo)(h2:lo<2 ^ 62)(h3:-(2 ^ 62)<=hi)(h4:hi<2 ^ 62)
  (q:R (Itr lo (hi-lo).toNat) H):wpAny (model X.prog X.w) X.A (pyIter (.ref s.heap.objs.size)) (PIE X pins σ tg R) E { s with heap:=s.heap.push { cls:=.type "range",data:=.fields #[.int lo t,.int hi u,.int 1 v] },toks:=tk }:=by
 refine wpAny_pyIter_range (IsRange.new ..) (small_one h1 h2 h3 h4) ?_
 have I1:Inv X pins σ H { s with heap:=s.heap.push { cls:=.type "range",data:=.fields #[.int lo t,.int hi u,.int 1 v] },toks:=tk }:=I.kept fun b o e=>Heap.get?_push_of_some _ e
 refine⟨(s.heap.push { cls:=.type "range",data:=.fields #[.int lo t,.int hi u,.int 1 v] }).objs.size,[(s.heap.push { cls:=.type "range",data:=.fields #[.int lo t,.int hi u,.int 1 v] }).objs.size],_,_,H,rfl,
  I1.kept (t':=tk) fun b o e=>Heap.get?_push_of_some _ e,zzf _ lo (hi-lo).toNat,?_,fun b hb=>?_,q⟩
 ·have e1:lo+((0:Nat):Int)*1=lo:=by simp
  have e2:(((hi-lo).toNat:Nat):Int)-((0:Nat):Int)=Builtin.Range.rangeSize lo hi 1:=by rw[rangeSize_one];split<;>omega
  show IsRangeIter _ _ (lo+((0:Nat):Int)*1) ((((hi-lo).toNat:Nat):Int)-((0:Nat):Int)) 1
  rw[e1,e2]
  exact Heap.get?_push_size _ rfl
 ·have e:b=(s.heap.push { cls:=.type "range",data:=.fields #[.int lo t,.int hi u,.int 1 v] }).objs.size:=by simpa using hb
  subst e
  exact I1.zxo (Nat.le_refl _) (I1.hok.fresh (Nat.le_refl _))
def zDm (ta:TA):TI:=fun σ H R=>ta σ H fun vs H1=>∃j:Int,vs=[.int j]/\-(2 ^ 62)<=j/\j<2 ^ 62/\R (Itr 0 j.toNat) H1
def zEm (ta:TA):TI:=fun σ H R=>ta σ H fun vs H1=>∃i j:Int,vs=[.int i,.int j]/\(-(2 ^ 62)<=i/\i<2 ^ 62/\-(2 ^ 62)<=j/\j<2 ^ 62)/\R (Itr i (j-i).toNat) H1
theorem zZ {a:Expr}{ta:TA}{p pos:Pos}(hg:Gl X "range")(hm:X.mg "range"=none)(ha:PA X [a] ta)(hs:starEach [a] X.env=[(false,eval a X.env)]:=by rfl):PI X tg (.Call (.Name "range" p) [a] [] pos) (zDm ta):=by
 intro pins s σ H R I h
 refine Call_ (zCb I hg hm boot_range (PyProof.Rows.callWith_type1 (thn (ha pos pins s σ H _ I h) fun us s1 ⟨vs,H1,I1,r1,q1⟩=>?_) hs rfl))
 obtain⟨j,e,q1,q2,q⟩:=q1
 subst e
 cases r1 with
 |cons r rr=>
  cases rr
  obtain⟨t,rfl⟩:=r
  exact call_range_1 (zSe I1 (by omega) (by omega) q1 q2 (by simpa using q))
theorem zag {a b:Expr}{ta:TA}{p pos:Pos}(hg:Gl X "range")(hm:X.mg "range"=none)(ha:PA X [a,b] ta)(hs:starEach [a,b] X.env=[(false,eval a X.env),(false,eval b X.env)]:=by rfl)(hs2:starEach [b] X.env=[(false,eval b X.env)]:=by rfl):
  PI X tg (.Call (.Name "range" p) [a,b] [] pos) (zEm ta):=by
 intro pins s σ H R I h
 refine Call_ (zCb I hg hm boot_range (PyProof.Rows.callWith_type1 (thn (ha pos pins s σ H _ I h) fun us s1 ⟨vs,H1,I1,r1,q1⟩=>?_) (by rw[hs,hs2]) (by rw[hs2];rfl)))
 obtain⟨i,j,e,⟨q1,q2,q3,q4⟩,q⟩:=q1
 subst e
 cases r1 with
 |cons r rr=>
  cases rr with
  |cons r' rr=>
   cases rr
   obtain⟨t,rfl⟩:=r
   obtain⟨t',rfl⟩:=r'
   exact call_range_2 (zSe I1 q1 q2 q3 q4 q)
def tFor (wi:TI)(g:TG)(tb:TS):TS:=fun D σ H=>wi σ H fun J H1=>∃W:Nat->Nat->St->Hp->Prop,(∃m,W 0 m σ H1)/\∀i m σ H,W i m σ H→
 (J.stop i H/\D.nx σ H)\/(J.go i H/\∃N:St->Hp->Prop,(∀σ' H',N σ' H'->∃m',m'<m/\W (i+1) m' σ' H')/\∀x H',J.yld i H x H'->g x σ H' fun σ2 H2=>tb { D with nx:=N,ct:=N,bk:=D.nx } σ2 H2)
def zSd (fp:List Addr)(h:Heap):List (Addr×Obj):=fp.filterMap fun b=>(h.get? b).map fun o=>(b,o)
theorem zub {fp:List Addr}{h:Heap}{b:Addr}{o:Obj}(hb:b∈fp)(e:h.get? b=some o):(b,o)∈zSd fp h:=List.mem_filterMap.mpr ⟨b,hb,by rw[e];rfl⟩
theorem zbg {fp:List Addr}{h:Heap}{p:Addr×Obj}(hp:p∈zSd fp h):p.1∈fp/\h.get? p.1=some p.2:=by
 obtain⟨b,hb,e⟩:=List.mem_filterMap.mp hp
 cases q:h.get? b with
 |none=>rw[q] at e;cases e
 |some o=>
  rw[q] at e
  have e':(b,o)=p:=Option.some.inj e
  subst e'
  exact⟨hb,q⟩
theorem Inv.pinned {pins:zT2}{σ:St}{H:Hp}{s:Shared}{fp:List Addr}(I:Inv X pins σ H s)(hf:∀b∈fp,FpOk X pins H b)(ho:∀b∈fp,∃o,s.heap.get? b=some o/\∀v,o.data≠.cell v):Inv X (pins++zSd fp s.heap) σ H s:=
 I.zdo fun p hp=>(List.mem_append.mp hp).elim (fun z=>I.pin p (List.mem_append_right _ z)) fun z=>by
  obtain⟨hb,e⟩:=zbg z
  obtain⟨f0,f1,f2,_⟩:=hf p.1 hb
  obtain⟨o,e',d⟩:=ho p.1 hb
  rw[e] at e';cases e'
  exact⟨e,f0,f1,f2,d⟩
theorem Inv.zZn {pins pl:zT2}{σ:St}{H:Hp}{s:Shared}(I:Inv X (pins++pl) σ H s):Inv X pins σ H s:=I.zdo fun p hp=>I.pin p (List.mem_append_right _ (List.mem_append_left _ hp))
theorem zta {iter:Expr}{body:List Stmt}{wi:TI}{g:TG}{tb:TS}{pos:Pos}(hp:PassesOwn (model X.prog X.w) X.A X.env X.xe)(hc:X.calm=true)(hi:PI X tg iter wi)(hg:PG X tg g)(hb:PSs X body tb)
  (hs:∀x,foldedSetIterable iter X.env x=pure x:=by intro _;rfl):PS X (.For tg iter body [] pos) (tFor wi g tb):=by
 intro pins s σ H D I h
 refine wpAny_For (thn (hi pins s σ H _ I h) fun v s1 h1=>thn h1 fun itv s2 h2=>?_) hs
 obtain⟨it,fp,tn,J,H2,e,I2,T,st2,f2,W,⟨m0,w0⟩,turn⟩:=h2
 subst e
 have stat:∀{H':Hp},(∀b∈fp,H' b=none)->∀b∈fp,FpOk X pins H' b:=fun hn b hb=>⟨hn b hb,(f2 b hb).2⟩
 refine codeAny_forLoop_any (fun n s'=>∃i σ' H',Inv X pins σ' H' s'/\tn i s'.heap/\(∀b∈fp,H' b=none)/\W i n σ' H') ?_ m0 ⟨0,σ,H2,I2,st2,fun b hb=>(f2 b hb).1,w0⟩
 rintro n s3 ⟨i,σ3,H3,I3,st3,fr3,w3⟩
 rcases turn i n σ3 H3 w3 with⟨stop,qn⟩|⟨go,N,hN,step⟩
 ·refine wpAny_passesOwn hp (thn (T.done X rfl rfl rfl hc i pins s3 σ3 H3 X.xe I3 (stat fr3) st3 stop) fun r s4 ⟨hr,I4⟩=>?_)
  subst hr
  exact wpAny_execs_nil ⟨σ3,H3,I4,qn⟩
 ·refine wpAny_passesOwn hp (thn (T.item X rfl rfl rfl hc i pins s3 σ3 H3 X.xe I3 (stat fr3) st3 go) fun r s4 ⟨u,hr,h4⟩=>?_)
  subst hr
  refine wpAny_passesOwn hp (thn h4 fun _ s5 ⟨x,H5,I5,r5,y5,st5,fr5⟩=>?_)
  have I5':=I5.pinned (stat fr5) (T.obj _ _ st5)
  refine wpAny_passesOwn hp (thn (hg _ s5 σ3 H5 x u _ I5' r5 (step x H5 y5)) fun _ s6 ⟨σ6,H6,I6,q6⟩=>?_)
  refine wpAny_passesOwn hp (thn (hb _ s6 σ6 H6 _ I6 q6) fun f s7 q7=>?_)
  have again:∀{σ7:St}{H7:Hp},Inv X (pins++zSd fp s5.heap) σ7 H7 s7->N σ7 H7->∃m,m<n/\∃i σ' H',Inv X pins σ' H' s7/\tn i s7.heap/\(∀b∈fp,H' b=none)/\W i m σ' H':=fun {σ7 H7} I7 n7=>by
   obtain⟨m',hm,w7⟩:=hN σ7 H7 n7
   refine⟨m',hm,i+1,σ7,H7,I7.zZn,T.keep _ _ _ st5 fun b hb o e=>(I7.pin (b,o) (List.mem_append_right _ (List.mem_append_right _ (zub hb e)))).1,fun b hb=>?_,w7⟩
   obtain⟨o,e,d⟩:=T.obj _ _ st5 b hb
   exact(I7.pin (b,o) (List.mem_append_right _ (List.mem_append_right _ (zub hb e)))).2.1
  cases f with
  |next=>obtain⟨σ7,H7,I7,n7⟩:=q7;exact again I7 n7
  |cont=>obtain⟨σ7,H7,I7,n7⟩:=q7;exact again I7 n7
  |brk=>obtain⟨σ7,H7,I7,q7⟩:=q7;exact⟨σ7,H7,I7.zZn,q7⟩
  |ret v=>obtain⟨x7,σ7,H7,I7,r7,q7⟩:=q7;exact⟨x7,σ7,H7,I7.zZn,r7,q7⟩
end
theorem zrc {K:W.Frag}{a:Addr}{xs:List V}{g:TG}{tb:TS}{D:Ends}{σ:St}{H:Hp}(Pv:Nat->St->Hp->Prop)(h0:Pv 0 σ H)(hl:∀i σ H,i<=xs.length->Pv i σ H->SqL K H a xs)
  (hs:∀i x σ H,xs[i]?=some x->Pv i σ H->g x σ H fun σ2 H2=>tb { D with nx:=Pv (i+1),ct:=Pv (i+1),bk:=D.nx } σ2 H2)(hd:∀σ H,Pv xs.length σ H->D.nx σ H):
  ∃W:Nat->Nat->St->Hp->Prop,(∃m,W 0 m σ H)/\∀i m σ H,W i m σ H→
   ((Itl K a).stop i H/\D.nx σ H)\/((Itl K a).go i H/\∃N:St->Hp->Prop,(∀σ' H',N σ' H'->∃m',m'<m/\W (i+1) m' σ' H')/\∀x H',(Itl K a).yld i H x H'->g x σ H' fun σ2 H2=>tb { D with nx:=N,ct:=N,bk:=D.nx } σ2 H2):=by
 refine⟨fun i m σ H=>m=xs.length-i/\i<=xs.length/\Pv i σ H,⟨xs.length,by simp,Nat.zero_le _,h0⟩,?_⟩
 rintro i m σ H ⟨rfl,hi,p⟩
 have q:=hl i σ H hi p
 by_cases hlt:i<xs.length
 ·refine .inr ⟨⟨xs,xs[i],q,by simp[hlt]⟩,Pv (i+1),fun σ' H' p'=>⟨xs.length-(i+1),by omega,rfl,hlt,p'⟩,fun x H' y=>?_⟩
  obtain⟨e,y⟩:=y
  subst e
  exact hs i x σ _ (y xs q) p
 ·have e:i=xs.length:=by omega
  subst e
  exact .inl ⟨⟨xs,q,Nat.le_refl _⟩,hd σ H p⟩
theorem zcg {K:W.Frag}{a:Addr}{xs:List V}{g:TG}{tb:TS}{D:Ends}{σ:St}{H:Hp}(Pv:Nat->St->Hp->Prop)(h0:Pv 0 σ H)(hl:∀i σ H,i<=xs.length->Pv i σ H->SqT K H a xs)
  (hs:∀i x σ H,xs[i]?=some x->Pv i σ H->g x σ H fun σ2 H2=>tb { D with nx:=Pv (i+1),ct:=Pv (i+1),bk:=D.nx } σ2 H2)(hd:∀σ H,Pv xs.length σ H->D.nx σ H):
  ∃W:Nat->Nat->St->Hp->Prop,(∃m,W 0 m σ H)/\∀i m σ H,W i m σ H→
   ((Itt K a).stop i H/\D.nx σ H)\/((Itt K a).go i H/\∃N:St->Hp->Prop,(∀σ' H',N σ' H'->∃m',m'<m/\W (i+1) m' σ' H')/\∀x H',(Itt K a).yld i H x H'->g x σ H' fun σ2 H2=>tb { D with nx:=N,ct:=N,bk:=D.nx } σ2 H2):=by
 refine⟨fun i m σ H=>m=xs.length-i/\i<=xs.length/\Pv i σ H,⟨xs.length,by simp,Nat.zero_le _,h0⟩,?_⟩
 rintro i m σ H ⟨rfl,hi,p⟩
 have q:=hl i σ H hi p
 by_cases hlt:i<xs.length
 ·refine .inr ⟨⟨xs,xs[i],q,by simp[hlt]⟩,Pv (i+1),fun σ' H' p'=>⟨xs.length-(i+1),by omega,rfl,hlt,p'⟩,fun x H' y=>?_⟩
  obtain⟨e,y⟩:=y
  subst e
  exact hs i x σ _ (y xs q) p
 ·have e:i=xs.length:=by omega
  subst e
  exact .inl ⟨⟨xs,q,Nat.le_refl _⟩,hd σ H p⟩
theorem zma {lo:Int}{n:Nat}{g:TG}{tb:TS}{D:Ends}{σ:St}{H:Hp}(Pv:Nat->St->Hp->Prop)(h0:Pv 0 σ H)
  (hs:∀i σ H,i<n->Pv i σ H->g (.int (lo+i)) σ H fun σ2 H2=>tb { D with nx:=Pv (i+1),ct:=Pv (i+1),bk:=D.nx } σ2 H2)(hd:∀σ H,Pv n σ H->D.nx σ H):
  ∃W:Nat->Nat->St->Hp->Prop,(∃m,W 0 m σ H)/\∀i m σ H,W i m σ H→
   ((Itr lo n).stop i H/\D.nx σ H)\/((Itr lo n).go i H/\∃N:St->Hp->Prop,(∀σ' H',N σ' H'->∃m',m'<m/\W (i+1) m' σ' H')/\∀x H',(Itr lo n).yld i H x H'->g x σ H' fun σ2 H2=>tb { D with nx:=N,ct:=N,bk:=D.nx } σ2 H2):=by
 refine⟨fun i m σ H=>m=n-i/\i<=n/\Pv i σ H,⟨n,by simp,Nat.zero_le _,h0⟩,?_⟩
 rintro i m σ H ⟨rfl,hi,p⟩
 by_cases hlt:i<n
 ·refine .inr ⟨hlt,Pv (i+1),fun σ' H' p'=>⟨n-(i+1),by omega,rfl,hlt,p'⟩,fun x H' y=>?_⟩
  obtain⟨e,y⟩:=y
  subst e y
  exact hs i σ _ hlt p
 ·have e:i=n:=by omega
  subst e
  exact .inl ⟨Nat.le_refl _,hd σ H p⟩
abbrev R2:=V->V->Hp->VK->Prop
def OpR (X:Cx)(f:Value->Value->Sem Value)(r:R2):Prop:=
 ∀(pins:zT2)(s:Shared)(σ:St)(H:Hp)(x y:V)(v u:Value)(Q:VK),Inv X pins σ H s->RelV x v->RelV y u->r x y H Q→
  wpAny (model X.prog X.w) X.A (f v u) (EP X pins σ Q) X.xe s
def UnR (X:Cx)(f:Value->Sem Value)(r:V->Hp->VK->Prop):Prop:=
 ∀(pins:zT2)(s:Shared)(σ:St)(H:Hp)(x:V)(v:Value)(Q:VK),Inv X pins σ H s->RelV x v->r x H Q→
  wpAny (model X.prog X.w) X.A (f v) (EP X pins σ Q) X.xe s
def zSb (X:Cx)(f:Value)(r:List V->Hp->VK->Prop):Prop:=
 ∀(pins:zT2)(s:Shared)(σ:St)(H:Hp)(xs:List V)(us:List Value)(Q:VK),Inv X pins σ H s->Vals xs us->r xs H Q→
  wpAny (model X.prog X.w) X.A (call f us) (EP X pins σ Q) X.xe s
def tOp (r:R2)(ta tb:TE):TE:=fun σ H Q=>ta σ H fun x H1=>tb σ H1 fun y H2=>r x y H2 Q
def tUn (r:V->Hp->VK->Prop)(ta:TE):TE:=fun σ H Q=>ta σ H fun x H1=>r x H1 Q
def rI (C:Int->Int->Prop)(g:Int->Int->V):R2:=fun x y H Q=>∃i j,x=.int i/\y=.int j/\C i j/\Q (g i j) H
def rI0 (g:Int->Int->V):R2:=fun x y H Q=>∃i j,x=.int i/\y=.int j/\Q (g i j) H
def rU (g:Int->V):V->Hp->VK->Prop:=fun x H Q=>∃i,x=.int i/\Q (g i) H
section
variable {X:Cx}{a b c:Expr}{ta tb tc:TE}{pos:Pos}
theorem binT (ha:PE X a ta)(hb:PE X b tb){pins:zT2}{s:Shared}{σ:St}{H:Hp}{R:V->V->Hp->Prop}(I:Inv X pins σ H s)
  (h:ta σ H fun x H1=>tb σ H1 fun y H2=>R x y H2){Q:zE1}{f:Value->Value->Sem Value}
  (hf:∀v u s2 x y H2,Inv X pins σ H2 s2->RelV x v->RelV y u->R x y H2->wpAny (model X.prog X.w) X.A (f v u) Q X.xe s2):
  wpAny (model X.prog X.w) X.A (eval a X.env) (fun v s₁=>wpAny (model X.prog X.w) X.A (eval b X.env) (fun u s₂=>wpAny (model X.prog X.w) X.A (f v u) Q X.xe s₂) X.xe s₁) X.xe s:=by
 refine thn (ha pins s σ H _ I h) fun v s1 hq9=>?_
 obtain⟨x,H1,I1,r1,q1⟩:=hq9
 refine thn (hb pins s1 σ H1 _ I1 q1) fun u s2 hq9=>?_
 obtain⟨y,H2,I2,r2,q2⟩:=hq9
 exact hf v u s2 x y H2 I2 r1 r2 q2
theorem zz {op:Operator}{r:R2}(ho:OpR X (binaryOp op) r)(ha:PE X a ta)(hb:PE X b tb):PE X (.BinOp a op b pos) (tOp r ta tb):=by
 intro pins s σ H Q I h
 exact wpAny_BinOp (binT ha hb I h fun v u s2 x y H2 I2 rx ry q=>ho pins s2 σ H2 x y v u Q I2 rx ry q)
theorem zAf {op:UnaryOp}{r:V->Hp->VK->Prop}(ho:UnR X (unaryOp op) r)(ha:PE X a ta):PE X (.UnaryOp op a pos) (tUn r ta):=by
 intro pins s σ H Q I h
 exact UnaryOp_ (thn (ha pins s σ H _ I h) fun v s1 ⟨x,H1,I1,r1,q1⟩=>ho pins s1 σ H1 x v Q I1 r1 q1)
theorem opI {f:Value->Value->Sem Value}{C:Int->Int->Prop}{g:Int->Int->Int}
  (rule:∀(i j:Int)(t u:Tok)(s:Shared)(Q:zE1)(E:zE1),C i j->Q (.int (g i j) s.toks) { s with toks:=s.toks+1 }->wpAny (model X.prog X.w) X.A (f (.int i t) (.int j u)) Q E s):
  OpR X f (rI C fun i j=>.int (g i j)):=by
 intro pins s σ H x y v u Q I rx ry h
 obtain⟨i,j,rfl,rfl,hc,q⟩:=h
 obtain⟨t,rfl⟩:=rx
 obtain⟨t',rfl⟩:=ry
 exact rule i j t t' s _ _ hc ⟨.int (g i j),H,I.tok _,⟨_,rfl⟩,q⟩
theorem opI0 {f:Value->Value->Sem Value}{g:Int->Int->Int}
  (rule:∀(i j:Int)(t u:Tok)(s:Shared)(Q:zE1)(E:zE1),Q (.int (g i j) s.toks) { s with toks:=s.toks+1 }->wpAny (model X.prog X.w) X.A (f (.int i t) (.int j u)) Q E s):
  OpR X f (rI0 fun i j=>.int (g i j)):=by
 intro pins s σ H x y v u Q I rx ry h
 obtain⟨i,j,rfl,rfl,q⟩:=h
 obtain⟨t,rfl⟩:=rx
 obtain⟨t',rfl⟩:=ry
 exact rule i j t t' s _ _ ⟨.int (g i j),H,I.tok _,⟨_,rfl⟩,q⟩
theorem opB0 {f:Value->Value->Sem Value}{g:Int->Int->Bool}
  (rule:∀(i j:Int)(t u:Tok)(s:Shared)(Q:zE1)(E:zE1),Q (.bool (g i j)) s->wpAny (model X.prog X.w) X.A (f (.int i t) (.int j u)) Q E s):
  OpR X f (rI0 fun i j=>.bl (g i j)):=by
 intro pins s σ H x y v u Q I rx ry h
 obtain⟨i,j,rfl,rfl,q⟩:=h
 obtain⟨t,rfl⟩:=rx
 obtain⟨t',rfl⟩:=ry
 exact rule i j t t' s _ _ ⟨.bl (g i j),H,I,rfl,q⟩
def CDiv (i j:Int):Prop:=0<j/\j<1073741824
def CMul (i j:Int):Prop:=(-(2 ^ 64)<i/\i<2 ^ 64)\/(-(2 ^ 64)<j/\j<2 ^ 64)
theorem CMul.ok {i j:Int}(h:CMul i j):IntMulOk i j:=by
 rcases h with⟨h1,h2⟩|⟨h1,h2⟩
 ·exact .of_left (intBits_le_64 h1 h2)
 ·exact .of_right (intBits_le_64 h1 h2)
theorem zSa:OpR X (binaryOp .Add) (rI0 fun i j=>.int (i+j)):=opI0 fun _ _ _ _ _ _ _ q=>add_int q
theorem zRi:OpR X (binaryOp .Sub) (rI0 fun i j=>.int (i-j)):=opI0 fun _ _ _ _ _ _ _ q=>sub_int q
theorem zTb:OpR X (binaryOp .Mult) (rI CMul fun i j=>.int (i*j)):=opI fun _ _ _ _ _ _ _ hc q=>mul_int q hc.ok
theorem zN:OpR X (binaryOp .FloorDiv) (rI CDiv fun i j=>.int (i / j)):=opI fun i j _ _ _ _ _ hc q=>by
 have h1:(0:Int)<j:=hc.1
 have h2:j<1073741824:=hc.2
 exact floordiv_int (by omega) (by rw[Int.fdiv_eq_ediv_of_nonneg i (by omega)];exact q) (.inl (PyProof.noPylong_small (by omega)))
theorem zR:OpR X (binaryOp .Mod) (rI (fun _ j=>0<j) fun i j=>.int (i%j)):=opI fun i j _ _ _ _ _ hc q=>by
 have h1:(0:Int)<j:=hc
 exact mod_int' (by omega) (by rw[Int.fmod_eq_emod_of_nonneg i (by omega)];exact q)
theorem unI {f:Value->Sem Value}{g:Int->Int}
  (rule:∀(i:Int)(t:Tok)(s:Shared)(Q:zE1)(E:zE1),Q (.int (g i) s.toks) { s with toks:=s.toks+1 }->wpAny (model X.prog X.w) X.A (f (.int i t)) Q E s):
  UnR X f (rU fun i=>.int (g i)):=by
 intro pins s σ H x v Q I rx h
 obtain⟨i,rfl,q⟩:=h
 obtain⟨t,rfl⟩:=rx
 exact rule i t s _ _ ⟨.int (g i),H,I.tok _,⟨_,rfl⟩,q⟩
theorem zVc:UnR X (unaryOp .USub) (rU fun i=>.int (-i)):=unI fun _ _ _ _ _ q=>neg_int q
end
def scal:V->V->Bool
 |.non,.non=>true | .non,.int _=>true | .int _,.non=>true | .non,.bl _=>true | .bl _,.non=>true | .non,.str _=>true | .str _,.non=>true
 |.int _,.int _=>true | .bl _,.bl _=>true | .str _,.str _=>true | .byt _,.byt _=>true
 |.int _,.str _=>true | .str _,.int _=>true | .bl _,.str _=>true | .str _,.bl _=>true
 |_,_=>false
def rEq:R2:=fun x y H Q=>scal x y=true/\Q (.bl (decide (x=y))) H
def rNe:R2:=fun x y H Q=>scal x y=true/\Q (.bl (!decide (x=y))) H
theorem zdg {i j:Int}:decide (V.int i=V.int j)=(i==j):=by
 rw[Bool.eq_iff_iff]
 simp
theorem zSi {i j:Bool}:decide (V.bl i=V.bl j)=(i==j):=by
 rw[Bool.eq_iff_iff]
 simp
theorem dec_str {i j:Str}:decide (V.str i=V.str j)=(i==j):=by
 rw[Bool.eq_iff_iff]
 simp
theorem zeg {i j:Array UInt8}:decide (V.byt i=V.byt j)=(i.toList==j.toList):=by
 rw[Bool.eq_iff_iff]
 cases i
 cases j
 simp
section
variable {X:Cx}{a b c:Expr}{ta tb tc:TE}{pos:Pos}
theorem zO {pins:zT2}{σ:St}{H:Hp}{s:Shared}{Q:VK}{k k':Bool}(I:Inv X pins σ H s)(q:Q (.bl k) H)(e:k=k'):EP X pins σ Q (.bool k') s:=by
 subst e
 exact⟨.bl k,H,I,rfl,q⟩
theorem zV:OpR X (compareOp .Eq) rEq:=by
 intro pins s σ H x y v u Q I rx ry h
 obtain⟨hs,q⟩:=h
 cases x with
 |non=>
  cases rx
  cases y with
  |non=>cases ry;exact PySem.EqNone.eq_none_none (zO I q (by simp))
  |bl j=>cases ry;exact PySem.EqNone.eq_none_bool (zO I q (by simp))
  |int j=>obtain⟨t',rfl⟩:=ry;exact PySem.EqNone.eq_none_int (zO I q (by simp))
  |str j=>obtain⟨t',rfl⟩:=ry;exact PySem.EqNone.eq_none_str (zO I q (by simp))
  |_=>exact absurd (show false=true from hs) Bool.false_ne_true
 |bl i=>
  cases rx
  cases y with
  |non=>cases ry;exact PySem.EqNone.eq_bool_none (zO I q (by simp))
  |bl j=>cases ry;exact eq_bool (zO I q zSi)
  |str j=>obtain⟨t',rfl⟩:=ry;exact PySem.EqMixed.eq_bool_str (zO I q (by simp))
  |_=>exact absurd (show false=true from hs) Bool.false_ne_true
 |int i=>
  obtain⟨t,rfl⟩:=rx
  cases y with
  |non=>cases ry;exact PySem.EqNone.eq_int_none (zO I q (by simp))
  |int j=>obtain⟨t',rfl⟩:=ry;exact eq_int (zO I q zdg)
  |str j=>obtain⟨t',rfl⟩:=ry;exact PySem.EqMixed.eq_int_str (zO I q (by simp))
  |_=>exact absurd (show false=true from hs) Bool.false_ne_true
 |str i=>
  obtain⟨t,rfl⟩:=rx
  cases y with
  |non=>cases ry;exact PySem.EqNone.eq_str_none (zO I q (by simp))
  |bl j=>cases ry;exact PySem.EqMixed.eq_str_bool (zO I q (by simp))
  |int j=>obtain⟨t',rfl⟩:=ry;exact PySem.EqMixed.eq_str_int (zO I q (by simp))
  |str j=>obtain⟨t',rfl⟩:=ry;exact eq_str (zO I q dec_str)
  |_=>exact absurd (show false=true from hs) Bool.false_ne_true
 |byt i=>
  obtain⟨t,rfl⟩:=rx
  cases y with
  |byt j=>obtain⟨t',rfl⟩:=ry;exact W.eq_bytes (zO I q zeg)
  |_=>exact absurd (show false=true from hs) Bool.false_ne_true
 |_=>cases y<;>exact absurd (show false=true from hs) Bool.false_ne_true
theorem zTd:OpR X (compareOp .NotEq) rNe:=by
 intro pins s σ H x y v u Q I rx ry h
 obtain⟨hs,q⟩:=h
 cases x with
 |non=>
  cases rx
  cases y with
  |non=>cases ry;exact PySem.EqNone.ne_none_none (zO I q (by simp))
  |bl j=>cases ry;exact PySem.EqNone.ne_none_bool (zO I q (by simp))
  |int j=>obtain⟨t',rfl⟩:=ry;exact PySem.EqNone.ne_none_int (zO I q (by simp))
  |str j=>obtain⟨t',rfl⟩:=ry;exact PySem.EqNone.ne_none_str (zO I q (by simp))
  |_=>exact absurd (show false=true from hs) Bool.false_ne_true
 |bl i=>
  cases rx
  cases y with
  |non=>cases ry;exact PySem.EqNone.ne_bool_none (zO I q (by simp))
  |bl j=>cases ry;exact ne_bool (zO I q (congrArg not zSi))
  |str j=>obtain⟨t',rfl⟩:=ry;exact PySem.EqMixed.ne_bool_str (zO I q (by simp))
  |_=>exact absurd (show false=true from hs) Bool.false_ne_true
 |int i=>
  obtain⟨t,rfl⟩:=rx
  cases y with
  |non=>cases ry;exact PySem.EqNone.ne_int_none (zO I q (by simp))
  |int j=>obtain⟨t',rfl⟩:=ry;exact ne_int (zO I q (congrArg not zdg))
  |str j=>obtain⟨t',rfl⟩:=ry;exact PySem.EqMixed.ne_int_str (zO I q (by simp))
  |_=>exact absurd (show false=true from hs) Bool.false_ne_true
 |str i=>
  obtain⟨t,rfl⟩:=rx
  cases y with
  |non=>cases ry;exact PySem.EqNone.ne_str_none (zO I q (by simp))
  |bl j=>cases ry;exact PySem.EqMixed.ne_str_bool (zO I q (by simp))
  |int j=>obtain⟨t',rfl⟩:=ry;exact PySem.EqMixed.ne_str_int (zO I q (by simp))
  |str j=>obtain⟨t',rfl⟩:=ry;exact ne_str (zO I q (congrArg not dec_str))
  |_=>exact absurd (show false=true from hs) Bool.false_ne_true
 |byt i=>
  obtain⟨t,rfl⟩:=rx
  cases y with
  |byt j=>obtain⟨t',rfl⟩:=ry;exact W.ne_bytes (zO I q (congrArg not zeg))
  |_=>exact absurd (show false=true from hs) Bool.false_ne_true
 |_=>cases y<;>exact absurd (show false=true from hs) Bool.false_ne_true
theorem zoj:OpR X (compareOp .Lt) (rI0 fun i j=>.bl (decide (i<j))):=opB0 fun _ _ _ _ _ _ _ q=>lt_int q
theorem zRc:OpR X (compareOp .LtE) (rI0 fun i j=>.bl (decide (i<=j))):=opB0 fun _ _ _ _ _ _ _ q=>le_int q
theorem zld:OpR X (compareOp .Gt) (rI0 fun i j=>.bl (decide (j<i))):=opB0 fun _ _ _ _ _ _ _ q=>gt_int q
theorem zUd:OpR X (compareOp .In) (fun x y H Q=>∃i j,x=.str i/\y=.str j/\Q (.bl (!(Builtin.Str.occurrences j i 0 j.length 1).isEmpty)) H):=by
 intro pins s σ H x y v u Q I rx ry h
 obtain⟨i,j,rfl,rfl,q⟩:=h
 obtain⟨t,rfl⟩:=rx
 obtain⟨t',rfl⟩:=ry
 exact in_str (zO I q rfl)
theorem zVd:OpR X (compareOp .Is) (fun x y H Q=>y=.non/\Q (.bl (decide (x=.non))) H):=by
 intro pins s σ H x y v u Q I rx ry h
 obtain⟨rfl,q⟩:=h
 cases ry
 refine is_none_gen (zO I q ?_)
 cases x<;>first
  | (cases rx;rfl)
  | (obtain⟨t,rfl⟩:=rx;rfl)
theorem zu (b:Expr){op:CmpOp}(h:op≠.In:=by decide)(h2:op≠.NotIn:=by decide):behindInMarks op b=false:=by
 have e1:(op==CmpOp.In)=false:=by cases op<;>first|rfl|exact absurd rfl h
 have e2:(op==CmpOp.NotIn)=false:=by cases op<;>first|rfl|exact absurd rfl h2
 cases b<;>simp[behindInMarks,e1,e2]
theorem zQ {op:CmpOp}{r:R2}(ho:OpR X (compareOp op) r)(ha:PE X a ta)(hb:PE X b tb)(hm:behindInMarks op b=false):PE X (.Compare a [op] [b] pos) (tOp r ta tb):=by
 intro pins s σ H Q I h
 exact wpAny_Compare1 (binT ha hb I h fun v u s2 x y H2 I2 rx ry q=>ho pins s2 σ H2 x y v u Q I2 rx ry q) hm
def zVk (t:TE):TT:=fun σ H Q=>t σ H fun x H'=>∃k,x=.bl k/\Q k H'
theorem zr {op:CmpOp}{r:R2}(ho:OpR X (compareOp op) r)(ha:PE X a ta)(hb:PE X b tb)(hm:behindInMarks op b=false):PT X (.Compare a [op] [b] pos) (zVk (tOp r ta tb)):=by
 intro pins s σ H Q I h
 refine wpAny_isTrue_Compare1 (thn (ha pins s σ H _ I h) fun v s1 ⟨x,H1,I1,r1,q1⟩=>thn (hb pins s1 σ H1 _ I1 q1) fun u s2 ⟨y,H2,I2,r2,q2⟩=>
  thn (ho pins s2 σ H2 x y v u _ I2 r1 r2 q2) fun c s3 ⟨z,H3,I3,r3,k,e,q3⟩=>?_) hm
 subst e
 cases r3
 exact wpAny_truthy_bool ⟨H3,I3,q3⟩
def zWk (r r':R2)(ta tb tc:TE):TE:=fun σ H Q=>ta σ H fun x H1=>tb σ H1 fun y H2=>r x y H2 fun z H3=>∃k,z=.bl k∧
 (if k=true then tc σ H3 fun w' H4=>r' y w' H4 Q else Q (.bl false) H3)
theorem zmd {op op':CmpOp}{r r':R2}(ho:OpR X (compareOp op) r)(ho':OpR X (compareOp op') r')(ha:PE X a ta)(hb:PE X b tb)(hc:PE X c tc)
  (hm:lastMarks [op,op'] [b,c]=false:=by with_unfolding_all rfl):PT X (.Compare a [op,op'] [b,c] pos) (zVk (zWk r r' ta tb tc)):=by
 intro pins s σ H Q I h
 refine isTrue_chain (thn (ha pins s σ H _ I h) fun v s1 ⟨x,H1,I1,r1,q1⟩=>test_link (thn (hb pins s1 σ H1 _ I1 q1) fun u s2 ⟨y,H2,I2,r2,q2⟩=>
  thn (ho pins s2 σ H2 x y v u _ I2 r1 r2 q2) fun d s3 ⟨z,H3,I3,r3,k,e,q3⟩=>?_)) hm
 subst e
 cases r3
 refine wpAny_truthy_bool ?_
 cases k with
 |false=>
  obtain⟨k',e',q'⟩:=q3
  cases e'
  exact ite_ff ⟨H3,I3,q'⟩
 |true=>
  refine ite_tt (test_last (thn (hc pins s3 σ H3 _ I3 q3) fun w' s4 ⟨z',H4,I4,r4,q4⟩=>thn (ho' pins s4 σ H4 y z' u w' _ I4 r2 r4 q4) fun d' s5 ⟨z2,H5,I5,r5,k2,e2,q5⟩=>?_))
  subst e2
  cases r5
  exact wpAny_truthy_bool ⟨H5,I5,q5⟩
theorem zWc:(sizeLine:Nat)<2 ^ 63:=by rw[sizeLine_eq];decide
theorem zX:OpR X (binaryOp .Add) (fun x y H Q=>∃i j,x=.str i/\y=.str j/\i.length+j.length<=sizeLine/\Q (.str (i++j)) H):=by
 intro pins s σ H x y v u Q I rx ry h
 obtain⟨i,j,rfl,rfl,hz,q⟩:=h
 obtain⟨t,rfl⟩:=rx
 obtain⟨t',rfl⟩:=ry
 exact add_str (fun t' tk=>⟨.str (i++j),H,I.tok _,⟨_,rfl⟩,q⟩) hz
theorem vals1 {x:V}{us:List Value}(r:Vals [x] us):∃u,us=[u]/\RelV x u:=by
 cases r with
 |cons r1 r2=>cases r2;exact⟨_,rfl,r1⟩
theorem vals2 {x y:V}{us:List Value}(r:Vals [x,y] us):∃u w',us=[u,w']/\RelV x u/\RelV y w':=by
 cases r with
 |cons r1 r2=>
  cases r2 with
  |cons r3 r4=>cases r4;exact⟨_,_,rfl,r1,r3⟩
theorem zWd (hc:X.calm=true):zSb X (.builtin "min") (fun xs H Q=>∃i j,xs=[.int i,.int j]/\Q (.int (if j<i then j else i)) H):=by
 intro pins s σ H xs us Q I r h
 obtain⟨i,j,rfl,q⟩:=h
 obtain⟨u,w',rfl,⟨t,rfl⟩,⟨t',rfl⟩⟩:=vals2 r
 refine min_two_ints (I.ok.hd hc) fun h' tk k=>⟨_,H,I.kept k,?_,q⟩
 by_cases hj:j<i
 ·rw[if_pos hj,if_pos hj];exact⟨_,rfl⟩
 ·rw[if_neg hj,if_neg hj];exact⟨_,rfl⟩
end
structure ObjM (h:Heap)(x dx C:Addr)(mA:zT3):Prop where
 obj:h.get? x=some (W.instObj C dx)
 ns:h.Ns1 dx mA
 ne:dx≠x
theorem zXd {h:Heap}{dx:Addr}{mA:zT3}(n:h.Ns1 dx mA):∃od,h.get? dx=some od/\∀name,W.lookIn name od=some (mA name):=by
 obtain⟨o,es,ep,ho,hd,hk,_,hm⟩:=n
 refine⟨o,ho,fun name=>?_⟩
 have e:=hm name
 unfold nsFind findBy at e
 rw[<- Array.find?_toList] at e
 unfold W.lookIn
 rw[hd]
 dsimp only
 split
 ·rename_i y q
  rw[q] at e
  exact congrArg some e
 ·rename_i q
  rw[q] at e
  have a:es.toList.any (·.refKey)=false:=by
   rw[List.any_eq_false]
   intro y hy
   obtain⟨z,t,hkey⟩:=hk y (Array.mem_toList_iff.mp hy)
   simp[DictEntry.refKey,hkey]
  have a':¬es.toList.any (·.refKey)=true:=by rw[a];exact Bool.false_ne_true
  rw[if_neg a']
  exact congrArg some e
theorem ObjM.look {h:Heap}{x dx C:Addr}{mA:zT3}(I:ObjM h x dx C mA):∃od,W.InstAt h x (W.instObj C dx) C (some od)/\∀name,W.lookIn name od=some (mA name):=
 let ⟨od,ho,hl⟩:=zXd I.ns
 ⟨od,⟨I.obj,rfl,rfl,ho⟩,hl⟩
section
variable {prog:Program}{w:World}{A:Around}{E:zE1}{s:Shared}{K:W.Frag}{x dx C f:Addr}{mA:zT3}{name:Str}{v:Value}
theorem get_map {expr:Bool}{Q:zE1}(X:K.In s.heap)(I:ObjM s.heap x dx C mA)(hg:W.plainGet K C name=true)(hh:W.hasDictIn K C=true)
  (ha:W.findIn K (.ref C) name=some none)(hv:mA name=some v)(hv':W.handedIn v=true)(h:Q v { s with toks:=s.toks+1 }):
  wpAny (model prog w) A (getAttr (.ref x) name expr) Q E s:=by
 obtain⟨od,J,hl⟩:=I.look
 exact W.get_value X J (W.plainGet_of hg).1 (W.findObj_own hh ha rfl (by rw[hl,hv])) hv' h
theorem zIh {pl:Sem Bool}{Q:Value×List Value->Shared->Prop}(X:K.In s.heap)(I:ObjM s.heap x dx C mA)(hg:W.plainGet K C name=true)
  (hf:W.findIn K (.ref C) name=some (some (.ref f)))(ht:W.isFn K (.ref f)=true)(hv:mA name=none)(h:Q (.ref f,[.ref x]) s):
  wpAny (model prog w) A (getMethod (.ref x) name pl) Q E s:=by
 obtain⟨od,J,hl⟩:=I.look
 exact W.method_fn X J (W.plainGet_of hg).1 (W.plainGet_of hg).2 hf (beq_iff_eq.mp ht) (by show(W.lookIn name od).map (·.isSome)=some false;rw[hl,hv];rfl) h
theorem zpj {ns:List Str}{Q:Unit->Shared->Prop}(X:K.In s.heap)(I:ObjM s.heap x dx C mA)
  (hs:W.findIn K (.ref C) "__setattr__"=some (some (.builtin "object.__setattr__")))(hp:W.plainOver K C=true)(ht:W.takerIn K C name=some none)(hh:W.hasDictIn K C=true)
  (hw:PySem.Within mA ns)(hsz:ns.length<=sizeLine)
  (h:∀h',ObjM h' x dx C (fun y=>if y=name then some v else mA y)->Heap.SameBut dx s.heap h'->Q () { s with heap:=h',toks:=s.toks+2 }):
  wpAny (model prog w) A (setAttr (.ref x) name v) Q E s:=by
 obtain⟨od,J,hl⟩:=I.look
 refine W.set_plain X J hs (W.osa_open (s:={ s with toks:=s.toks+1 }) (r:=none) X J hp ht fun b=>?_)
 obtain⟨cd,hc,hd'⟩:=W.any_some hh
 have hx:s.heap.get? x=some ⟨.ref C,some dx,.plain,#[]⟩:=I.obj
 refine wpAny_bind (wpAny_pure (wpAny_bind (wpAny_bind (wpAny_loadPart hx (wpAny_bind (W.Looks.here (s:={ s with toks:=s.toks+1 }) (W.looks_clsIn X hc) ?_))))))
 rw[hd']
 refine wpAny_pure (a:=some dx) (wpAny_bind (wpAny_pure (wpAny_bind ?_)))
 refine wpAny_nsSet1 (s:={ s with toks:=s.toks+1 }) I.ns fun h' hn2 hs2=>?_
 obtain⟨oD,esD,epD,hoD,hdD,hcD⟩:=hn2.count (PySem.Within.cons name v hw)
 refine wpAny_bind (wpAny_lookBehind hoD (by rw[hdD];exact pastItsLine_dict (Nat.le_trans hcD (by rw[List.length_cons];omega))) ?_)
 exact wpAny_pure (h _ ⟨(hs2.2 _ (Ne.symm I.ne)).trans I.obj,hn2,I.ne⟩ hs2)
theorem zJh {R:Result->Shared->Prop}{vs:List Value}{kw:List (Str×Value)}(X:K.In s.heap)(hm:W.makesIn K C=true)
  (hi:W.findIn K (.ref C) "__init__"=some (some (.ref f)))(hf:W.typeIn K (.ref f)=some (.type "function"))
  (h:codeAny (model prog w) (A.under (.builtin "type.__call__" ⟨.ref C::vs,kw⟩)) (.call (.ref f) ⟨.ref (s.heap.objs.size+1)::vs,kw⟩) (W.InitBack (s.heap.objs.size+1) R)
   { s with heap:=(s.heap.push W.emptyDict).push (W.instObj C s.heap.objs.size) }):
  codeAny (model prog w) A (.call (.ref C) ⟨vs,kw⟩) R s:=by
 obtain⟨hh,g,d,t,os⟩:=s
 exact W.make_core (W.makes_of X hm) (W.looks_findIn X hi) (fun self=>W.bind_fn X self hf) (.inl rfl) h
theorem zfg {R:Result->Shared->Prop}(X:K.In s.heap)(hm:W.makesIn K C=true)
  (hi:W.findIn K (.ref C) "__init__"=some (some (.builtin "object.__init__")))
  (hb:∀self,W.Looks (model prog w) s.heap (bindSpecial (.builtin "object.__init__") self) (.builtin "object.__init__",[self]))
  (h:codeAny (model prog w) (A.under (.builtin "type.__call__" ⟨[.ref C],[]⟩)) (.call (.builtin "object.__init__") ⟨[.ref (s.heap.objs.size+1)],[]⟩) (W.InitBack (s.heap.objs.size+1) R)
   { s with heap:=(s.heap.push W.emptyDict).push (W.instObj C s.heap.objs.size) }):
  codeAny (model prog w) A (.call (.ref C) ⟨[],[]⟩) R s:=by
 obtain⟨hh,g,d,t,os⟩:=s
 exact W.make_core (W.makes_of X hm) (W.looks_findIn X hi) hb (.inr ⟨rfl,rfl⟩) h
end
def putF (f:Str)(v:V):List (Str×V)->List (Str×V)
 | []=>[(f,v)]
 | (g,x)::r=>if g=f then(g,v)::r else(g,x)::putF f v r
theorem zAc (f g:Str)(v:V):∀fs:List (Str×V),(putF f v fs).lookup g=if g=f then some v else fs.lookup g
 | []=>by
  show List.lookup g [(f,v)]=_
  by_cases h:g=f
  ·have hb:(g==f)=true:=beq_iff_eq.mpr h
   simp only[List.lookup,hb,if_pos h]
  ·have hb:(g==f)=false:=beq_eq_false_iff_ne.mpr h
   simp only[List.lookup,hb,if_neg h]
 | (k,x)::r=>by
  have ih:=zAc f g v r
  rw[show putF f v ((k,x)::r)=(if k=f then(k,v)::r else(k,x)::putF f v r) from rfl]
  by_cases hk:k=f
  ·rw[if_pos hk]
   by_cases h:g=k
   ·have hb:(g==k)=true:=beq_iff_eq.mpr h
    simp only[List.lookup,hb,if_pos (h.trans hk)]
   ·have hb:(g==k)=false:=beq_eq_false_iff_ne.mpr h
    simp only[List.lookup,hb,if_neg (fun e:g=f=>h (e.trans hk.symm))]
  ·rw[if_neg hk]
   by_cases h:g=k
   ·have hb:(g==k)=true:=beq_iff_eq.mpr h
    simp only[List.lookup,hb,if_neg (fun e:g=f=>hk (h.symm.trans e))]
   ·have hb:(g==k)=false:=beq_eq_false_iff_ne.mpr h
    simp only[List.lookup,hb]
    exact ih
theorem zBc (f:Str)(v:V):∀fs:List (Str×V),f∈(putF f v fs).map (·.1)/\∀g,g∈fs.map (·.1)->g∈(putF f v fs).map (·.1)
 | []=>⟨by simp[putF],fun g h=>by simp at h⟩
 | (k,x)::r=>by
  obtain⟨i1,i2⟩:=zBc f v r
  rw[show putF f v ((k,x)::r)=(if k=f then(k,v)::r else(k,x)::putF f v r) from rfl]
  by_cases hk:k=f
  ·rw[if_pos hk]
   subst hk
   exact⟨by simp,fun g h=>by simpa using h⟩
  ·rw[if_neg hk]
   refine⟨?_,fun g h=>?_⟩
   ·rw[List.map_cons]
    exact List.mem_cons_of_mem _ i1
   ·rw[List.map_cons] at h ⊢
    rcases List.mem_cons.mp h with e|e
    ·exact List.mem_cons.mpr (.inl e)
    ·exact List.mem_cons_of_mem _ (i2 g e)
theorem zCc (f:Str)(v:V):∀fs:List (Str×V),(putF f v fs).length<=fs.length+1
 | []=>by simp[putF]
 | (k,x)::r=>by
  have ih:=zCc f v r
  rw[show putF f v ((k,x)::r)=(if k=f then(k,v)::r else(k,x)::putF f v r) from rfl]
  by_cases hk:k=f
  ·rw[if_pos hk,List.length_cons,List.length_cons];omega
  ·rw[if_neg hk,List.length_cons,List.length_cons];omega
theorem RelO.some_of {v:V}{o:Option Value}(r:RelO (some v) o):∃u,o=some u/\RelV v u:=by
 cases o with
 |none=>exact(show False from r).elim
 |some u=>exact⟨u,rfl,r⟩
theorem RelO.none_of {o:Option Value}(r:RelO none o):o=none:=by
 cases o with
 |none=>rfl
 |some u=>exact(show False from r).elim
theorem handed_of {v:V}{u:Value}(r:RelV v u):W.handedIn u=true:=by
 cases v with
 |non=>cases(show u=Value.none from r);rfl
 |bl b=>cases(show u=Value.bool b from r);rfl
 |int i=>obtain⟨t,e⟩:=(show ∃t,u=Value.int i t from r);cases e;rfl
 |str x=>obtain⟨t,e⟩:=(show ∃t,u=Value.str x t from r);cases e;rfl
 |byt b=>obtain⟨t,e⟩:=(show ∃t,u=Value.bytes b t from r);cases e;rfl
 |flt b=>obtain⟨t,e⟩:=(show ∃t,u=Value.float b t from r);cases e;rfl
 |ref a=>cases(show u=Value.ref a from r);rfl
 |ty n=>cases(show u=Value.type n from r);rfl
section
variable {P:Program}{w:World}{H H':Hp}{h h':Heap}{a C dx:Addr}{fs fs':List (Str×V)}
theorem znd (hok:HOk P w H h)(e:H a=some (.ins C dx fs)):∃mA,ObjM h a dx C mA/\(∀f,RelO (fs.lookup f) (mA f))/\PySem.Within mA (fs.map (·.1))/\fs.length<=1000/\H dx=some (.own a):=by
 obtain⟨d,z,ne,ob,mA,n,r,q⟩:=(show zqa P w H h a (.ins C dx fs) from hok a _ e)
 exact⟨mA,⟨ob,n,ne⟩,r,q,z,d⟩
end
structure Cls (K:W.Frag)(C:Addr):Prop where
 pg:W.plainGet K C Str.empty=true
 hd:W.hasDictIn K C=true
 po:W.plainOver K C=true
 sa:W.findIn K (.ref C) "__setattr__"=some (some (.builtin "object.__setattr__"))
theorem Cls.get {K:W.Frag}{C:Addr}(c:Cls K C)(f:Str):W.plainGet K C f=true:=c.pg
def zlc (K:W.Frag)(C:Addr)(f:Str):Prop:=W.findIn K (.ref C) f=some none
theorem zlc.zmo {K:W.Frag}{C:Addr}{f:Str}(n:zlc K C f):W.takerIn K C f=some none:=by
 unfold W.takerIn
 rw[show W.findIn K (.ref C) f=some none from n]
 rfl
structure Meth (K:W.Frag)(C:Addr)(m:Str)(f:Addr):Prop where
 at_:W.findIn K (.ref C) m=some (some (.ref f))
 fn:W.isFn K (.ref f)=true
 kp:W.keepIn K (.ref f)=true
section
variable {X:Cx}{pins:zT2}{σ:St}{H:Hp}{s:Shared}{a C dx:Addr}{fs:List (Str×V)}{f:Str}{v:V}{A:Around}{E:zE1}
theorem zBf {b:Bool}{Q:zE1}(I:Inv X pins σ H s)(e:H a=some (.ins C dx fs))(c:Cls X.K C)(n:zlc X.K C f)(l:fs.lookup f=some v)
  (h:∀u s',Inv X pins σ H s'->RelV v u->Q u s'):wpAny (model X.prog X.w) A (getAttr (.ref a) f b) Q E s:=by
 obtain⟨mA,O,r,_,_,_⟩:=znd I.hok e
 obtain⟨u,hu,ru⟩:=RelO.some_of (v:=v) (o:=mA f) (by rw[<- l];exact r f)
 exact get_map I.kIn O (c.get f) c.hd n hu (handed_of ru) (h u _ (I.tok _) ru)
theorem zvb {m:Str}{g:Addr}{pl:Sem Bool}{Q:Value×List Value->Shared->Prop}(I:Inv X pins σ H s)(e:H a=some (.ins C dx fs))(c:Cls X.K C)(k:Meth X.K C m g)(l:fs.lookup m=none)
  (h:Q (.ref g,[.ref a]) s):wpAny (model X.prog X.w) A (getMethod (.ref a) m pl) Q E s:=by
 obtain⟨mA,O,r,_,_,_⟩:=znd I.hok e
 have hn:mA m=none:=RelO.none_of (by rw[<- l];exact r m)
 exact zIh I.kIn O (c.get m) k.at_ k.fn hn h
theorem zCf {y:V}{u:Value}{Q:Unit->Shared->Prop}(I:Inv X pins σ H s)(e:H a=some (.ins C dx fs))(c:Cls X.K C)(n:zlc X.K C f)(hl:fs.length<1000)(ry:RelV y u)
  (h:∀s',Inv X pins σ (upd H a (.ins C dx (putF f y fs))) s'->Q () s'):wpAny (model X.prog X.w) A (setAttr (.ref a) f u) Q E s:=by
 obtain⟨mA,O,r,wi,_,ho⟩:=znd I.hok e
 have hz:(fs.map (·.1)).length<=sizeLine:=by rw[List.length_map,sizeLine_eq];omega
 refine zpj I.kIn O c.sa c.po n.zmo c.hd wi hz fun h' O' sb=>h _ ?_
 have hd:∃o,h'.get? dx=some o:=let ⟨o,_,_,e',_⟩:=O'.ns;⟨o,e'⟩
 refine I.write (x:=a) (e:=dx) (by rw[e];exact True.intro) (.inr ho) (fun b q hb z=>(sb.2 b hb).trans z) hd ?_
 refine⟨by rw[zy O.ne];exact ho,?_,O.ne,O'.obj,_,O'.ns,fun g=>?_,fun g hg=>?_⟩
 ·have:=zCc f y fs;omega
 ·show RelO ((putF f y fs).lookup g) (if g=f then some u else mA g)
  rw[zAc]
  by_cases q:g=f
  ·rw[if_pos q,if_pos q];exact ry
  ·rw[if_neg q,if_neg q];exact r g
 ·by_cases q:g=f
  ·rw[q];exact(zBc f y fs).1
  ·refine(zBc f y fs).2 g (wi g fun z=>hg ?_)
   show(if g=f then some u else mA g)=none
   rw[if_neg q];exact z
theorem Inv.made (I:Inv X pins σ H s):Inv X pins σ (upd (upd H s.heap.objs.size (.own (s.heap.objs.size+1))) (s.heap.objs.size+1) (.ins C s.heap.objs.size []))
  { s with heap:=(s.heap.push W.emptyDict).push (W.instObj C s.heap.objs.size) }:=by
 have e1:(s.heap.push W.emptyDict).get? s.heap.objs.size=some W.emptyDict:=Heap.get?_push_size s.heap rfl
 have e2:((s.heap.push W.emptyDict).push (W.instObj C s.heap.objs.size)).get? (s.heap.objs.size+1)=some (W.instObj C s.heap.objs.size):=by
  have:=Heap.get?_push_size (s.heap.push W.emptyDict) (o:=W.instObj C s.heap.objs.size) rfl
  rwa [Heap.size_push] at this
 have e3:(s.heap.push W.emptyDict).Ns s.heap.objs.size (fun _=>none):=⟨W.emptyDict,#[],_,e1,rfl,(fun e he=>absurd he (by simp)),fun _=>rfl⟩
 have I1:=I.laid (a:=s.heap.objs.size) (o:=.own (s.heap.objs.size+1)) (h':=s.heap.push W.emptyDict) (t':=s.toks) (fun b u q=>Heap.get?_push_of_some _ q) (Nat.le_refl _) ⟨_,e1⟩
 refine I1.laid (a:=s.heap.objs.size+1) (o:=.ins C s.heap.objs.size []) (t':=s.toks) (fun b u q=>Heap.get?_push_of_some _ q) (Nat.le_of_eq (Heap.size_push _ _)) ?_
 have ne:s.heap.objs.size≠s.heap.objs.size+1:=Nat.ne_of_lt (Nat.lt_succ_self _)
 refine⟨by rw[zy ne,zc],Nat.zero_le _,ne,e2,fun _=>none,(Heap.Ns1.of_empty e3).at fun o q=>Heap.get?_push_of_some _ q,fun _=>True.intro,fun y hy=>absurd rfl hy⟩
theorem zgg {prog:Program}{w:World}{env:Env}{e:Expr}{f:Str}{pos:Pos}{s:Shared}{Q:zE1}(hb:attributeBase e f env (eval e env)=eval e env)
  (h:wpAny (model prog w) A (eval e env) (fun o s₁=>wpAny (model prog w) A (getAttr o f true) Q E s₁) E s):wpAny (model prog w) A (eval (.Attribute e f pos) env) Q E s:=
 Attribute_any_ h (by rw[arm_eval_Attribute,hb])
end
def tFld (K:W.Frag)(ta:TE)(f:Str):TE:=fun σ H Q=>ta σ H fun x H1=>∃a C dx fs v,x=.ref a/\H1 a=some (.ins C dx fs)/\Cls K C/\zlc K C f/\fs.lookup f=some v/\Q v H1
def sFld (K:W.Frag)(ta tv:TE)(f:Str):TS:=fun D σ H=>tv σ H fun y H1=>ta σ H1 fun x H2=>∃a C dx fs,x=.ref a/\H2 a=some (.ins C dx fs)/\Cls K C/\zlc K C f/\fs.length<1000∧
 D.nx σ (upd H2 a (.ins C dx (putF f y fs)))
section
variable {X:Cx}{o e value:Expr}{f:Str}{pos pos' tpos:Pos}{ta tv:TE}
theorem zhg (he:PE X e ta)(hb:attributeBase e f X.env (eval e X.env)=eval e X.env):PE X (.Attribute e f pos) (tFld X.K ta f):=by
 intro pins s σ H Q I h
 refine zgg hb (thn (he pins s σ H _ I h) fun u s1 ⟨x,H1,I1,rx,a,C,dx,fs,v,ex,ea,c,n,l,q⟩=>?_)
 subst ex
 obtain rfl:u=Value.ref a:=rx
 exact zBf I1 ea c n l fun u' s2 I2 ru=>⟨v,H1,I2,ru,q⟩
theorem zTi (ha:PE X o ta)(hv:PE X value tv)(hs:swapsWith value (some (.Attribute o f pos')) pos.line X.env=pure false):PS X (.Assign [.Attribute o f pos'] value pos) (sFld X.K ta tv f):=by
 intro pins s σ H D I h
 refine plainObj_wpAny_Assign_Attribute (thn (hv pins s σ H _ I h) fun u s1 ⟨y,H1,I1,ry,q⟩=>thn (ha pins s1 σ H1 _ I1 q) fun ov s2 ⟨x,H2,I2,rx,a,C,dx,fs,ex,ea,c,n,l,q2⟩=>?_) hs
 subst ex
 obtain rfl:ov=Value.ref a:=rx
 exact zCf I2 ea c n l ry fun s3 I3=>⟨σ,_,I3,q2⟩
end
section
variable {X:Cx}{pins:zT2}{σ:St}{H:Hp}{s:Shared}{A:Around}{E:zE1}{Q:zE1}{c:Value}{b:Bool}
inductive TyOf (K:W.Frag) (H:Hp):V->Value->Prop where
 |non:TyOf K H .non (.type "NoneType")
 |bl (x:Bool):TyOf K H (.bl x) (.type "bool")
 |int (i:Int):TyOf K H (.int i) (.type "int")
 |str (x:Str):TyOf K H (.str x) (.type "str")
 |flt (x:UInt64):TyOf K H (.flt x) (.type "float")
 |lst {a:Addr} {xs:List V} (e:H a=some (.lst xs)):TyOf K H (.ref a) (.type "list")
 |frz {a:Addr} {o:Obj} {xs:List V} (e:H a=some (.frz o (.lst xs))):TyOf K H (.ref a) (.type "list")
 |tup {a:Addr} {xs:List V} (e:H a=some (.tup xs)):TyOf K H (.ref a) (.type "tuple")
 |dK {a:Addr} {kvs:List (Key×V)} (e:H a=some (.dK kvs)):TyOf K H (.ref a) (.type "dict")
 |dT {a:Addr} {kvs:List (List Key×V)} (e:H a=some (.dT kvs)):TyOf K H (.ref a) (.type "dict")
 |ins {a C dx:Addr} {fs:List (Str×V)} (e:H a=some (.ins C dx fs)) (cl:Cls K C) (ha:W.findIn K (.ref C) "__class__"=some (some (.builtin "object.__class__")))
   (hn:W.specialIn K (.builtin "object.__class__") "__get__"=some (some (.builtin "getset_descriptor.__get__"))) (htk:W.takesIn K (.builtin "object.__class__")=some true)
   (hm:W.mroIn K C (.type "object")=some true):TyOf K H (.ref a) (.ref C)
theorem zig {x:V}{u t:Value}(I:Inv X pins σ H s)(rx:RelV x u)(ty:TyOf X.K H x t)(e:W.kitOne X.K t c=some b)(h:∀tk,Q (.bool b) { s with toks:=tk }):
  wpAny (model X.prog X.w) A (call (.builtin "isinstance") [u,c]) Q E s:=by
 cases ty with
 |non=>cases(show u=Value.none from rx);exact W.kia_one W.kitx_none I.kIn True.intro e (fun z=>nomatch z) h
 |bl y=>cases(show u=Value.bool y from rx);exact W.kia_one W.kitx_bool I.kIn True.intro e (fun z=>nomatch z) h
 |int i=>obtain⟨t,q⟩:=(show ∃t,u=Value.int i t from rx);cases q;exact W.kia_one W.kitx_int I.kIn True.intro e (fun z=>nomatch z) h
 |str y=>obtain⟨t,q⟩:=(show ∃t,u=Value.str y t from rx);cases q;exact W.kia_one W.kitx_str I.kIn True.intro e (fun z=>nomatch z) h
 |flt y=>obtain⟨t,q⟩:=(show ∃t,u=Value.float y t from rx);cases q;exact W.kia_one W.kitx_float I.kIn True.intro e (fun z=>nomatch z) h
 |@lst a xs ea=>
  cases(show u=Value.ref a from rx)
  obtain⟨_,_,n,_,h1⟩:=(show zqa X.prog X.w H s.heap a (.lst xs) from I.hok a _ ea)
  exact W.kia_one W.kitx_list I.kIn ⟨_,h1,rfl⟩ e (fun z=>nomatch z) h
 |@frz a ob xs ea=>
  cases(show u=Value.ref a from rx)
  obtain⟨_,_,_,n,_,h1⟩:=(show zqa X.prog X.w H s.heap a (.frz ob (.lst xs)) from I.hok a _ ea)
  exact W.kia_one W.kitx_list I.kIn ⟨_,h1,rfl⟩ e (fun z=>nomatch z) h
 |@tup a xs ea=>
  cases(show u=Value.ref a from rx)
  obtain⟨_,_,_,p⟩:=(show zqa X.prog X.w H s.heap a (.tup xs) from I.hok a _ ea)
  obtain⟨o,h1,h2,_⟩:=p
  exact W.kia_one W.kitx_tuple I.kIn ⟨o,h1,h2⟩ e (fun z=>nomatch z) h
 |@dK a kvs ea=>
  cases(show u=Value.ref a from rx)
  obtain⟨_,_,vs,_,p⟩:=(show zqa X.prog X.w H s.heap a (.dK kvs) from I.hok a _ ea)
  obtain⟨o,es,ep,h1,h2,_⟩:=p
  exact W.kia_one W.kitx_dict I.kIn ⟨o,h1,h2.1⟩ e (fun z=>nomatch z) h
 |@dT a kvs ea=>
  cases(show u=Value.ref a from rx)
  obtain⟨_,_,xs,_,o,es,ep,h1,h2,_⟩:=(show zqa X.prog X.w H s.heap a (.dT kvs) from I.hok a _ ea)
  exact W.kia_one W.kitx_dict I.kIn ⟨o,h1,h2.1⟩ e (fun z=>nomatch z) h
 |@ins a C dx fs ea cl ha hn htk hm=>
  cases(show u=Value.ref a from rx)
  obtain⟨mA,O,_⟩:=znd I.hok ea
  obtain⟨od,J,_⟩:=O.look
  exact W.kia_one (W.kitx_own (cl.get _) cl.hd ha hn htk hm) I.kIn J e (fun z=>nomatch z) h
end
structure Room (k:Nat)(A:Around):Prop where
 hd:A.handled=none
 dp:A.depth+3*k+5<recursionLimit
 un:A.units+16*k+200<cLine
theorem Room.mono {j k:Nat}{A:Around}(r:Room k A)(h:j<=k):Room j A:=⟨r.hd,by have:=r.dp;omega,by have:=r.un;omega⟩
theorem Room.deeper {k:Nat}{A:Around}(r:Room (k+1) A)(env:Env):Room k (A.deeper env):=
 ⟨r.hd,by have:=r.dp;show A.depth+1+3*k+5<_;omega,by have:=r.un;show A.units+3+16*k+200<_;omega⟩
theorem zDf {A:Around}{C:Addr}{us:List Value}{kw:List (Str×Value)}:(A.under (.builtin "type.__call__" ⟨.ref C::us,kw⟩)).depth=A.depth+1:=by
 first|rfl|simp[Around.under,Code.weight,Code.isCreation,Code.isGuard,Code.isCaller,Code.frames,Code.isFrame,guardIds]
theorem zEf {A:Around}{C:Addr}{us:List Value}{kw:List (Str×Value)}:(A.under (.builtin "type.__call__" ⟨.ref C::us,kw⟩)).units=A.units+1:=by
 first|rfl|simp[Around.under,Code.cUnits,Code.frames,Code.isFrame]
theorem Room.make {k:Nat}{A:Around}(r:Room (k+1) A)(C:Addr)(us:List Value)(kw:List (Str×Value)):Room k (A.under (.builtin "type.__call__" ⟨.ref C::us,kw⟩)):=
 ⟨r.hd,by have:=r.dp;rw[zDf];omega,by have:=r.un;rw[zEf];omega⟩
theorem Room.depth {k:Nat}{A:Around}(r:Room k A):A.depth<recursionLimit:=by have:=r.dp;omega
theorem Room.units {k:Nat}{A:Around}(r:Room k A):A.units+64<cLine:=by have:=r.un;omega
def tNil:TA:=fun _ H Q=>Q [] H
def zFm (ta:TE)(tr:TA):TA:=fun σ H Q=>ta σ H fun x H1=>tr σ H1 fun xs H2=>Q (x::xs) H2
section
variable {X:Cx}{e:Expr}{es:List Expr}{te:TE}{t:TA}{pos:Pos}
theorem zd:PA X [] tNil:=fun _ _ _ _ H Q I h=>Calls.spliced_nil ⟨[],H,I,.nil,h⟩
theorem za (ha:PE X e te)(hr:PA X es t)(hs:starEach (e::es) X.env=(false,eval e X.env)::starEach es X.env:=by rfl):PA X (e::es) (zFm te t):=by
 intro pos pins s σ H Q I h
 rw[hs]
 show wpAny _ _ (spliced ((false,eval e X.env)::backTo pos (starEach es X.env))) _ _ s
 refine Calls.spliced_cons (thn (ha pins s σ H _ I h) fun u s1 ⟨x,H1,I1,r1,q1⟩=>?_)
 exact thn (hr pos pins s1 σ H1 _ I1 q1) fun us s2 ⟨xs,H2,I2,r2,q2⟩=>⟨x::xs,H2,I2,.cons r1 r2,q2⟩
def tTup (t:TA):TE:=fun σ H Q=>t σ H fun xs H1=>xs.length<=sizeLine/\∀p,H1 p=none->Q (.ref p) (upd H1 p (.tup xs))
def tLst (t:TA):TE:=fun σ H Q=>t σ H fun xs H1=>xs.length<=sizeLine/\∀p,H1 p=none->Q (.ref p) (upd H1 p (.lst xs))
theorem zua {x1}(h:PA X es t):PE X (.Tuple es x1 pos) (tTup t):=by
 intro pins s σ H Q I hq
 refine wpAny_Tuple_spliced (thn (h pos pins s σ H _ I hq) fun us s1 ⟨xs,H1,I1,r,z,q⟩=>⟨by rw[<- r.length];exact z,?_⟩)
 have hf:H1 s1.heap.objs.size=none:=I1.hok.fresh (Nat.le_refl _)
 refine⟨.ref s1.heap.objs.size,upd H1 s1.heap.objs.size (.tup xs),I1.laid (t':=s1.toks) (fun b u e=>Heap.get?_push_of_some _ e) (Nat.le_refl _) ?_,rfl,q _ hf⟩
 exact⟨z,us,r,⟨_,Heap.get?_push_size _ rfl,rfl,_,rfl⟩⟩
theorem zva (h:PA X es t):PE X (.List es pos) (tLst t):=by
 intro pins s σ H Q I hq
 refine wpAny_List_spliced (thn (h pos pins s σ H _ I hq) fun us s1 ⟨xs,H1,I1,r,z,q⟩=>⟨by rw[<- r.length];exact z,?_⟩)
 have hf:H1 s1.heap.objs.size=none:=I1.hok.fresh (Nat.le_refl _)
 refine⟨.ref s1.heap.objs.size,upd H1 s1.heap.objs.size (.lst xs),I1.laid (t':=s1.toks) (fun b u e=>Heap.get?_push_of_some _ e) (Nat.le_refl _) ?_,rfl,q _ hf⟩
 exact⟨z,us,0,r,Heap.get?_push_size _ rfl⟩
end
abbrev Sp:=List V->Hp->VK->XK->Prop
abbrev CXT:=List Env->Hp->Shared->XK->Value->Shared->Prop
structure Env0 (P:Program)(w:World)(K:W.Frag)(mg:zT3)(base:Heap)(A:Around)(outer:List Env)(s:Shared)(H:Hp):Prop where
 frames:A.frames=some outer
 mod:Mod K mg base
 bs:∀b o,base.get? b=some o->s.heap.get? b=some o/\H b=none
 bsz:base.objs.size<=s.heap.objs.size
 funs:s.heap.FunFrames base outer
 frf:∀b∈frs outer,H b=none
 hok:HOk P w H s.heap
 bare:AllBare s.gens
def CE (outer:List Env)(P:Program)(w:World)(H:Hp)(s:Shared)(Q:VK)(u:Value)(s':Shared):Prop:=
 ∃v H',s'.os=s.os/\AllBare s'.gens/\Un (frs outer) [] H H' s.heap s'.heap/\HOk P w H' s'.heap/\RelV v u/\Q v H'
def CR (CX:CXT)(outer:List Env)(P:Program)(w:World)(H:Hp)(s:Shared)(Q:VK)(E:XK)(r:Result)(s':Shared):Prop:=
 match r with
 |.ok (.ret u)=>CE outer P w H s Q u s'
 |.ok _=>False
 |.error e=>CX outer H s E e s'
structure FnOk (P:Program)(w:World)(K:W.Frag)(mg:zT3)(base:Heap)(CX:CXT)(k:Nat)(f:Addr)(fd:FuncData)(ps:List Str)(sp:Sp):Prop where
 len:∀vs H Q E,sp vs H Q E->vs.length=ps.length
 run:∀(A:Around)(outer:List Env)(s:Shared)(H:Hp)(args:Args)(us:List Value)(vs:List V)(Q:VK)(E:XK),Room k A->Env0 P w K mg base A outer s H->BindsTo s fd args (ps.zip us)->Vals vs us->sp vs H Q E→
  codeAny (model P w) A (.call (.ref f) args) (CR CX outer P w H s Q E) s
theorem FnOk.mono {P:Program}{w:World}{K:W.Frag}{mg:zT3}{base:Heap}{CX:CXT}{j k:Nat}{f:Addr}{fd:FuncData}{ps:List Str}{sp:Sp}(F:FnOk P w K mg base CX j f fd ps sp)(h:j<=k):
  FnOk P w K mg base CX k f fd ps sp:=⟨F.len,fun A outer s H args us vs Q E hr=>F.run A outer s H args us vs Q E (hr.mono h)⟩
theorem Env0.make {P:Program}{w:World}{K:W.Frag}{mg:zT3}{base:Heap}{A:Around}{outer:List Env}{s:Shared}{H:Hp}(e:Env0 P w K mg base A outer s H)(C:Addr)(us:List Value)(kw:List (Str×Value)):
  Env0 P w K mg base (A.under (.builtin "type.__call__" ⟨.ref C::us,kw⟩)) outer s H:=⟨by first|exact e.frames|(simpa [Around.under,Code.envs,Code.isFrame,pushEnvs] using e.frames),e.mod,e.bs,e.bsz,e.funs,e.frf,e.hok,e.bare⟩
section
variable {X:Cx}{pins:zT2}{σ:St}{H:Hp}{s s':Shared}
theorem Inv.zyo (I:Inv X pins σ H s):Env0 X.prog X.w X.K X.mg X.base X.A X.stack s H:=
 ⟨I.ok.frames,I.ok.mod,I.bs,Nat.le_trans I.ok.bsz I.sz,I.stack,I.zco,I.hok,I.bare⟩
theorem Inv.after {Q:VK}{u:Value}(I:Inv X pins σ H s)(h:CE X.stack X.prog X.w H s Q u s'):EP X pins σ Q u s':=by
 obtain⟨v,H',os,bare,un,hok,r,q⟩:=h
 obtain⟨hh,g,d,t,os'⟩:=s'
 obtain rfl:os'=s.os:=os
 exact⟨v,H',I.call (h':=hh) (g':=g) (d':=d) (t':=t) (ch:=[]) un hok bare (fun b z=>absurd z (by simp)),r,q⟩
end
def zXk (sp:Sp)(dvs:List V)(E:XK)(t:TA):TE:=fun σ H Q=>t σ H fun vs H1=>sp (vs++dvs) H1 Q E
def zYk (C:Addr)(m:Str)(sp:Sp)(dvs:List V)(E:XK)(ta:TE)(t:TA):TE:=fun σ H Q=>ta σ H fun x H1=>∃a dx fs,x=.ref a/\H1 a=some (.ins C dx fs)/\fs.lookup m=none∧
 t σ H1 fun vs H2=>sp (x::(vs++dvs)) H2 Q E
def zGm (C:Addr)(sp:Sp)(dvs:List V)(E:XK)(t:TA):TE:=fun σ H Q=>t σ H fun vs H1=>∀x dx,H1 x=none->H1 dx=none->dx≠x→
 sp (.ref x::(vs++dvs)) (upd (upd H1 dx (.own x)) x (.ins C dx [])) (fun v H2=>v=.non/\Q (.ref x) H2) E
def Binds (K:W.Frag)(fd:FuncData)(ps:List Str)(ds:List Value):Prop:=
 ∀(s:Shared)(us:List Value),K.In s.heap->(us++ds).length=ps.length->BindsTo s fd ⟨us,[]⟩ (ps.zip (us++ds))
theorem Binds.all {K:W.Frag}{fd:FuncData}{ps:List Str}(h:∀us:List Value,us.length=ps.length->bindArgs fd ⟨us,[]⟩=pure (ps.zip us)):Binds K fd ps []:=fun s us _ hl=>by
 rw[List.append_nil] at hl ⊢
 exact .of_eq (h us hl)
def Passes (CX:CXT)(X:Cx)(E:XK):Prop:=∀(pins:zT2)(σ:St)(H:Hp)(s:Shared)(e:Value)(s':Shared),Inv X pins σ H s->CX X.stack H s E e s'->X.xe e s'
section
variable {X:Cx}{CX:CXT}{k:Nat}{f C:Addr}{fd:FuncData}{ps:List Str}{sp:Sp}{dvs:List V}{ds:List Value}{E:XK}{x m:Str}{p pos apos:Pos}{e o:Expr}{es:List Expr}{ta:TE}{t:TA}
theorem zXc {pins:zT2}{σ:St}{H:Hp}{s:Shared}{Q:VK}{us:List Value}{vs:List V}(F:FnOk X.prog X.w X.K X.mg X.base CX k f fd ps sp)(hr:Room k X.A)(hb:Binds X.K fd ps ds)(hd:Vals dvs ds)(hx:Passes CX X E)
  (I:Inv X pins σ H s)(r:Vals vs us)(h:sp (vs++dvs) H Q E):wpAny (model X.prog X.w) X.A (call (.ref f) us) (EP X pins σ Q) X.xe s:=by
 have r2:Vals (vs++dvs) (us++ds):=r.append hd
 have hl:(us++ds).length=ps.length:=by rw[<- r2.length];exact F.len _ _ _ _ h
 refine wpAny_call (codeAny_mono (F.run X.A X.stack s H ⟨us,[]⟩ (us++ds) (vs++dvs) Q E hr I.zyo (hb s us I.kIn hl) r2 h) fun r s' hq=>?_)
 cases r with
 |error e=>exact hx pins σ H s e s' I hq
 |ok fl=>
  cases fl with
  |ret u=>exact I.after hq
  |next=>exact False.elim hq
  |brk=>exact False.elim hq
  |cont=>exact False.elim hq
theorem zi (F:FnOk X.prog X.w X.K X.mg X.base CX k f fd ps sp)(hr:Room k X.A)(hg:Gl X x)(hm:X.mg x=some (.ref f))(hk:W.keepIn X.K (.ref f)=true)(hb:Binds X.K fd ps ds)(hd:Vals dvs ds)(hx:Passes CX X E)
  (ha:PA X (e::es) t)(hdb:(x==("__debug__":Str))=false:=by decide)(he:starEach (e::es) X.env=(false,eval e X.env)::starEach es X.env:=by rfl)(hpl:(backTo pos (starEach es X.env)).any (·.1)=false:=by rfl):
  PE X (.Call (.Name x p) (e::es) [] pos) (zXk sp dvs E t):=by
 intro pins s σ H Q I h
 refine wpAny_Call_Name_kw (zib I hg hm ?_ hdb)
 refine W.callWith_K (h₀:=X.base) I.ok.mod.kin hk (thn (ha pos pins s σ H _ I h) fun us s1 ⟨vs,H1,I1,r,q⟩=>⟨I1.kIn,?_⟩) he hpl
 exact zXc F hr hb hd hx I1 r q
theorem zKh (F:FnOk X.prog X.w X.K X.mg X.base CX k f fd ps sp)(hr:Room k X.A)(hg:Gl X x)(hm:X.mg x=some (.ref f))(hk:W.keepIn X.K (.ref f)=true)(hb:Binds X.K fd ps ds)(hd:Vals dvs ds)(hx:Passes CX X E)
  (hdb:(x==("__debug__":Str))=false:=by decide):PE X (.Call (.Name x p) [] [] pos) (zXk sp dvs E tNil):=by
 intro pins s σ H Q I h
 refine wpAny_Call_Name_kw (zib I hg hm ?_ hdb)
 exact W.callWith_K0 I.kIn hk (zXc (us:=[]) F hr hb hd hx I .nil h)
theorem zqj {pl:Sem Bool}(he:PE X o ta)(c:Cls X.K C)(hm:Meth X.K C m f)(F:FnOk X.prog X.w X.K X.mg X.base CX k f fd ps sp)(hr:Room k X.A)(hb:Binds X.K fd ps ds)(hd:Vals dvs ds)(hx:Passes CX X E)(ha:PA X (e::es) t)
  (hst:starEach (e::es) X.env=(false,eval e X.env)::starEach es X.env:=by rfl)(hpl:(backTo pos (starEach es X.env)).any (·.1)=false:=by rfl)
  (ht:eval (.Call (.Attribute o m apos) (e::es) [] pos) X.env=(do
   let ov ← eval o X.env
   standAt apos.atName
   let (f,first) ← holding [ov] (getMethod ov m pl)
   callWith pos f first (backTo pos (starEach (e::es) X.env)) (backToKw pos (keywordEach [] X.env))):=by rfl):
  PE X (.Call (.Attribute o m apos) (e::es) [] pos) (zYk C m sp dvs E ta t):=by
 intro pins s σ H Q I h
 refine W.methodCall_KW (pl:=pl) (thn (he pins s σ H _ I h) fun u s1 ⟨x,H1,I1,rx,a,dx,fs,ex,ea,l,q⟩=>?_) ht
 subst ex
 obtain rfl:u=Value.ref a:=rx
 refine zvb I1 ea c hm l ?_
 refine W.callWith_K (first:=[.ref a]) (h₀:=X.base) I.ok.mod.kin hm.kp (thn (ha pos pins s1 σ H1 _ I1 q) fun us s2 ⟨vs,H2,I2,r,q2⟩=>⟨I2.kIn,?_⟩) hst hpl
 exact zXc (us:=.ref a::us) (vs:=.ref a::vs) F hr hb hd hx I2 (.cons rfl r) q2
theorem zTe {pl:Sem Bool}(he:PE X o ta)(c:Cls X.K C)(hm:Meth X.K C m f)(F:FnOk X.prog X.w X.K X.mg X.base CX k f fd ps sp)(hr:Room k X.A)(hb:Binds X.K fd ps ds)(hd:Vals dvs ds)(hx:Passes CX X E)
  (ht:eval (.Call (.Attribute o m apos) [] [] pos) X.env=(do
   let ov ← eval o X.env
   standAt apos.atName
   let (f,first) ← holding [ov] (getMethod ov m pl)
   callWith pos f first (backTo pos (starEach [] X.env)) (backToKw pos (keywordEach [] X.env))):=by rfl):
  PE X (.Call (.Attribute o m apos) [] [] pos) (zYk C m sp dvs E ta tNil):=by
 intro pins s σ H Q I h
 refine W.methodCall_KW (pl:=pl) (thn (he pins s σ H _ I h) fun u s1 ⟨x,H1,I1,rx,a,dx,fs,ex,ea,l,q⟩=>?_) ht
 subst ex
 obtain rfl:u=Value.ref a:=rx
 refine zvb I1 ea c hm l ?_
 exact W.callWith_K0 (first:=[.ref a]) I1.kIn hm.kp (zXc (us:=[.ref a]) (vs:=[.ref a]) F hr hb hd hx I1 (.cons rfl .nil) q)
structure Mk (K:W.Frag)(C f:Addr):Prop where
 makes:W.makesIn K C=true
 init:W.findIn K (.ref C) "__init__"=some (some (.ref f))
 fn:W.isFn K (.ref f)=true
 kp:W.keepIn K (.ref C)=true
theorem zLh {pins:zT2}{σ:St}{H:Hp}{s:Shared}{Q:VK}{us:List Value}{vs:List V}(M:Mk X.K C f)(F:FnOk X.prog X.w X.K X.mg X.base CX k f fd ps sp)(hr:Room (k+1) X.A)(hb:Binds X.K fd ps ds)(hd:Vals dvs ds)
  (hx:Passes CX X E)(I:Inv X pins σ H s)(r:Vals vs us)
  (h:∀x dx,H x=none->H dx=none->dx≠x->sp (.ref x::(vs++dvs)) (upd (upd H dx (.own x)) x (.ins C dx [])) (fun v H2=>v=.non/\Q (.ref x) H2) E):
  wpAny (model X.prog X.w) X.A (call (.ref C) us) (EP X pins σ Q) X.xe s:=by
 have hq:=h (s.heap.objs.size+1) s.heap.objs.size (I.hok.fresh (Nat.le_succ _)) (I.hok.fresh (Nat.le_refl _)) (Nat.ne_of_lt (Nat.lt_succ_self _))
 have I2:=Inv.made (C:=C) I
 have r2:Vals (V.ref (s.heap.objs.size+1)::(vs++dvs)) (Value.ref (s.heap.objs.size+1)::(us++ds)):=.cons rfl (r.append hd)
 have hl:(Value.ref (s.heap.objs.size+1)::us++ds).length=ps.length:=by
  have e:=r2.length
  rw[F.len _ _ _ _ hq] at e
  exact e.symm
 refine wpAny_call (zJh (f:=f) I.kIn M.makes M.init (beq_iff_eq.mp M.fn) (codeAny_mono (F.run _ X.stack _ _ ⟨Value.ref (s.heap.objs.size+1)::us,[]⟩ (Value.ref (s.heap.objs.size+1)::(us++ds)) _ _ E (hr.make C us [])
  (I2.zyo.make C us []) (hb _ (Value.ref (s.heap.objs.size+1)::us) I2.kIn hl) r2 hq) fun r s' hq'=>?_))
 cases r with
 |error e=>exact hx pins σ _ _ e s' I2 hq'
 |ok fl=>
  cases fl with
  |ret u=>
   obtain⟨v,H',I3,rv,ev,q3⟩:=I2.after hq'
   subst ev
   exact⟨rv,⟨V.ref (s.heap.objs.size+1),H',I3,rfl,q3⟩⟩
  |next=>exact False.elim hq'
  |brk=>exact False.elim hq'
  |cont=>exact False.elim hq'
theorem zjg (M:Mk X.K C f)(F:FnOk X.prog X.w X.K X.mg X.base CX k f fd ps sp)(hr:Room (k+1) X.A)(hg:Gl X x)(hm:X.mg x=some (.ref C))(hb:Binds X.K fd ps ds)(hd:Vals dvs ds)(hx:Passes CX X E)
  (ha:PA X (e::es) t)(hdb:(x==("__debug__":Str))=false:=by decide)(he:starEach (e::es) X.env=(false,eval e X.env)::starEach es X.env:=by rfl)(hpl:(backTo pos (starEach es X.env)).any (·.1)=false:=by rfl):
  PE X (.Call (.Name x p) (e::es) [] pos) (zGm C sp dvs E t):=by
 intro pins s σ H Q I h
 refine wpAny_Call_Name_kw (zib I hg hm ?_ hdb)
 refine W.callWith_K (h₀:=X.base) I.ok.mod.kin M.kp (thn (ha pos pins s σ H _ I h) fun us s1 ⟨vs,H1,I1,r,q⟩=>⟨I1.kIn,?_⟩) he hpl
 exact zLh M F hr hb hd hx I1 r q
end
structure FnScope (N P:List Str)(sc:Scope):Prop where
 kind:sc.kind=.function
 co:sc.isCoroutine=false
 gen:sc.isGenerator=false
 nd:N.Nodup
 pre:N.take P.length=P
 par:∀x∈P,sc.names.lookup x=some .local\/sc.names.lookup x=some .cell
 nofree:∀y∈sc.names,y.2≠.free
theorem FnScope.of {N P:List Str}{sc:Scope}(h:sc.kind=.function/\sc.isCoroutine=false/\sc.isGenerator=false/\N.Nodup/\N.take P.length=P/\(∀x∈P,sc.names.lookup x=some .local\/sc.names.lookup x=some .cell)/\∀y∈sc.names,y.2≠.free):FnScope N P sc:=⟨h.1,h.2.1,h.2.2.1,h.2.2.2.1,h.2.2.2.2.1,h.2.2.2.2.2.1,h.2.2.2.2.2.2⟩
theorem zYd {kindOf:Str->Option NameKind}{x:Str}:∀{binds:List (Str×Value)}{m:zT3},(∀v,(x,v)∉binds)->bindL kindOf binds m x=m x
 | [],_,_=>rfl
 | (n,v)::r,m,h=>by
  unfold bindL
  rw[zYd fun w hw=>h w (List.mem_cons_of_mem _ hw)]
  split
  ·have:x≠n:=by rintro rfl;exact h v List.mem_cons_self
   simp[this]
  ·rfl
theorem zZd {kindOf:Str->Option NameKind}{x:Str}:∀{binds:List (Str×Value)}{m:zT3},(∀v,(x,v)∉binds)->bindC kindOf binds m x=m x
 | [],_,_=>rfl
 | (n,v)::r,m,h=>by
  unfold bindC
  rw[zZd fun w hw=>h w (List.mem_cons_of_mem _ hw)]
  split
  ·rfl
  ·have:x≠n:=by rintro rfl;exact h v List.mem_cons_self
   simp[this]
theorem zae {kindOf:Str->Option NameKind}{x:Str}{v:Value}:∀{P:List Str}{vs:List Value}{i:Nat}{m:zT3},P.Nodup->P[i]?=some x->vs[i]?=some v->kindOf x=some .local→
  bindL kindOf (P.zip vs) m x=some v
 | [],_,_,_,_,h,_,_=>by simp at h
 |_::_,[],_,_,_,_,h,_=>by simp at h
 |p::P,w::vs,0,m,nd,h1,h2,hk=>by
  simp at h1 h2;subst h1;subst h2
  show bindL kindOf ((p,w)::P.zip vs) m p=_
  unfold bindL
  rw[zYd fun v hv=>(List.nodup_cons.mp nd).1 (List.of_mem_zip hv).1,if_pos hk]
  simp
 |p::P,w::vs,i+1,m,nd,h1,h2,hk=>by
  show bindL kindOf ((p,w)::P.zip vs) m x=_
  unfold bindL
  exact zae (i:=i) (List.nodup_cons.mp nd).2 (by simpa using h1) (by simpa using h2) hk
theorem zbe {kindOf:Str->Option NameKind}{x:Str}{v:Value}:∀{P:List Str}{vs:List Value}{i:Nat}{m:zT3},P.Nodup->P[i]?=some x->vs[i]?=some v->kindOf x≠some .local→
  bindC kindOf (P.zip vs) m x=some v
 | [],_,_,_,_,h,_,_=>by simp at h
 |_::_,[],_,_,_,_,h,_=>by simp at h
 |p::P,w::vs,0,m,nd,h1,h2,hk=>by
  simp at h1 h2;subst h1;subst h2
  show bindC kindOf ((p,w)::P.zip vs) m p=_
  unfold bindC
  rw[zZd fun v hv=>(List.nodup_cons.mp nd).1 (List.of_mem_zip hv).1,if_neg hk]
  simp
 |p::P,w::vs,i+1,m,nd,h1,h2,hk=>by
  show bindC kindOf ((p,w)::P.zip vs) m x=_
  unfold bindC
  exact zbe (i:=i) (List.nodup_cons.mp nd).2 (by simpa using h1) (by simpa using h2) hk
def start (N:List Str)(vs:List V):St:=vs.map some++List.replicate (N.length-vs.length) none
def cxOf (CX:CXT)(P:Program)(w:World)(K:W.Frag)(mg:zT3)(base:Heap)(N:List Str)(qual:Str)(scope:Scope)(f:Addr)(cd:Value)(A:Around)(outer:List Env)(s:Shared)(H:Hp)(E:XK):Cx where
 prog:=P
 w:=w
 K:=K
 mg:=mg
 base:=base
 A:=A.deeper (envOfC qual scope s.heap.objs.size f cd)
 N:=N
 s₀:=s
 H₀:=H
 env:=envOfC qual scope s.heap.objs.size f cd
 outer:=outer
 stack:=envOfC qual scope s.heap.objs.size f cd::outer
 ex:=[]
 calm:=true
 fn:=fun _=>true
 pn:=[]
 xe:=fun e s'=>wpAny (model P w) (A.deeper (envOfC qual scope s.heap.objs.size f cd)) (leaving (envOfC qual scope s.heap.objs.size f cd) e) (fun _ s''=>CX outer H s E e s'') (fun e' s''=>CX outer H s E e' s'') s'
theorem zUe {sc:Scope}{n:Nat}{x:Str}(h:sc.names.lookup x=some .cell):∃c,(cellsFrom n sc.names []).lookup x=some c:=by
 have q:=W.cellsFrom_some sc.names n [] (.inl h)
 exact Option.isSome_iff_exists.mp q
theorem zkg {CX:CXT}{P:Program}{w:World}{K:W.Frag}{mg:zT3}{base:Heap}{N ps:List Str}{qual:Str}{scope:Scope}{f:Addr}{cd:Value}{A:Around}{outer:List Env}{s s1:Shared}{H:Hp}{E:XK}{us:List Value}{vs:List V}
  (S:FnScope N ps scope)(hd:A.handled=none)(e0:Env0 P w K mg base A outer s H)(hl:vs.length=ps.length)(r:Vals vs us)
  (x:InCallC s s.heap.objs.size (bindL (envOfC qual scope s.heap.objs.size f cd).kindOf (ps.zip us) fun _=>none) (cellsFrom (s.heap.objs.size+1) scope.names []) (bindC (envOfC qual scope s.heap.objs.size f cd).kindOf (ps.zip us) fun _=>none) s1):
  Inv (cxOf CX P w K mg base N qual scope f cd A outer s H E) [] (start N vs) H s1:=by
 have hpl:ps.length<=N.length:=by have:=congrArg List.length S.pre;rw[List.length_take] at this;omega
 obtain⟨h1,tk,rfl,hk⟩:=x.done
 have noA:∀b:Addr,b∉(cxOf CX P w K mg base N qual scope f cd A outer s H E).ex:=fun b z=>absurd (show b∈([]:List Addr) from z) (by simp)
 refine⟨⟨e0.mod,S.kind,rfl,rfl,Nat.le_refl _,fun y z c h1 h2=>?_,fun y hy=>?_,fun y c _ h=>?_,fun _=>hd,Around.frames_deeper e0.frames,.inr ⟨rfl,rfl⟩,fun b z=>absurd z (noA b),e0.bs,e0.bsz,fun b _ _=>noA b,fun b z=>absurd z (noA b),e0.funs,e0.frf⟩,
  rfl,e0.bare,Un.kept hk,⟨_,x.toInCall.ns,fun i y v h1 h2 h3=>?_⟩,fun y c h=>⟨_,x.cell y c h⟩,e0.hok.fresh (Nat.le_refl _),fun y c h=>?_,fun p hp=>absurd (show p∈([]:zT2) from hp) (by simp),e0.hok.kept hk,?_⟩
 ·exact name_of_addr x.apart (PySem.mem_of_lookup h1) (PySem.mem_of_lookup h2)
 ·have hy:scope.names.lookup y=some .cell\/scope.names.lookup y=some .free:=hy
  rcases hy with hy|hy
  ·exact zUe hy
  ·exact absurd rfl (S.nofree _ (PySem.mem_of_lookup hy))
 ·exact Nat.le_of_lt (x.above y c (PySem.mem_of_lookup h))
 ·have hi:i<vs.length:=by
   unfold start at h2
   by_cases hi:i<vs.length
   ·exact hi
   ·rw[List.getElem?_append_right (by simpa using hi)] at h2
    rw[List.getElem?_replicate] at h2
    split at h2<;>cases h2
  have ha:vs[i]?=some v:=by
   unfold start at h2
   rw[List.getElem?_append_left (by simpa using hi),List.getElem?_map] at h2
   cases e:vs[i]? with
   |none=>rw[e] at h2;cases h2
   |some a=>rw[e] at h2;cases h2;rfl
  obtain⟨u,hu,rv⟩:=r.get ha
  have hp:ps[i]?=some y:=by
   rw[<- S.pre,List.getElem?_take_of_lt (by omega)];exact h1
  have ndP:ps.Nodup:=by rw[<- S.pre];exact S.nd.sublist (List.take_sublist _ _)
  refine⟨u,rv,?_⟩
  rcases S.par y (List.mem_of_getElem? hp) with k|k
  ·exact .inl ⟨k,zae ndP hp hu k⟩
  ·obtain⟨c,e⟩:=zUe (n:=s.heap.objs.size+1) k
   refine .inr ⟨.inl k,c,e,?_⟩
   have q:=x.cell y c e
   rw[zbe ndP hp hu (by show scope.names.lookup y≠_;rw[k];decide)] at q
   exact q
 ·exact e0.hok.fresh (Nat.le_of_lt (x.above y c (PySem.mem_of_lookup h)))
 ·unfold start
  show _=N.length
  rw[List.length_append,List.length_map,List.length_replicate]
  omega
theorem zMh {CX:CXT}{P:Program}{w:World}{K:W.Frag}{mg:zT3}{base:Heap}{k:Nat}{f:Addr}{name qual:Str}{params:Arguments}{body:List Stmt}{scope:Scope}{dV kV doc pm cdv ct oc:Value}{an od:Option Addr}
  {osl:Array (Option Value)}{N ps:List Str}{sp:Sp}(lk:K.lookup f=some ⟨oc,od,.func (W.fnOf name qual params body scope dV kV doc pm an cdv ct),osl⟩)(hcd:W.codeIn K cdv qual=true)(S:FnScope N ps scope)
  (len:∀vs H Q E,sp vs H Q E->vs.length=ps.length)
  (hbody:∀(A:Around)(outer:List Env)(s:Shared)(H:Hp)(vs:List V)(Q:VK)(E:XK),Room k (A.deeper (envOfC qual scope s.heap.objs.size f cdv))->sp vs H Q E→
   ∃t,PSs (cxOf CX P w K mg base N qual scope f cdv A outer s H E) body t/\t { nx:=fun _ H'=>Q .non H',rt:=Q } (start N vs) H):
  FnOk P w K mg base CX (k+1) f (W.fnOf name qual params body scope dV kV doc pm an cdv ct) ps sp:=by
 refine⟨len,fun A outer s H args us vs Q E hr e0 hb r hsp=>?_⟩
 have hl:=len _ _ _ _ hsp
 have KX:K.In s.heap:=e0.mod.kin.keeps fun b o e=>(e0.bs b o e).1
 have lim:s.heap.NoLimit:=e0.mod.nolimit.keeps fun b o e=>(e0.bs b o e).1
 have hkind:∀y∈ps.zip us,scope.names.lookup y.1=some .local\/(scope.names.lookup y.1=some .cell/\((cellsFrom (s.heap.objs.size+1) scope.names []).lookup y.1).isSome=true):=fun⟨n,v⟩ hy=>by
  rcases S.par n (List.of_mem_zip hy).1 with q|q
  ·exact .inl q
  ·exact .inr ⟨q,W.cellsFrom_some _ _ _ (.inl q)⟩
 refine codeAny_call_function hr.depth (KX _ _ lk) rfl S.co S.gen rfl (W.codeRec_of KX hcd) (hb _ _ _ _ ?_)
 refine wpAny_newFunctionEnv_cells S.kind hkind fun env he s1 x=>?_
 subst he
 refine⟨lim.keeps x.toInCall.keep,codeAny_func ?_⟩
 obtain⟨t,ht,hq⟩:=hbody A outer s H vs Q E (hr.deeper _) hsp
 have I:Inv (cxOf CX P w K mg base N qual scope f cdv A outer s H E) [] (start N vs) H s1:=zkg S hr.hd e0 hl r x
 refine wpAny_mono (ht [] s1 (start N vs) H _ I hq) (fun fl s' hs=>?_) fun e s' hs=>hs
 have fin:∀{σ':St}{H':Hp}{v:V}{u:Value},Inv (cxOf CX P w K mg base N qual scope f cdv A outer s H E) [] σ' H' s'->RelV v u->Q v H'->CE outer P w H s Q u s':=
  fun {σ' H' v u} J rv q=>⟨v,H',J.os,J.bare,J.base,J.hok,rv,q⟩
 cases fl with
 |ret u=>
  obtain⟨v,σ',H',J,rv,q⟩:=hs
  exact fin J rv q
 |next=>
  obtain⟨σ',H',J,q⟩:=hs
  exact fin (v:=V.non) (u:=Value.none) J rfl q
 |brk=>
  obtain⟨_,_,_,q⟩:=hs
  exact False.elim q
 |cont=>
  obtain⟨_,_,_,q⟩:=hs
  exact False.elim q
section
variable {X:Cx}{x:Str}{p pos:Pos}{e:Expr}{es:List Expr}{t:TA}{id T:String}{r:List V->Hp->VK->Prop}
def tCB (r:List V->Hp->VK->Prop)(t:TA):TE:=fun σ H Q=>t σ H fun vs H1=>r vs H1 Q
theorem zq (hc:zSb X (.builtin id) r)(hg:Gl X x)(hm:X.mg x=none)(hv:bootBuiltins x=some (.builtin id))(ha:PA X (e::es) t)(hn:x≠"__name__":=by decide)(hdb:(x==("__debug__":Str))=false:=by decide)
  (he:starEach (e::es) X.env=(false,eval e X.env)::starEach es X.env:=by rfl) (hpl:(backTo pos (starEach es X.env)).any (·.1)=false:=by rfl):PE X (.Call (.Name x p) (e::es) [] pos) (tCB r t):=by
 intro pins s σ H Q I h
 refine wpAny_Call_Name_kw (zCb I hg hm hv ?_ hn hdb)
 exact PyProof.Rows.callWith_builtin1 (thn (ha pos pins s σ H _ I h) fun us s1 ⟨vs,H1,I1,r1,q1⟩=>hc pins s1 σ H1 vs us Q I1 r1 q1) he hpl
theorem zS (hc:zSb X (.type T) r)(hg:Gl X x)(hm:X.mg x=none)(hv:bootBuiltins x=some (.type T))(ha:PA X (e::es) t)(hn:x≠"__name__":=by decide)(hdb:(x==("__debug__":Str))=false:=by decide)
  (he:starEach (e::es) X.env=(false,eval e X.env)::starEach es X.env:=by rfl) (hpl:(backTo pos (starEach es X.env)).any (·.1)=false:=by rfl):PE X (.Call (.Name x p) (e::es) [] pos) (tCB r t):=by
 intro pins s σ H Q I h
 refine wpAny_Call_Name_kw (zCb I hg hm hv ?_ hn hdb)
 exact PyProof.Rows.callWith_type1 (thn (ha pos pins s σ H _ I h) fun us s1 ⟨vs,H1,I1,r1,q1⟩=>hc pins s1 σ H1 vs us Q I1 r1 q1) he hpl
end
end L2
namespace HT
open PySem PyProof.Rows
section
variable {prog:Program}{w:World}{A:Around}{E:zE1}{s:Shared}
theorem zrj {t b:Addr}{vs ws:List Value}{Q:zE1}(ht:IsTup s.heap t vs.toArray)(hb:IsTup s.heap b ws.toArray)(hv:vs≠[])
  (h1:ws=[]->Q (.ref t) s)(h2:ws≠[]->Q (.ref s.heap.objs.size) { s with heap:=s.heap.push { cls:=.type "tuple",data:=.seq (vs++ws).toArray } })
  (hsz:vs.length+ws.length<=sizeLine):wpAny (model prog w) A (binaryOp .Add (.ref t) (.ref b)) Q E s:=by
 obtain⟨⟨cls,dd,data,sl⟩,ho,hc,n,hd⟩:=id ht
 obtain⟨⟨cls2,dd2,data2,sl2⟩,ho2,hc2,n2,hd2⟩:=id hb
 simp only at hc hd hc2 hd2
 subst hc hd hc2 hd2
 have e:vs.toArray++ws.toArray=(vs++ws).toArray:=by simp
 by_cases hw:ws=[]
 ·exact concat_meets ⟨_,ho,rfl⟩ ⟨_,ho2,rfl⟩ noFill_tuple_add seq_tuple_add PySem.F.slot_tuple_add PySem.F.entry_tuple_add (PySem.F.args_tuple_add_2 _ _)
   (tuple_addW1 t b vs.toArray ws.toArray n n2 dd dd2 sl sl2 (by simpa using hv) (by simp[hw])) ⟨ho,ho2,h1 hw⟩
 ·refine concat_meets ⟨_,ho,rfl⟩ ⟨_,ho2,rfl⟩ noFill_tuple_add seq_tuple_add PySem.F.slot_tuple_add PySem.F.entry_tuple_add (PySem.F.args_tuple_add_2 _ _)
   (tuple_addW2 t b vs.toArray ws.toArray n n2 dd dd2 sl sl2 (by simpa using hv) (by simpa using hw) (by rw[List.size_toArray,List.size_toArray];exact hsz)) ⟨ho,ho2,?_⟩
  rw[e]
  exact h2 hw
def sIx (n d:Nat):Option Int->Nat
 |none=>d
 |some v=>if v<0 then(v+(n:Int)).toNat else min v.toNat n
theorem zVe (n d:Nat):sIx n d none=d:=rfl
theorem zod (n d k:Nat):sIx n d (some (k:Int))=min k n:=by
 show(if (k:Int)<0 then((k:Int)+(n:Int)).toNat else min (k:Int).toNat n)=min k n
 rw[if_neg (by omega),Int.toNat_natCast]
end
end HT
namespace L2
open PySem PySem.Spec PyProof.Rows
abbrev TO:=St->Hp->(Option Int->Hp->Prop)->Prop
def PO (X:Cx)(e:Option Expr)(t:TO):Prop:=
 ∀(pins:zT2)(s:Shared)(σ:St)(H:Hp)(Q:Option Int->Hp->Prop),Inv X pins σ H s->t σ H Q→
  wpAny (model X.prog X.w) X.A (evalPart e X.env) (fun u s'=>∃o H',Inv X pins σ H' s'/\IsPart u o/\Q o H') X.xe s
def zsj:TO:=fun _ H Q=>Q none H
def zHm (t:TE):TO:=fun σ H Q=>t σ H fun x H1=>∃i,x=.int i/\Q (some i) H1
theorem intsAre_of {ns:List Int}:∀{us:List Value},Vals (ns.map V.int) us->IntsAre us ns:=by
 induction ns with
 |nil=>intro us r;rw[List.map_nil] at r;cases r;exact .nil
 |cons n ns ih=>
  intro us r
  rw[List.map_cons] at r
  cases r with
  |cons r1 r2=>
   obtain⟨t,e⟩:=r1
   subst e
   exact .cons n t (ih r2)
section
variable {X:Cx}{e:Expr}{te:TE}{lo hi:Option Expr}{tl th:TO}{pos p2:Pos}
theorem zpd:PO X none zsj:=by
 intro pins s σ H Q I h
 rw[evalPart_none]
 exact wpAny_pure ⟨none,H,I,.none,h⟩
theorem zUa (h:PE X e te):PO X (some e) (zHm te):=by
 intro pins s σ H Q I hw
 rw[evalPart_some]
 refine thn (h pins s σ H _ I hw) fun u s1 hq9=>?_
 obtain⟨x,H1,I1,r1,q1⟩:=hq9
 obtain⟨i,rfl,q⟩:=q1
 obtain⟨t,rfl⟩:=r1
 exact⟨some i,H1,I1,.int i t,q⟩
def SlR (X:Cx)(r:V->Option Int->Option Int->Hp->VK->Prop):Prop:=
 ∀(pins:zT2)(s:Shared)(σ:St)(H:Hp)(x:V)(v vl vu:Value)(lo hi:Option Int)(sl:Addr)(Q:VK),Inv X pins σ H s->RelV x v->s.heap.IsSliceOf sl vl vu .none->IsPart vl lo->IsPart vu hi->r x lo hi H Q→
  ∃T id,typeLookup (.type T) "__getitem__"=pure (some (.builtin id))/\s.TypeIs v T/\wpAny (model X.prog X.w) X.A (getItem v (.ref sl)) (EP X pins σ Q) X.xe s
def tSl (r:V->Option Int->Option Int->Hp->VK->Prop)(te:TE)(tl th:TO):TE:=fun σ H Q=>te σ H fun x H1=>tl σ H1 fun l H2=>th σ H2 fun u H3=>r x l u H3 Q
theorem zab {r:V->Option Int->Option Int->Hp->VK->Prop}(hr:SlR X r)(he:PE X e te)(hl:PO X lo tl)(hu:PO X hi th):PE X (.Subscript e (.Slice lo hi none p2) pos) (tSl r te tl th):=by
 intro pins s σ H Q I h
 refine Subscript_ (thn (he pins s σ H _ I h) fun v s1 ⟨x,H1,I1,r1,q1⟩=>?_)
 refine wpAny_Slice (thn (hl pins s1 σ H1 _ I1 q1) fun vl s2 ⟨l,H2,I2,pl,q2⟩=>thn (hu pins s2 σ H2 _ I2 q2) fun vu s3 ⟨u,H3,I3,pu,q3⟩=>?_)
 rw[evalPart_none]
 refine wpAny_pure ?_
 have I4:Inv X pins σ H3 { s3 with heap:=s3.heap.push { cls:=.type "slice",data:=.fields #[vl,vu,.none] } }:=I3.kept (t':=s3.toks) fun b ob q=>Heap.get?_push_of_some _ q
 obtain⟨T,id,hT,ht,hg⟩:=hr pins { s3 with heap:=s3.heap.push { cls:=.type "slice",data:=.fields #[vl,vu,.none] } } σ H3 x v vl vu l u s3.heap.objs.size Q I4 r1 (Heap.IsSliceOf.new ..) pl pu q3
 show wpAny (model X.prog X.w) X.A (subscriptTail e (.Slice lo hi none p2) v (.ref s3.heap.objs.size)) (EP X pins σ Q) X.xe { s3 with heap:=s3.heap.push { cls:=.type "slice",data:=.fields #[vl,vu,.none] } }
 exact tail_any (ops:=[.ref s3.heap.objs.size,v]) ht hT hg (by with_unfolding_all rfl)
def cutV (xs:List V)(lo hi:Option Int):List V:=(xs.drop (HT.sIx xs.length 0 lo)).take (HT.sIx xs.length xs.length hi-HT.sIx xs.length 0 lo)
theorem zxe (xs:List V)(lo hi:Option Int):(cutV xs lo hi).length<=xs.length:=by
 unfold cutV
 rw[List.length_take,List.length_drop]
 omega
def zIm (K:W.Frag):R2:=fun x y H Q=>∃a b xs ys,x=.ref a/\y=.ref b/\SqT K H a xs/\SqT K H b ys/\xs≠[]/\xs.length+ys.length<=sizeLine∧
 (ys=[]->Q (.ref a) H)/\(ys≠[]->∀p,H p=none->Q (.ref p) (upd H p (.tup (xs++ys))))
theorem Vals.nil_iff {xs:List V}{us:List Value}(r:Vals xs us):us=[]↔xs=[]:=by
 cases r with
 |nil=>simp
 |cons _ _=>simp
theorem zlg:OpR X (binaryOp .Add) (zIm X.K):=by
 intro pins s σ H x y v u Q I rx ry h
 obtain⟨a,b,xs,ys,rfl,rfl,ha,hb,hx,hz,q1,q2⟩:=h
 cases rx
 cases ry
 obtain⟨its,r1,p1,_⟩:=I.tuple ha
 obtain⟨its2,r2,p2,_⟩:=I.tuple hb
 refine HT.zrj p1 p2 (fun z=>hx (r1.nil_iff.mp z)) (fun z=>⟨.ref a,H,I,rfl,q1 (r2.nil_iff.mp z)⟩) (fun z=>?_) (by rw[<- r1.length,<- r2.length];exact hz)
 refine⟨.ref s.heap.objs.size,_,I.laid (t':=s.toks) (o:=.tup (xs++ys)) (fun b ob q=>Heap.get?_push_of_some _ q) (Nat.le_refl _) ?_,rfl,q2 (fun w=>z (r2.nil_iff.mpr w)) _ (I.hok.fresh (Nat.le_refl _))⟩
 exact⟨by rw[List.length_append];exact hz,_,r1.append r2,IsTup.new _ _⟩
end
def ixN (n:Nat)(i:Int):Option Nat:=if 0<=i then(if i<n then some i.toNat else none) else if -(n:Int)<=i then some (i+n).toNat else none
def atI {α:Type}(xs:List α)(i:Int):Option α:=(ixN xs.length i).bind fun j=>xs[j]?
theorem zmg {n:Nat}{i:Int}{j:Nat}(h:ixN n i=some j):seqIndex? i n=some j/\j<n/\-(n:Int)<=i/\i<n:=by
 unfold ixN at h
 by_cases h0:0<=i
 ·rw[if_pos h0] at h
  by_cases h1:i<n
  ·rw[if_pos h1] at h
   have e:i.toNat=j:=Option.some.inj h
   exact⟨by rw[seqIndex_of h0 h1,e],by omega,by omega,h1⟩
  ·rw[if_neg h1] at h;cases h
 ·rw[if_neg h0] at h
  by_cases h1:-(n:Int)<=i
  ·rw[if_pos h1] at h
   have e:(i+n).toNat=j:=Option.some.inj h
   exact⟨by rw[seqIndex_neg (by omega) h1,e],by omega,h1,by omega⟩
  ·rw[if_neg h1] at h;cases h
theorem zye {α:Type}{xs:List α}{i:Int}{v:α}(h:atI xs i=some v):∃j,seqIndex? i xs.length=some j/\xs[j]?=some v/\j<xs.length/\-(xs.length:Int)<=i/\i<xs.length:=by
 unfold atI at h
 cases e:ixN xs.length i with
 |none=>rw[e] at h;cases h
 |some j=>
  rw[e] at h
  obtain⟨h1,h2,h3,h4⟩:=zmg e
  exact⟨j,h1,h,h2,h3,h4⟩
theorem zY {α:Type}{xs:List α}{j:Nat}{v:α}(h:xs[j]?=some v):atI xs (j:Int)=some v:=by
 have hj:j<xs.length:=(List.getElem?_eq_some_iff.mp h).1
 have e:ixN xs.length (j:Int)=some j:=by
  unfold ixN
  rw[if_pos (by omega),if_pos (by omega)];simp
 unfold atI;rw[e];exact h
theorem zNh {α:Type}(xs:List α)(v:α):atI (xs++[v]) (-1)=some v:=by
 have hl:(xs++[v]).length=xs.length+1:=by simp
 have e:ixN (xs++[v]).length (-1)=some xs.length:=by
  unfold ixN
  rw[hl,if_neg (by decide),if_pos (by omega)]
  congr 1
  omega
 unfold atI
 rw[e]
 show(xs++[v])[xs.length]?=some v
 simp
def ztj (b:Expr):Prop:=∀o i,subscripted b false o i=operate [o,i] (getItem o i)
def IxR (X:Cx)(r:R2):Prop:=
 ∀(value slice:Expr)(pins:zT2)(s:Shared)(σ:St)(H:Hp)(x y:V)(v u:Value)(Q:VK),Inv X pins σ H s->RelV x v->RelV y u->r x y H Q→
  subscripted slice false v u=operate [v,u] (getItem v u)->wpAny (model X.prog X.w) X.A (subscriptTail value slice v u) (EP X pins σ Q) X.xe s
def MtR (X:Cx)(id:String)(r:V->List V->Hp->VK->Prop):Prop:=
 ∀(pins:zT2)(s:Shared)(σ:St)(H:Hp)(x:V)(xs:List V)(v:Value)(us:List Value)(Q:VK),Inv X pins σ H s->RelV x v->Vals xs us->r x xs H Q→
  wpAny (model X.prog X.w) X.A (call (.builtin id) (v::us)) (EP X pins σ Q) X.xe s
section
variable {X:Cx}{a b:Expr}{ta tb:TE}{pos:Pos}
theorem zU {r:R2}(hr:IxR X r)(ha:PE X a ta)(hb:PE X b tb)(hs:ztj b):PE X (.Subscript a b pos) (tOp r ta tb):=by
 intro pins s σ H Q I h
 exact Subscript_ (binT ha hb I h fun v u s2 x y H2 I2 rx ry q=>hr a b pins s2 σ H2 x y v u Q I2 rx ry q (hs _ _))
def rIxL (K:W.Frag):R2:=fun x y H Q=>∃p xs i v,x=.ref p/\y=.int i/\SqL K H p xs/\atI xs i=some v/\Q v H
def rIxT (K:W.Frag):R2:=fun x y H Q=>∃p xs i v,x=.ref p/\y=.int i/\SqT K H p xs/\atI xs i=some v/\Q v H
def rIxS:R2:=fun x y H Q=>∃z i c,x=.str z/\y=.int i/\z.length<=sizeLine/\atI z.cps.toList i=some c/\Q (.str ⟨#[c]⟩) H
theorem zEa:IxR X (rIxL X.K):=by
 intro value slice pins s σ H x y v u Q I rx ry h hs
 obtain⟨p,xs,i,z,rfl,rfl,hq,he,q⟩:=h
 cases rx
 obtain⟨t,rfl⟩:=ry
 obtain⟨its,r,pl,hz⟩:=I.list hq
 obtain⟨j,h1,h2,h3,h4,h5⟩:=zye he
 obtain⟨w,ew,rw'⟩:=r.get h2
 have hl:=r.length
 have hn:=zWc
 have fin:EP X pins σ Q w s:=⟨z,H,I,rw',q⟩
 by_cases h0:0<=i
 ·have hj:i.toNat=j:=by
   rw[seqIndex_of h0 h5] at h1
   exact Option.some.inj h1
  exact item_listR pl.isList h0 (by omega) (by rw[hj];simpa using ew) fin hs
 ·have hj:(i+(its.toArray.size:Int)).toNat=j:=by
   rw[seqIndex_neg (by omega) h4] at h1
   rw[List.size_toArray,<- hl]
   exact Option.some.inj h1
  exact subscriptTail_builtinR (x:=w) pl.isList.typeIs slot_list_getitem.lookup
   (wpAny_getItem_list_neg (Q:=fun r s'=>r=w/\EP X pins σ Q r s') pl.isList (by omega) (by rw[List.size_toArray]<;>omega) (by omega) (by rw[hj];simpa using ew) ⟨rfl,fin⟩) hs
theorem zfa:IxR X (rIxT X.K):=by
 intro value slice pins s σ H x y v u Q I rx ry h hs
 obtain⟨p,xs,i,z,rfl,rfl,hq,he,q⟩:=h
 cases rx
 obtain⟨t,rfl⟩:=ry
 obtain⟨its,r,pl,hz⟩:=I.tuple hq
 obtain⟨j,h1,h2,h3,h4,h5⟩:=zye he
 obtain⟨w,ew,rw'⟩:=r.get h2
 have hl:=r.length
 have hn:=zWc
 have fin:EP X pins σ Q w s:=⟨z,H,I,rw',q⟩
 exact subscriptTail_builtinR (x:=w) pl.typeIs slot_tuple_getitem.lookup
  (getItem_tuple (j:=j) (Q:=fun r s'=>r=w/\EP X pins σ Q r s') pl (by omega) (by omega) (by rw[List.size_toArray,<- hl];exact h1) (by simpa using ew) ⟨rfl,fin⟩) hs
theorem zkb:IxR X rIxS:=by
 intro value slice pins s σ H x y v u Q I rx ry h hs
 obtain⟨z,i,c,rfl,rfl,hz,he,q⟩:=h
 obtain⟨t,rfl⟩:=rx
 obtain⟨t',rfl⟩:=ry
 obtain⟨j,h1,h2,h3,h4,h5⟩:=zye he
 have hl:z.cps.toList.length=z.length:=by simp[Str.length]
 rw[hl] at h1 h4 h5
 have hn:=zWc
 exact tail_any (typeIs_str s z t) slot_str_getitem.lookup (getItem_str (c:=c) (by
  have e1:decide (i < -(2 ^ 63:Int))=false:=decide_eq_false (by omega)
  have e2:decide (i≥2 ^ 63)=false:=decide_eq_false (by omega)
  rw[e1,e2,Bool.or_false]) (by rw[h1];simpa using h2) ⟨.str ⟨#[c]⟩,H,I.tok _,⟨_,rfl⟩,q⟩) hs
theorem zFf (its:List Value)(n j:Nat)(u:Value):Obj.mapSeq (·.setIfInBounds j u) { cls:=.type "list",data:=.seq its.toArray n }={ cls:=.type "list",data:=.seq (its.set j u).toArray n }:=by
 simp[Obj.mapSeq]
theorem Inv.lst {pins:zT2}{σ:St}{H:Hp}{s:Shared}{p:Addr}{xs:List V}(I:Inv X pins σ H s)(h:H p=some (.lst xs)):
  ∃(its:List Value)(n:Nat),Vals xs its/\s.heap.get? p=some { cls:=.type "list",data:=.seq its.toArray n }/\xs.length<=sizeLine:=by
 obtain⟨z,its,n,r,e⟩:=I.hok p _ h
 exact⟨its,n,r,e,z⟩
theorem Inv.zjo {pins:zT2}{σ:St}{H:Hp}{s:Shared}{p:Addr}{xs ys:List V}{its its':List Value}{n n':Nat}{f:Obj->Obj}(I:Inv X pins σ H s)(h:H p=some (.lst xs))
  (ho:s.heap.get? p=some { cls:=.type "list",data:=.seq its.toArray n })(hf:f { cls:=.type "list",data:=.seq its.toArray n }={ cls:=.type "list",data:=.seq its'.toArray n' })(r:Vals ys its')(hz:ys.length<=sizeLine)(t:Nat):
  Inv X pins σ (upd H p (.lst ys)) { s with heap:=s.heap.update p f,toks:=t }:=by
 have e:(s.heap.update p f).get? p=some { cls:=.type "list",data:=.seq its'.toArray n' }:=by
  rw[Heap.get?_update_self f ho (by rw[hf]<;>rfl),hf]
 refine I.write (x:=p) (e:=p) (by rw[h];trivial) (.inl rfl) (fun b u hb q=>(Heap.get?_update_other _ _ (Ne.symm hb)).trans q) ⟨_,e⟩ ?_
 exact⟨hz,its',n',r,e⟩
def zJm:V->V->V->Hp->(Hp->Prop)->Prop:=fun o i v H Q=>∃p xs k j,o=.ref p/\i=.int k/\H p=some (.lst xs)/\ixN xs.length k=some j/\Q (upd H p (.lst (xs.set j v)))
theorem set_list:PSet X zJm:=by
 intro pins s σ H o i v ov iv u Q I ro ri rv h
 obtain⟨p,xs,k,j,rfl,rfl,hp,hj,q⟩:=h
 cases ro
 obtain⟨t,rfl⟩:=ri
 obtain⟨its,n,r,ho,hz⟩:=I.lst hp
 obtain⟨h1,h2,h3,h4⟩:=zmg hj
 have hl:=r.length
 have hn:=zWc
 have I':Inv X pins σ (upd H p (.lst (xs.set j v))) { s with heap:=s.heap.update p (Obj.mapSeq (·.setIfInBounds j u)) }:=
  I.zjo hp ho (zFf its n j u) (r.set rv j) (by rw[List.length_set];exact hz) s.toks
 by_cases h0:0<=k
 ·have hk:k.toNat=j:=by
   rw[seqIndex_of h0 h4] at h1
   exact Option.some.inj h1
  exact W.ki_setAt ho h0 (by omega) (by rw[List.size_toArray,<- hl];exact h4) (by rw[hk];exact⟨_,I',q⟩)
 ·have hk:(k+(its.toArray.size:Int)).toNat=j:=by
   rw[seqIndex_neg (by omega) h3] at h1
   rw[List.size_toArray,<- hl]
   exact Option.some.inj h1
  exact W.ki_setBack ho (by omega) (by rw[List.size_toArray,<- hl];exact h3) (by omega) (by rw[hk];exact⟨_,I',q⟩)
theorem zce (lo hi:Option Int)(n:Nat):(sliceBounds lo hi none n).1=((HT.sIx n 0 lo:Nat):Int)/\(sliceBounds lo hi none n).2.1=((HT.sIx n n hi:Nat):Int)/\(sliceBounds lo hi none n).2.2=1:=by
 refine⟨?_,?_,rfl⟩
 ·cases lo with
  |none=>simp[sliceBounds,HT.sIx]
  |some i=>
   simp only[sliceBounds,HT.sIx,Option.getD_none,show(1:Int) > 0 by decide,if_true]
   by_cases h:i<0
   ·simp only[h,if_true]<;>omega
   ·simp only[h,if_false]<;>omega
 ·cases hi with
  |none=>simp[sliceBounds,HT.sIx]
  |some i=>
   simp only[sliceBounds,HT.sIx,Option.getD_none,show(1:Int) > 0 by decide,if_true]
   by_cases h:i<0
   ·simp only[h,if_true]<;>omega
   ·simp only[h,if_false]<;>omega
theorem zqd (its:List Value)(lo hi:Option Int):slicePick its.toArray lo hi none=((its.drop (HT.sIx its.length 0 lo)).take (HT.sIx its.length its.length hi-HT.sIx its.length 0 lo)).toArray:=by
 obtain⟨h1,h2,h3⟩:=zce lo hi its.toArray.size
 unfold slicePick
 rw[h1,h2,h3]
 simp only[sliceRange_one,pick_run,List.size_toArray]<;>rfl
def rSlL (K:W.Frag):V->Option Int->Option Int->Hp->VK->Prop:=fun x lo hi H Q=>∃a xs,x=.ref a/\SqL K H a xs/\∀p,H p=none->Q (.ref p) (upd H p (.lst (cutV xs lo hi)))
theorem zze:SlR X (rSlL X.K):=by
 intro pins s σ H x v vl vu lo hi sl Q I rx hs pl pu h
 obtain⟨a,xs,rfl,hx,q⟩:=h
 cases rx
 obtain⟨its,r,ht,hz⟩:=I.list hx
 have hlen:=r.length
 refine⟨"list",_,slot_list_getitem.lookup,ht.isList.typeIs,?_⟩
 refine wpAny_getItem_list_slice ht.isList hs pl pu .none (by simp) ?_ (by rw[List.size_toArray]<;>omega)
 rw[zqd,<- hlen]
 refine⟨.ref s.heap.objs.size,_,I.laid (t':=s.toks) (o:=.lst (cutV xs lo hi)) (fun b ob q=>Heap.get?_push_of_some _ q) (Nat.le_refl _) ?_,rfl,q _ (I.hok.fresh (Nat.le_refl _))⟩
 exact⟨Nat.le_trans (zxe xs lo hi) hz,_,0,(r.drop (HT.sIx xs.length 0 lo)).take (HT.sIx xs.length xs.length hi-HT.sIx xs.length 0 lo),Heap.get?_push_size _ rfl⟩
def zec:V->Bool
 |.non=>true
 |.bl _=>true
 |.int _=>true
 |.str _=>true
 |_=>false
def eqV:V->V->Bool
 |.non,.non=>true
 |.bl a,.bl b=>a==b
 |.bl a,.int b=>(if a then 1 else 0)==b
 |.int a,.bl b=>a==(if b then 1 else 0)
 |.int a,.int b=>a==b
 |.str a,.str b=>a==b
 |_,_=>false
theorem zUi {A:Around}{s:Shared}{y x:V}{u v:Value}(ry:RelV y u)(rx:RelV x v)(fy:zec y=true)(fx:zec x=true):SeqAt.EqAt A s u v (eqV y x):=by
 cases y with
 |non=>
  cases ry
  cases x with
  |non=>cases rx;exact SeqAt.EqAt.same _
  |bl b=>cases rx;exact SeqAt.EqAt.none_bool b
  |int b=>obtain⟨t,rfl⟩:=rx;exact SeqAt.EqAt.none_int b t
  |str b=>obtain⟨t,rfl⟩:=rx;exact SeqAt.EqAt.none_str b t
  |_=>exact absurd (show false=true from fx) Bool.false_ne_true
 |bl a=>
  cases ry
  cases x with
  |non=>cases rx;exact SeqAt.EqAt.bool_none a
  |bl b=>cases rx;exact SeqAt.EqAt.bool_bool a b
  |int b=>obtain⟨t,rfl⟩:=rx;exact SeqAt.EqAt.bool_int a b t
  |str b=>obtain⟨t,rfl⟩:=rx;exact SeqAt.EqAt.bool_str a b t
  |_=>exact absurd (show false=true from fx) Bool.false_ne_true
 |int a=>
  obtain⟨t',rfl⟩:=ry
  cases x with
  |non=>cases rx;exact SeqAt.EqAt.int_none a t'
  |bl b=>cases rx;exact SeqAt.EqAt.int_bool a t' b
  |int b=>obtain⟨t,rfl⟩:=rx;exact SeqAt.EqAt.int_int a t' b t
  |str b=>obtain⟨t,rfl⟩:=rx;exact SeqAt.EqAt.int_str a t' b t
  |_=>exact absurd (show false=true from fx) Bool.false_ne_true
 |str a=>
  obtain⟨t',rfl⟩:=ry
  cases x with
  |non=>cases rx;exact SeqAt.EqAt.str_none a t'
  |bl b=>cases rx;exact SeqAt.EqAt.str_bool a t' b
  |int b=>obtain⟨t,rfl⟩:=rx;exact SeqAt.EqAt.str_int a t' b t
  |str b=>obtain⟨t,rfl⟩:=rx;exact SeqAt.EqAt.str_str a t' b t
  |_=>exact absurd (show false=true from fx) Bool.false_ne_true
 |_=>exact absurd (show false=true from fy) Bool.false_ne_true
def eqU (x:V)(u:Value):Bool:=match u with
 |.none=>eqV .non x
 |.bool b=>eqV (.bl b) x
 |.int i _=>eqV (.int i) x
 |.str z _=>eqV (.str z) x
 |_=>false
theorem zVi {x y:V}{u:Value}(r:RelV y u)(f:zec y=true):eqU x u=eqV y x:=by
 cases y with
 |non=>cases r;rfl
 |bl b=>cases r;rfl
 |int i=>obtain⟨t,rfl⟩:=r;rfl
 |str z=>obtain⟨t,rfl⟩:=r;rfl
 |_=>exact absurd (show false=true from f) Bool.false_ne_true
theorem zDc {x:V}:∀{xs:List V}{us:List Value},Vals xs us->xs.all zec=true->us.any (eqU x)=xs.any fun y=>eqV y x
 |_,_,.nil,_=>rfl
 |y::xs,u::us,.cons r t,f=>by
  rw[List.all_cons,Bool.and_eq_true] at f
  rw[List.any_cons,List.any_cons,zVi r f.1,zDc t f.2]
theorem zUb {A:Around}{s:Shared}{x:V}{v:Value}(rx:RelV x v)(fx:zec x=true):∀{xs:List V}{us:List Value},Vals xs us->xs.all zec=true->∀u∈us,SeqAt.EqAt A s u v (eqU x u)
 |_,_,.nil,_=>fun u hu=>by cases hu
 |y::xs,u::us,.cons r t,f=>fun u' hu=>by
  rw[List.all_cons,Bool.and_eq_true] at f
  rcases List.mem_cons.mp hu with rfl|hu
  ·rw[zVi r f.1];exact zUi r rx f.1 fx
  ·exact zUb rx fx t f.2 u' hu
def inV (x:V)(xs:List V):Bool:=xs.any fun y=>eqV y x
def rIn (K:W.Frag)(neg:Bool):R2:=fun x y H Q=>∃p xs,y=.ref p/\(SqL K H p xs\/SqT K H p xs)/\zec x=true/\xs.all zec=true/\Q (.bl (if neg then !inV x xs else inV x xs)) H
theorem zng:OpR X (compareOp .In) (rIn X.K false):=by
 intro pins s σ H x y v u Q I rx ry h
 obtain⟨p,xs,rfl,hq,fx,fs,q⟩:=h
 cases ry
 rcases hq with hq|hq
 ·obtain⟨its,r,pl,hz⟩:=I.list hq
  refine SeqAt.in_listAt (eqU x) pl.isList (fun w hw=>zUb rx fx r fs w (by simpa using hw)) ⟨.bl _,H,I,rfl,?_⟩
  rw[show its.toArray.any (eqU x)=its.any (eqU x) by simp,zDc r fs]
  exact q
 ·obtain⟨its,r,pl,hz⟩:=I.tuple hq
  refine SeqAt.in_tupleAt (eqU x) pl (fun w hw=>zUb rx fx r fs w (by simpa using hw)) ⟨.bl _,H,I,rfl,?_⟩
  rw[show its.toArray.any (eqU x)=its.any (eqU x) by simp,zDc r fs]
  exact q
theorem zmc:OpR X (compareOp .NotIn) (rIn X.K true):=by
 intro pins s σ H x y v u Q I rx ry h
 obtain⟨p,xs,rfl,hq,fx,fs,q⟩:=h
 cases ry
 rcases hq with hq|hq
 ·obtain⟨its,r,pl,hz⟩:=I.list hq
  refine SeqAt.notIn_listAt (eqU x) pl.isList (fun w hw=>zUb rx fx r fs w (by simpa using hw)) ⟨.bl _,H,I,rfl,?_⟩
  rw[show its.toArray.any (eqU x)=its.any (eqU x) by simp,zDc r fs]
  exact q
 ·obtain⟨its,r,pl,hz⟩:=I.tuple hq
  refine SeqAt.notIn_tupleAt (eqU x) pl (fun w hw=>zUb rx fx r fs w (by simpa using hw)) ⟨.bl _,H,I,rfl,?_⟩
  rw[show its.toArray.any (eqU x)=its.any (eqU x) by simp,zDc r fs]
  exact q
theorem znc:OpR X (compareOp .NotIn) (fun x y H Q=>∃i j,x=.str i/\y=.str j/\Q (.bl (!(!(Builtin.Str.occurrences j i 0 j.length 1).isEmpty))) H):=by
 intro pins s σ H x y v u Q I rx ry h
 obtain⟨i,j,rfl,rfl,q⟩:=h
 obtain⟨t,rfl⟩:=rx
 obtain⟨t',rfl⟩:=ry
 exact notIn_str ⟨.bl _,H,I,rfl,q⟩
theorem zo:zSb X (.builtin "len") (fun xs H Q=>∃p ys,xs=[.ref p]/\(SqL X.K H p ys\/SqT X.K H p ys)/\Q (.int ys.length) H):=by
 intro pins s σ H xs us Q I r h
 obtain⟨p,ys,rfl,hq,q⟩:=h
 obtain⟨u,rfl,rx⟩:=vals1 r
 cases rx
 have hn:=zWc
 rcases hq with hq|hq
 ·obtain⟨its,r',pl,hz⟩:=I.list hq
  have hlen:=r'.length
  exact Calls.call_len_list pl.isList (by simp only[List.size_toArray]<;>omega) ⟨.int ys.length,H,I.tok _,⟨s.toks+1,by rw[List.size_toArray,hlen]⟩,q⟩
 ·obtain⟨its,r',pl,hz⟩:=I.tuple hq
  have hlen:=r'.length
  exact len_tuple pl (by simp only[List.size_toArray]<;>omega) ⟨.int ys.length,H,I.tok _,⟨s.toks+1,by rw[List.size_toArray,hlen]⟩,q⟩
theorem zca:zSb X (.builtin "len") (fun xs H Q=>∃z,xs=[.str z]/\z.length<=sizeLine/\Q (.int z.length) H):=by
 intro pins s σ H xs us Q I r h
 obtain⟨z,rfl,hz,q⟩:=h
 obtain⟨u,rfl,t,rfl⟩:=vals1 r
 have hn:=zWc
 exact len_str (by omega) ⟨.int z.length,H,I.tok _,⟨_,rfl⟩,q⟩
theorem zL:zSb X (.type "tuple") (fun xs H Q=>∃p ys,xs=[.ref p]/\((SqL X.K H p ys/\∀l,H l=none->Q (.ref l) (upd H l (.tup ys)))\/(SqT X.K H p ys/\Q (.ref p) H))):=by
 intro pins s σ H xs us Q I r h
 obtain⟨p,ys,rfl,h⟩:=h
 obtain⟨u,rfl,rx⟩:=vals1 r
 cases rx
 rcases h with⟨hq,q⟩|⟨hq,q⟩
 ·obtain⟨its,r',pl,hz⟩:=I.list hq
  have hlen:=r'.length
  refine call_tuple_list pl.isList (fun h' kp=>?_) (by simp only[List.size_toArray]<;>omega)
  have I1:Inv X pins σ H { s with heap:=h' }:=I.kept (t':=s.toks) kp
  have I2:Inv X pins σ (upd H h'.objs.size (.tup ys)) { s with heap:=h'.push { cls:=.type "tuple",data:=.seq its.toArray } }:=
   I1.laid (t':=s.toks) (fun b o e=>Heap.get?_push_of_some _ e) (Nat.le_refl _) (show zqa X.prog X.w _ _ _ (.tup ys) from⟨hz,its,r',IsTup.new _ _⟩)
  exact⟨.ref h'.objs.size,_,I2,rfl,q _ (I1.hok.fresh (Nat.le_refl _))⟩
 ·obtain⟨its,r',pl,hz⟩:=I.tuple hq
  exact call_tuple_same pl ⟨.ref p,H,I,rfl,q⟩
def tyV (K:W.Frag)(T:String)(x:V)(H:Hp):Prop:=match x with
 |.str _=>T="str"
 |.int _=>T="int"
 |.ref p=>(T="list"/\∃xs,SqL K H p xs)\/(T="tuple"/\∃o,K.lookup p=some o/\o.cls=.type "tuple"/\o.dict=none)∨
   (T="dict"/\((∃kvs,H p=some (.dK kvs))\/∃kvs,H p=some (.dT kvs)))\/(T="set"/\∃S n,H p=some (.set S n))
 |_=>False
theorem zZk {pins:zT2}{σ:St}{H:Hp}{s:Shared}{T:String}{x:V}{v:Value}(I:Inv X pins σ H s)(r:RelV x v)(ty:tyV X.K T x H):
  s.TypeIs v T/\∀a,v=.ref a->∃ob,s.heap.get? a=some ob/\ob.dict=none:=by
 cases x with
 |str z=>
  obtain⟨t,rfl⟩:=r
  cases(show T="str" from ty)
  exact⟨typeIs_str s z t,fun _ e=>nomatch e⟩
 |int i=>
  obtain⟨t,rfl⟩:=r
  cases(show T="int" from ty)
  exact⟨typeIs_int s i t,fun _ e=>nomatch e⟩
 |ref p=>
  cases r
  rcases ty with⟨rfl,xs,hq⟩|⟨rfl,o,hk,hc,hd⟩|⟨rfl,hk⟩|⟨rfl,S,n,hk⟩
  ·obtain⟨its,_,pl,_⟩:=I.list hq
   refine⟨pl.isList.typeIs,fun a e=>?_⟩
   cases e
   obtain⟨o,n,e,c,hd,_⟩:=pl
   exact⟨o,e,hd⟩
  ·refine⟨⟨o,I.kIn p o hk,hc⟩,fun a e=>?_⟩
   cases e
   exact⟨o,I.kIn _ o hk,hd⟩
  ·have z:∃o,s.heap.get? p=some o/\o.ExactDict:=by
    rcases hk with⟨kvs,hk⟩|⟨kvs,hk⟩
    ·obtain⟨_,_,_,_,o,_,_,e,ex,_⟩:=I.hok p _ hk
     exact⟨o,e,ex⟩
    ·obtain⟨_,_,_,_,o,_,_,e,ex,_⟩:=I.hok p _ hk
     exact⟨o,e,ex⟩
   obtain⟨o,e,ex⟩:=z
   refine⟨⟨o,e,ex.1⟩,fun a e2=>?_⟩
   cases e2
   exact⟨o,e,ex.2.1⟩
  ·obtain⟨o,_,_,_,e,ex,_⟩:=I.hok p _ hk
   refine⟨⟨o,e,ex.1⟩,fun a e2=>?_⟩
   cases e2
   exact⟨o,e,ex.2.1⟩
 |_=>exact False.elim ty
def tBM (K:W.Frag)(T:String)(r:V->List V->Hp->VK->Prop)(to:TE)(t:TA):TE:=fun σ H Q=>to σ H fun x H1=>tyV K T x H1/\t σ H1 fun xs H2=>r x xs H2 Q
variable {o e:Expr}{es:List Expr}{to:TE}{t:TA}{name:Str}{apos cpos:Pos}{T id:String}{r:V->List V->Hp->VK->Prop}
theorem zQa (pa:PlainAttrs T)(slot:Slot T name id)(hty:typeOf (.builtin id)=pure (.type "method_descriptor"))(hm:MtR X id r)(ho:PE X o to)(ha:PA X (e::es) t)
  (hbase:attributeBase o name X.env (eval o X.env)=eval o X.env:=by rfl)
  (hfew:((backTo cpos (starEach (e::es) X.env)).all (fun x=>!x.1)&&(backToKw cpos (keywordEach [] X.env)).all (fun x=>x.1.isSome)
   &&decide ((e::es).length+([]:List Keyword).length+(if ([]:List Keyword).isEmpty then 0 else 1)<30))=true:=by rfl)
  (hline:(apos.endLine==cpos.line)=true:=by rfl) (hs:starEach (e::es) X.env=(false,eval e X.env)::starEach es X.env:=by rfl) (hplain:(backTo cpos (starEach es X.env)).any (·.1)=false:=by rfl):
  PE X (.Call (.Attribute o name apos) (e::es) [] cpos) (tBM X.K T r to t):=by
 intro pins s σ H Q I h
 refine wpAny_Call_method_late hbase hfew hline rfl (thn (ho pins s σ H _ I h) fun v s1 ⟨x,H1,I1,r1,ty,q1⟩=>?_)
 obtain⟨h1,h2⟩:=zZk I1 r1 ty
 refine⟨T,id,pa,slot,hty,h1,h2,?_⟩
 have hA:=ha cpos pins s1 σ H1 _ I1 q1
 rw[hs] at hA ⊢
 refine Calls.callWith_builtin (by show(false||(backTo cpos (starEach es X.env)).any (·.1))=false;rw[hplain]<;>rfl) (Calls.evalArgs_plain ?_)
 exact thn hA fun us s2 ⟨vs,H2,I2,r2,q2⟩=>hm pins s2 σ H2 x vs v us Q I2 r1 r2 q2
end
def MtM (X:Cx)(id:String)(r:V->List V->Hp->VK->Prop):Prop:=
 ∀(pins:zT2)(s:Shared)(σ:St)(H:Hp)(x:V)(xs:List V)(v:Value)(us:List Value)(Q:VK),Inv X pins σ H s->RelV x v->Vals xs us->r x xs H Q→
  wpAny (model X.prog X.w) X.A (call (.builtin id) (v::us)) (EP X pins σ Q) X.xe s
theorem Vals.one:∀{x:V}{us:List Value},Vals [x] us->∃u,us=[u]/\RelV x u
 |_,_,.cons r .nil=>⟨_,rfl,r⟩
theorem Vals.two:∀{x y:V}{us:List Value},Vals [x,y] us->∃u v,us=[u,v]/\RelV x u/\RelV y v
 |_,_,_,.cons r (.cons q .nil)=>⟨_,_,rfl,r,q⟩
theorem Vals.rep {xs:List V}{us:List Value}(h:Vals xs us):∀k:Nat,Vals (List.replicate k xs).flatten (List.replicate k us).flatten
 |0=>.nil
 |k+1=>by
  rw[List.replicate_succ,List.replicate_succ,List.flatten_cons,List.flatten_cons]
  exact Vals.append h (Vals.rep h k)
theorem foldl_rep (its:List Value):∀(k:Nat)(acc:List Value),
  List.foldl (fun x1 x2=>x1++x2) acc.toArray (List.replicate k its.toArray)=(acc++(List.replicate k its).flatten).toArray
 |0,acc=>by simp
 |k+1,acc=>by
  have e:acc.toArray++its.toArray=(acc++its).toArray:=by simp
  have e2:(acc++its)++(List.replicate k its).flatten=acc++(List.replicate (k+1) its).flatten:=by
   rw[List.replicate_succ,List.flatten_cons,List.append_assoc]
  rw[<- e2,<- foldl_rep its k (acc++its),<- e,List.replicate_succ,List.foldl_cons]
section
variable {X:Cx}{pins:zT2}{σ:St}{H:Hp}{s:Shared}{l b:Addr}{xs ys zs:List V}
theorem Inv.zzo {its its':List Value}{n:Nat}{f:Array Value->Array Value}{t':Nat}(I:Inv X pins σ H s)(hH:H l=some (.lst xs))
  (e:s.heap.get? l=some { cls:=.type "list",data:=.seq its.toArray n })(hf:f its.toArray=its'.toArray)(hv:Vals ys its')(hz:ys.length<=sizeLine):
  Inv X pins σ (upd H l (.lst ys)) { s with heap:=s.heap.update l (Obj.mapSeq f),toks:=t' }:=by
 have q:=PySem.IsL.update e f
 rw[hf] at q
 refine I.write (x:=l) (e:=l) (by rw[hH];exact trivial) (.inl rfl) (fun b' u hb hu=>(Heap.get?_update_other s.heap (Obj.mapSeq f) (Ne.symm hb)).trans hu) ⟨_,q⟩ ?_
 exact⟨hz,its',_,hv,q⟩
theorem Inv.zAo {its:List Value}{t':Nat}(I:Inv X pins σ H s)(hv:Vals ys its)(hz:ys.length<=sizeLine):
  Inv X pins σ (upd H s.heap.objs.size (.lst ys)) { s with heap:=s.heap.push { cls:=.type "list",data:=.seq its.toArray },toks:=t' }:=
 I.laid (fun _ _ q=>Heap.get?_push_of_some _ q) (Nat.le_refl _) ⟨hz,its,0,hv,Heap.get?_push_size _ rfl⟩
theorem Inv.fresh (I:Inv X pins σ H s):H s.heap.objs.size=none:=I.hok.fresh (Nat.le_refl _)
theorem Inv.zBo (I:Inv X pins σ H s)(hH:H l=some (.lst xs)):xs.length<=sizeLine/\∃(its:List Value)(n:Nat),Vals xs its/\xs.length=its.length/\s.heap.get? l=some { cls:=.type "list",data:=.seq its.toArray n }:=by
 obtain⟨z,its,n,r,e⟩:=I.hok l _ hH
 exact⟨z,its,n,r,r.length,e⟩
theorem zWe {n:Nat}(h:n<=sizeLine):Builtin.List.listTooLong n=false:=by
 unfold Builtin.List.listTooLong
 exact decide_eq_false (by omega)
end
section
variable {X:Cx}
def zuj:V->List V->Hp->VK->Prop:=fun x vs H Q=>∃l xs y,x=.ref l/\vs=[y]/\H l=some (.lst xs)/\xs.length<sizeLine/\Q .non (upd H l (.lst (xs++[y])))
theorem zka:MtM X "list.append" zuj:=by
 intro pins s σ H x vs v us Q I rx rv h
 obtain⟨l,xs,y,rfl,rfl,hH,hz,q⟩:=h
 cases rx
 obtain⟨u,rfl,ru⟩:=rv.one
 obtain⟨z,its,n,r,hl,e⟩:=I.zBo hH
 refine call_meets F.slot_list_append ⟨_,e,rfl⟩ F.entry_list_append (F.args_list_append_2 _ _) (PySem.list_append l its.toArray n u (by rw[List.size_toArray];omega)) ⟨e,?_⟩
 refine⟨.non,_,I.zzo (its':=its++[u]) hH e (by simp) (r.append (.cons ru .nil)) ?_,rfl,q⟩
 rw[List.length_append,List.length_singleton]
 omega
def zvj:V->List V->Hp->VK->Prop:=fun x vs H Q=>∃l b xs zs,x=.ref l/\vs=[.ref b]/\H l=some (.lst xs)/\H b=some (.lst zs)/\xs.length+zs.length<=sizeLine/\Q .non (upd H l (.lst (xs++zs)))
theorem zog:MtM X "list.extend" zvj:=by
 intro pins s σ H x vs v us Q I rx rv h
 obtain⟨l,b,xs,zs,rfl,rfl,hH,hB,hz,q⟩:=h
 cases rx
 obtain⟨u,rfl,ru⟩:=rv.one
 cases ru
 obtain⟨z,its,n,r,hl,e⟩:=I.zBo hH
 obtain⟨z2,its2,n2,r2,hl2,e2⟩:=I.zBo hB
 have hsz:its.toArray.size+its2.toArray.size<=sizeLine:=by rw[List.size_toArray,List.size_toArray];omega
 have hlong:¬(!its.toArray.isEmpty&&Builtin.List.listTooLong (its.toArray.size+its2.toArray.size))=true:=by
  rw[zWe hsz,Bool.and_false]
  exact Bool.false_ne_true
 refine call_meets F.slot_list_extend ⟨_,e,rfl⟩ F.entry_list_extend (F.args_list_extend_2 _ _)
  (AutoSeq1.list_extend_list_list_0 l its.toArray n b its2.toArray n2 hlong (by rw[List.size_toArray];omega) (by omega)) ⟨e,e2,?_⟩
 refine⟨.non,_,I.zzo (its':=its++its2) hH e (by simp) (r.append r2) ?_,rfl,q⟩
 rw[List.length_append]
 omega
def rRep:R2:=fun x y H Q=>∃l k xs,x=.ref l/\y=.int k/\H l=some (.lst xs)/\-(2 ^ 63)<=k/\k<2 ^ 63/\xs.length*k.toNat<=sizeLine∧
 ∀p,H p=none->Q (.ref p) (upd H p (.lst (List.replicate k.toNat xs).flatten))
theorem len_rep {α:Type}(xs:List α)(k:Nat):(List.replicate k xs).flatten.length=k*xs.length:=by
 induction k with
 |zero=>simp
 |succ k ih=>rw[List.replicate_succ,List.flatten_cons,List.length_append,ih,Nat.succ_mul,Nat.add_comm]
theorem zal:OpR X (binaryOp .Mult) rRep:=by
 intro pins s σ H x y v u Q I rx ry h
 obtain⟨l,k,xs,rfl,rfl,hH,h1,h2,hz,q⟩:=h
 cases rx
 obtain⟨t,rfl⟩:=ry
 obtain⟨z,its,n,r,hl,e⟩:=I.zBo hH
 have hlen:its.toArray.size*k.toNat<=sizeLine:=by rw[List.size_toArray,<- hl];exact hz
 have hcap:¬its.toArray.size*k.toNat > (2 ^ 63-1) / 8:=by
  have:(sizeLine:Nat)<=(2 ^ 63-1) / 8:=by decide
  omega
 have hfit:¬(!Builtin.List.listFitsIndex k)=true:=by
  rw[fitsIndex_both h1 h2]
  exact Bool.false_ne_true
 have hlong:¬Builtin.List.listTooLong (its.toArray.size*k.toNat)=true:=by
  rw[zWe hlen]
  exact Bool.false_ne_true
 have hnew:List.foldl (fun x1 x2=>x1++x2) #[] (List.replicate (if its.toArray.isEmpty=true then 0 else k.toNat) its.toArray)=(List.replicate k.toNat its).flatten.toArray:=by
  have f0:∀m:Nat,List.foldl (fun x1 x2=>x1++x2) #[] (List.replicate m its.toArray)=(List.replicate m its).flatten.toArray:=fun m=>by
   have:=foldl_rep its m []
   rw[List.nil_append] at this
   exact this
  rw[f0]
  cases its with
  |nil=>simp
  |cons a r'=>rw[if_neg (by simp)]
 refine wpAny_binaryOp_repeat_ref (T:="list") (U:="int") (by decide) ⟨_,e,rfl⟩ (fun s'=>typeIs_int s' k t) noFill_list_mul F.fills_int_mul F.slot_int_rmul repeat_list F.slot_int_index.lookup
  (call_meets F.slot_int_rmul (typeIs_int s k t) F.entry_int_rmul (F.args_int_rmul_2 _ _) (int___rmul___int_list k t l its.toArray n)
   ⟨e,rfl,⟨_,e,rfl⟩,call_meets F.slot_list_mul ⟨_,e,rfl⟩ F.entry_list_mul (F.args_list_mul_2 _ _) (AutoListH.list___mul___list_int_3 l its.toArray n k t hfit hcap hlong) ⟨e,?_⟩⟩)
 rw[hnew]
 exact⟨.ref _,_,I.zAo (t':=s.toks) (r.rep k.toNat) (by rw[len_rep,Nat.mul_comm];exact hz),rfl,q _ I.fresh⟩
end
end L2
namespace Att
open PySem PySem.W PySem.Calls PyProof.Rows
theorem zEc {P:Params}{h:Heap}:∀(ns:List Int)(vs:List Value),WellAll P h vs (ns.map WData.int)->IntsAre vs ns:=by
 intro ns
 induction ns with
 |nil=>
  intro vs w
  rw[List.map_nil] at w
  cases w
  exact .nil
 |cons n ns ih=>
  intro vs w
  rw[List.map_cons] at w
  cases w with
  |cons a b=>
   cases a
   exact .cons _ _ (ih _ b)
theorem zpg {l:OpenLaw}{n:Nat}(hn:l.most=some n){P:Params}{h:Heap}{args:List WData}{vals:List Value}
  (hpre:l.row.toRowW.claim.pre args=true)(hwl:WellAll P h vals args):
  ∃a vs ns,vals=[Value.ref a]/\args=[WData.list (ns.map WData.int)]/\h.get? a=some { cls:=.type "list",data:=.seq vs.toArray }/\IntsAre vs ns/\ns.length<=n:=by
 have hsh:WShape.hasAll [] args [.list .int]=true:=(pre_splitW hpre).1
 have hc:l.pre.holds [] { args:=args }=true:=(pre_splitW hpre).2
 obtain⟨d,r,rfl,h1,h2⟩:=hasAllW_cons hsh
 obtain rfl:=hasAllW_nil h2
 obtain⟨xs,rfl,h3⟩:=hasW_list h1
 obtain⟨ns,rfl⟩:=items_int h3
 have hlen:ns.length<=n:=by
  unfold OpenLaw.pre at hc
  have h4:(WTm.not (.lt (.lit (.int (n:Int))) (.len (.arg 0)))).holds [] { args:=[.list (ns.map .int)] }=true:=by
   have h4:=(holds_andW hc).1
   rw[hn] at h4
   exact h4
  have h5:=condW_of h4 (w_not (w_lt w_lit (w_len_list (w_arg rfl))))
  rw[List.length_map] at h5
  refine Nat.le_of_not_lt fun q=>?_
  have q':(n:Int)<((ns.length:Nat):Int):=by omega
  first
   | (rw[decide_eq_true q'] at h5;exact absurd h5 (by decide))
   | (simp at h5;omega)
 cases hwl with
 |cons w1 w2=>
  cases w2
  cases w1 with
  |list ho hall=>exact⟨_,_,ns,rfl,rfl,ho,zEc ns _ hall,hlen⟩
theorem zqg (l:OpenLaw)(args:List WData):l.row.toRowW.claim.post args (.bool true) args=true:=
 postW_of (r:=l.row.toRowW) (X:=(true==true))
  (show WShape.has [] (.bool true) .bool=true by first|rfl|decide|simp[WShape.has,WShape.arms,WShape.armsAll])
  (show(WTm.eq .res (.lit (.bool true))).value [] { args:=args,res:=some (.bool true),after:=args }=some (.bool (true==true)) from w_eq_bool (w_res rfl) w_lit) rfl
theorem zAe {l:OpenLaw}{n:Nat}{q:Program}{loose:List Str}{XP:(Str->Option Value)->Heap->Prop}{YP:World->Heap->Prop}{d:DefRec}
  (hn:l.most=some n)(hdf:d.params.defaults=[])
  (call:∀(w:World)(s₀ s₁:Shared)(mg mb:zT3)(fa:Addr)(o:Obj)(pm cd doc:Value)(a:Addr)(vs:List Value)(ns:List Int),
   Ground q loose [] XP w s₀ mg mb s₁.heap->YP w s₁.heap→
   s₁.heap.get? fa=some o->o.data=.func (docDef d.name d.params d.body d.scope pm cd doc)->s₁.heap.CodeRec cd d.name->mg d.name=some (.ref fa)→
   s₁.heap.get? a=some { cls:=.type "list",data:=.seq vs.toArray }->IntsAre vs ns->ns.length<=n->s₁.gens=#[]→
   codeAny (model l.prog w) callerA (.call (.ref fa) ⟨[.ref a],[]⟩) (fun r s'=>r=.ok (.ret (.bool true))/\OldK s₁.heap s'.heap/\s'.os=s₁.os/\AllBare s'.gens) s₁):
  WalkO q loose XP YP l.row.toRowW d [] (fun f vs=>PySem.call f vs):=by
 intro w s₀ s₁ mg mb G Y fa o pm cd doc dV kV ho hd hcd hD hmg hg args vals as hpre hlay hrd hwl hlo
 obtain rfl:dV=.none:=Dflts.none hD hdf
 obtain rfl:kV=.none:=Dflts.noKw hD
 obtain⟨a,vs,ns,rfl,rfl,hobj,hints,hlen⟩:=zpg hn hpre hwl
 refine enter_call (codeAny_mono (call w s₀ s₁ mg mb fa o pm cd doc a vs ns G Y ho (fd_plain hd) hcd hmg hobj hints hlen hg) fun r s' hq=>?_)
 obtain⟨rfl,h2,h3,h4⟩:=hq
 exact⟨.inl ⟨.bool true,.bool true,[],rfl,fun _=>rfl,.bool true,zqg l _,fun _=>⟨List.Pairwise.nil,fun _ hm=>(nomatch hm)⟩⟩,h2,h3,h4⟩
end Att
namespace L2
open PySem PySem.Spec PyProof.Rows
theorem zde:∀{vs:List Value}{ns:List Int},IntsAre vs ns->Vals (ns.map V.int) vs
 |_,_,.nil=>.nil
 |_,_,.cons n t h=>.cons ⟨t,rfl⟩ (zde h)
def Only (H:Hp):Prop:=∀b,H b=none\/∃o xs,H b=some (.frz o (.lst xs))
theorem zOh {P:Program}{w:World}{K:W.Frag}{mg mb:zT3}{CX:CXT}{k:Nat}{fa a:Addr}{fd:FuncData}{x:Str}{sp:Sp}{s₁:Shared}{vs:List Value}{ns:List Int}
  (KX:K.In s₁.heap)(hns:s₁.heap.Ns mainGlobals mg)(hb:s₁.heap.Ns builtinsNs mb)(hbb:∀x:Str,x≠"__name__"->mb x=bootBuiltins x)(hlim:s₁.heap.NoLimit)(hg:s₁.gens=#[])
  (ha:s₁.heap.get? a=some { cls:=.type "list",data:=.seq vs.toArray })(hi:IntsAre vs ns)(hl:ns.length<=sizeLine)(hr:Room k callerA)
  (F:∀base:Heap,K.In base->base.Ns mainGlobals mg->FnOk P w K mg base CX k fa fd [x] sp) (hbind:∀(s:Shared)(u:Value),BindsTo s fd ⟨[u],[]⟩ [(x,u)])
  (hsp:∀H:Hp,Only H->SqL K H a (ns.map V.int)->sp [.ref a] H (fun v _=>v=.bl true) fun _ _ _=>False)
  (hCX:∀H e s',CX [] H s₁ (fun _ _ _=>False) e s'->False):
  codeAny (model P w) callerA (.call (.ref fa) ⟨[.ref a],[]⟩) (fun r s'=>r=.ok (.ret (.bool true))/\OldK s₁.heap s'.heap/\s'.os=s₁.os/\AllBare s'.gens) s₁:=by
 have rv:=zde hi
 have lenV:=hi.length
 have core:∀H:Hp,Only H->SqL K H a (ns.map V.int)->HOk P w H s₁.heap->(∀b,H b≠none->b=a)->(H a≠none->K.lookup a=none)→
   codeAny (model P w) callerA (.call (.ref fa) ⟨[.ref a],[]⟩) (fun r s'=>r=.ok (.ret (.bool true))/\OldK s₁.heap s'.heap/\s'.os=s₁.os/\AllBare s'.gens) s₁:=by
  intro H hO hS hok hA hK
  have base_of:∀{b:Addr}{o:Obj},s₁.heap.get? b=some o->H b=none->(hidT s₁.heap H).get? b=some o:=fun e n=>hidT_get e n
  have noA:∀{b:Addr}{o:Obj}{es:Array DictEntry}{ep:Nat},s₁.heap.get? b=some o->o.data=.dict es ep->H b=none:=fun {b o es ep} e d=>by
   cases q:H b with
   |none=>rfl
   |some u=>
    have e':b=a:=hA b (by rw[q];simp)
    subst e'
    rw[ha] at e;cases e
    have d':Data.seq vs.toArray _=Data.dict es ep:=d
    cases d'
  have nsK:∀{b:Addr}{m:zT3},s₁.heap.Ns b m->(hidT s₁.heap H).Ns b m:=fun {b m} ⟨o,es,ep,e,d,r⟩=>⟨o,es,ep,base_of e (noA e d),d,r⟩
  have hKb:K.In (hidT s₁.heap H):=fun b o e=>base_of (KX b o e) (by
   cases q:H b with
   |none=>rfl
   |some u=>
    have e':b=a:=hA b (by rw[q];simp)
    subst e'
    rw[hK (by rw[q];simp)] at e;cases e)
  have hM:Mod K mg (hidT s₁.heap H):=⟨hKb,nsK hns,⟨mb,nsK hb,hbb⟩,let ⟨mc,h1,h2⟩:=hlim;⟨mc,nsK h1,h2⟩⟩
  have e0:Env0 P w K mg (hidT s₁.heap H) callerA [] s₁ H:=⟨rfl,hM,fun b o e=>zmj e,Nat.le_of_eq (hidT_size _ _),trivial,fun b hb=>absurd (show b∈([]:List Addr) from hb) (by simp),hok,.of_eq hg⟩
  refine codeAny_mono ((F _ hKb (nsK hns)).run callerA [] s₁ H ⟨[.ref a],[]⟩ [.ref a] [.ref a] _ _ hr e0 (hbind s₁ (.ref a)) (.cons rfl .nil) (hsp H hO hS)) fun r s' h=>?_
  cases r with
  |error e=>exact(hCX H e s' h).elim
  |ok fl=>
   cases fl with
   |next=>exact False.elim h
   |brk=>exact False.elim h
   |cont=>exact False.elim h
   |ret u=>
    obtain⟨v,H',os,bare,un,hok',r',q⟩:=h
    have q':v=.bl true:=q
    subst q'
    obtain rfl:u=Value.bool true:=r'
    refine⟨rfl,OldK.of_keep fun b o e=>?_,os,bare⟩
    cases q:H b with
    |none=>exact un.keep b o e q (by intro z;exact absurd (show b∈([]:List Addr) from z) (by simp)) (by simp)
    |some u=>
     rcases hO b with z|⟨ob,xs,z⟩
     ·rw[q] at z;cases z
     ·have z2:=un.frzs b ob _ z
      obtain⟨e1,_⟩:=hok b _ z
      obtain⟨e2,_⟩:=hok' b _ z2
      rw[e] at e1;cases e1
      exact e2
 cases hk:K.lookup a with
 |some o=>
  have e:=KX a o hk
  rw[ha] at e
  cases e
  refine core (fun _=>none) (fun _=>.inl rfl) (.inr ⟨_,vs.toArray,_,hk,rfl,rfl,rfl,by rw[List.size_toArray,lenV];exact hl,by simpa using rv⟩) (fun b u z=>by have z':(none:Option HO)=some u:=z;cases z') (fun b z=>absurd rfl z) fun z=>absurd rfl z
 |none=>
  refine core (fun b=>if b=a then some (.frz { cls:=.type "list",data:=.seq vs.toArray } (.lst (ns.map V.int))) else none) (fun b=>?_) (.inl (.inr ⟨{ cls:=.type "list",data:=.seq vs.toArray },if_pos rfl⟩)) (fun b u z=>?_) (fun b z=>?_) fun _=>hk
  ·by_cases hb:b=a
   ·exact .inr ⟨_,_,if_pos hb⟩
   ·exact .inl (if_neg hb)
  ·by_cases hb:b=a
   ·have z':=(if_pos hb).symm.trans z
    cases z'
    subst hb
    exact⟨ha,by rw[List.length_map];exact hl,vs,_,rv,ha⟩
   ·have z':=(if_neg hb).symm.trans z
    cases z'
  ·by_cases hb:b=a
   ·exact hb
   ·exact absurd (if_neg hb) z
theorem zwj {l:W.OpenLaw}{n k:Nat}{q:Program}{loose:List Str}{XP:(Str->Option Value)->Heap->Prop}{YP:World->Heap->Prop}{d:DefRec}{K:Params->W.Frag}{CX:World->CXT}{sp:World->Sp}{x:Str}
  (hn:l.most=some n)(hn2:n<=sizeLine)(hdf:d.params.defaults=[])(hr:Room k callerA)
  (hY:∀(w:World)(h:Heap),YP w h->(K w.params).In h)
  (F:∀(w:World)(mg:zT3)(fa:Addr)(h:Heap),(K w.params).In h->h.Ns mainGlobals mg->mg d.name=some (.ref fa)→
   ∃fd:FuncData,(∀(s:Shared)(u:Value),BindsTo s fd ⟨[u],[]⟩ [(x,u)])∧
    ∀base:Heap,(K w.params).In base->base.Ns mainGlobals mg->FnOk l.prog w (K w.params) mg base (CX w) k fa fd [x] (sp w))
  (hsp:∀(w:World)(H:Hp)(a:Addr)(ns:List Int),ns.length<=n->Only H->SqL (K w.params) H a (ns.map V.int)->sp w [.ref a] H (fun v _=>v=.bl true) fun _ _ _=>False)
  (hCX:∀(w:World)(H:Hp)(s:Shared)(e:Value)(s':Shared),CX w [] H s (fun _ _ _=>False) e s'->False):
  W.WalkO q loose XP YP l.row.toRowW d [] (fun f vs=>PySem.call f vs):=by
 refine Att.zAe hn hdf fun w s₀ s₁ mg mb fa o pm cd doc a vs ns G Y ho hd hcd hmg hobj hints hlen hg=>?_
 have KX:=hY w _ Y
 obtain⟨fd,hb,hF⟩:=F w mg fa _ KX G.T.g hmg
 exact zOh KX G.T.g G.T.b G.T.builtins G.T.nolimit hg hobj hints (Nat.le_trans hlen hn2) hr hF hb (fun H hO hS=>hsp w H a ns hlen hO hS) fun H e s'=>hCX w H s₁ e s'
abbrev CX0:CXT:=fun _ _ _ _ _ _=>False
abbrev E0:XK:=fun _ _ _=>False
theorem zw {X:Cx}:Passes CX0 X E0:=fun _ _ _ _ _ _ _ h=>h.elim
structure Fun (K:W.Frag)(x qual:Str)(st:Stmt)(f:Addr)(fd:FuncData):Prop where
 ex:∃(oc:Value)(od:Option Addr)(kV doc pm:Value)(an:Option Addr)(cdv ct:Value)(osl:Array (Option Value)),
  fd=W.fnOf x qual (zk st) (zj st) (zb st) .none kV doc pm an cdv ct/\K.lookup f=some ⟨oc,od,.func fd,osl⟩/\W.codeIn K cdv qual=true
 kp:W.keepIn K (.ref f)=true
section
variable {P:Program}{w:World}{K:W.Frag}{mg:zT3}{base:Heap}
theorem Fun.ok {x qual:Str}{st:Stmt}{f:Addr}{fd:FuncData}{N ps:List Str}{k:Nat}{sp:Sp}(F:Fun K x qual st f fd)(S:FnScope N ps (zb st))(len:∀vs H Q E,sp vs H Q E->vs.length=ps.length)
  (hbody:∀(cdv:Value)(A:Around)(outer:List Env)(s:Shared)(H:Hp)(vs:List V)(Q:VK)(E:XK),Room k (A.deeper (envOfC qual (zb st) s.heap.objs.size f cdv))->sp vs H Q E→
   ∃t,PSs (cxOf CX0 P w K mg base N qual (zb st) f cdv A outer s H E).nox (zj st) t/\t { nx:=fun _ H'=>Q .non H',rt:=Q } (start N vs) H):FnOk P w K mg base CX0 (k+1) f fd ps sp:=by
 obtain⟨oc,od,kV,doc,pm,an,cdv,ct,osl,rfl,lk,hcd⟩:=F.ex
 refine zMh lk hcd S len fun A outer s H vs Q E hr hsp=>?_
 obtain⟨t,h,q⟩:=hbody cdv A outer s H vs Q E hr hsp
 exact⟨t,h.nox,q⟩
theorem Fun.binds {x qual:Str}{st:Stmt}{f:Addr}{fd:FuncData}{ps:List Str}(F:Fun K x qual st f fd)
  (h:∀(kV doc pm:Value)(an:Option Addr)(cdv ct:Value)(us:List Value),us.length=ps.length->bindArgs (W.fnOf x qual (zk st) (zj st) (zb st) .none kV doc pm an cdv ct) ⟨us,[]⟩=pure (ps.zip us)):Binds K fd ps []:=by
 obtain⟨oc,od,kV,doc,pm,an,cdv,ct,osl,rfl,lk,hcd⟩:=F.ex
 exact .all (h kV doc pm an cdv ct)
theorem zI {x qual:Str}{st:Stmt}{f:Addr}{oc:Value}{od an:Option Addr}{osl:Array (Option Value)}{kV doc pm cdv ct:Value}(l:K.lookup f=some ⟨oc,od,.func (W.fnOf x qual (zk st) (zj st) (zb st) .none kV doc pm an cdv ct),osl⟩)
  (c:W.codeIn K cdv qual=true)(k:W.keepIn K (.ref f)=true):Fun K x qual st f (W.fnOf x qual (zk st) (zj st) (zb st) .none kV doc pm an cdv ct):=⟨⟨oc,od,kV,doc,pm,an,cdv,ct,osl,rfl,l,c⟩,k⟩
end
theorem zv {n:Nat}(h:n<=1000):n<sizeLine:=Nat.lt_of_le_of_lt h (by decide)
section
variable {X:Cx}
theorem pv (i:Nat){x:Str}{pos:Pos}(hN:X.N[i]?=some x:=by rfl)(hv:Vis X.env.scope x:=by first|exact Or.inl rfl|exact Or.inr (Or.inl rfl)|exact Or.inr (Or.inr rfl))(hd:(x==("__debug__":Str))=false:=by decide)
  (hcd:(x==("__classdict__":Str))=false:=by decide):PE X (.Name x pos) (tVar i):=zRk hN hv hd hcd
end
theorem iteF {A B:Prop}(h:B):if false=true then A else B:=by
 rw[if_neg Bool.false_ne_true]
 exact h
theorem iteT {A B:Prop}(h:A):if true=true then A else B:=by
 rw[if_pos rfl]
 exact h
theorem ite2 {c A B:Prop}[Decidable c](h1:c->A)(h2:¬c->B):if c then A else B:=by
 by_cases h:c
 ·rw[if_pos h]
  exact h1 h
 ·rw[if_neg h]
  exact h2 h
def Same (H H':Hp):Prop:=∀b o,H b=some o->H' b=some o
theorem Same.refl (H:Hp):Same H H:=fun _ _ h=>h
theorem Same.trans {H H1 H2:Hp}(a:Same H H1)(b:Same H1 H2):Same H H2:=fun c o h=>b c o (a c o h)
theorem Same.free {H H':Hp}(e:Same H H'){l:Addr}(h:H' l=Option.none):H l=Option.none:=by
 cases q:H l with
 |none=>rfl
 |some o=>
  rw[e l o q] at h
  cases h
theorem Same.seq {K:W.Frag}{H H':Hp}{a:Addr}{xs:List V}(e:Same H H')(h:SqL K H a xs):SqL K H' a xs:=by
 rcases h with(h|⟨o,h⟩)|h
 ·exact .inl (.inl (e _ _ h))
 ·exact .inl (.inr ⟨o,e _ _ h⟩)
 ·exact .inr h
end L2
set_option maxHeartbeats 4000000
namespace L2
open PySem PySem.Spec PyProof.Rows
section
variable {prog:Program}{w:World}{A:Around}{R:Result->Shared->Prop}{s:Shared}
theorem zrg {elt target iter:Expr}{ifs:List Expr}{scope:Scope}{pos:Pos}{it acc:Value}{env:Env}(I:Nat->Shared->Prop)
  (turn:∀n s,I n s->wpAny (model prog w) A (pyNext it) (fun r s1=>match r with
   |none=>R (.ok .next) s1
   |some v=>wpAny (model prog w) A (letOwnedTupleGo target it v) (fun _ s1'=>wpAny (model prog w) A (assign target env v) (fun _ s2=>
     wpAny (model prog w) A (forIn ifs true fun c r=>if r=true then do let ok ← isTrue c env (eval c env);pure (ForInStep.yield ok) else pure (ForInStep.yield r)) (fun ok s3=>
      if ok=true then wpAny (model prog w) A (eval elt env) (fun x s4=>
       wpAny (model prog w) A (call (.builtin "list.append") [acc,x]) (fun _ s5=>∃m,m<n/\I m s5) (fun _ _=>False) s4) (fun _ _=>False) s3
      else ∃m,m<n/\I m s3) (fun _ _=>False) s2) (fun _ _=>False) s1') (fun _ _=>False) s1) (fun _ _=>False) s)
  (n:Nat) (h:I n s):
  codeAny (model prog w) A (.compLoop (.ListComp elt [⟨target,iter,ifs,0⟩] scope pos) 0 it acc env) R s:=by
 refine codeAny_loop rfl I (fun n s hI=>?_) n h
 show wpAny _ A ((compTurn (.ListComp elt [⟨target,iter,ifs,0⟩] scope pos) 0 it acc env).onRaise (fun x=>do noteFrame x env;theTreesLotGoes x)) _ _ s
 refine wpAny_noted ?_
 rw[compTurn_list]
 refine wpAny_bind (wpAny_standAt (wpAny_bind (wpAny_mono (turn n s hI) (fun r s1 h1=>?_) fun _ _ f=>f.elim)))
 cases r with
 |none=>exact wpAny_pure h1
 |some v=>
  refine wpAny_bind (wpAny_mono h1 (fun _ s1' h1'=>?_) fun _ _ f=>f.elim)
  refine wpAny_bind (wpAny_mono h1' (fun _ s2 h2=>wpAny_bind (wpAny_mono h2 (fun ok s3 h3=>?_) fun _ _ f=>f.elim)) fun _ _ f=>f.elim)
  cases ok with
  |false=>exact wpAny_pure ⟨rfl,h3⟩
  |true=>
   exact wpAny_bind (wpAny_bind (wpAny_mono h3 (fun x s4 h4=>wpAny_bind (wpAny_mono h4 (fun _ s5 h5=>wpAny_pure (wpAny_pure ⟨rfl,h5⟩)) fun _ _ f=>f.elim)) fun _ _ f=>f.elim))
end
def clOf (env:Env):List (Str×NameKind)->List (Str×Addr)->List (Str×Addr)
 | [],cs=>cs
 | (n,k)::r,cs=>clOf env r (if (k==NameKind.free)=true then(match env.cells.lookup n with|some a=>(n,a)::cs|none=>cs) else cs)
theorem zlb {env:Env}{f:Str×NameKind->List (Str×Addr)->Sem (ForInStep (List (Str×Addr)))}
  (hf:∀n k cs,f (n,k) cs=if (k==NameKind.free)=true then(do let a ← cellOf env n;pure (.yield ((n,a)::cs))) else pure (.yield cs)):
  ∀(l:List (Str×NameKind))(cs:List (Str×Addr)),(∀y∈l,y.2=.free->∃c,env.cells.lookup y.1=some c)->forIn l cs f=pure (clOf env l cs)
 | [],cs,_=>by rw[List.forIn_nil];rfl
 | (n,k)::r,cs,h=>by
  have hr:∀y∈r,y.2=.free->∃c,env.cells.lookup y.1=some c:=fun y hy=>h y (List.mem_cons_of_mem _ hy)
  rw[List.forIn_cons,hf]
  unfold clOf
  by_cases hk:(k==NameKind.free)=true
  ·obtain⟨c,hc⟩:=h (n,k) List.mem_cons_self (by simpa using hk)
   have hc':env.cells.lookup n=some c:=hc
   rw[if_pos hk,if_pos hk]
   simp only[cellOf,hc',pure_bind]
   exact zlb hf r _ hr
  ·rw[if_neg hk,if_neg hk,pure_bind]
   exact zlb hf r _ hr
theorem zYc {env:Env}{scope:Scope}(h:∀y∈scope.names,y.2=.free->∃c,env.cells.lookup y.1=some c):closureFor scope env=pure (clOf env scope.names []):=by
 simp only[closureFor]
 rw[zlb (env:=env) (fun n k cs=>by cases hk:k==NameKind.free<;>simp[hk]) scope.names [] h]
 rfl
theorem zXe {env:Env}{x:Str}{c:Addr}:∀{l:List (Str×NameKind)}{cs:List (Str×Addr)},(∀z d,cs.lookup z=some d->env.cells.lookup z=some d)->(clOf env l cs).lookup x=some c->env.cells.lookup x=some c
 | [],_,hc,h=>hc _ _ h
 | (n,k)::r,cs,hc,h=>by
  unfold clOf at h
  refine zXe (l:=r) ?_ h
  intro z d hz
  split at hz
  ·split at hz
   ·rename_i a ha
    rw[List.lookup_cons] at hz
    split at hz
    ·rename_i e
     have e':z=n:=by simpa using e
     subst e'
     rw[ha]
     exact hz
    ·exact hc z d hz
   ·exact hc z d hz
  ·exact hc z d hz
theorem zrd {env:Env}{x:Str}{c:Addr}(e:env.cells.lookup x=some c):∀{l:List (Str×NameKind)}{cs:List (Str×Addr)},(∀z d,cs.lookup z=some d->env.cells.lookup z=some d)→
  ((x,NameKind.free)∈l\/∃d,cs.lookup x=some d)->(clOf env l cs).lookup x=some c
 | [],cs,hc,h=>by
  rcases h with h|⟨d,h⟩
  ·simp at h
  ·have:=hc x d h
   rw[e] at this
   cases this
   exact h
 | (n,k)::r,cs,hc,h=>by
  unfold clOf
  have hc2:∀z d,(if (k==NameKind.free)=true then(match env.cells.lookup n with|some a=>(n,a)::cs|none=>cs) else cs).lookup z=some d->env.cells.lookup z=some d:=by
   intro z d hz
   split at hz
   ·split at hz
    ·rename_i a ha
     rw[List.lookup_cons] at hz
     split at hz
     ·rename_i e
      have e':z=n:=by simpa using e
      subst e'
      rw[ha]
      exact hz
     ·exact hc z d hz
    ·exact hc z d hz
   ·exact hc z d hz
  refine zrd e (l:=r) hc2 ?_
  have keep:∀d,cs.lookup x=some d->∃d,(if (k==NameKind.free)=true then(match env.cells.lookup n with|some a=>(n,a)::cs|none=>cs) else cs).lookup x=some d:=by
   intro d hd
   split
   ·split
    ·rename_i a ha
     rw[List.lookup_cons]
     split
     ·exact⟨_,rfl⟩
     ·exact⟨d,hd⟩
    ·exact⟨d,hd⟩
   ·exact⟨d,hd⟩
  rcases h with h|⟨d,h⟩
  ·rcases List.mem_cons.mp h with h|h
   ·have e1:x=n:=congrArg Prod.fst h
    have e2:k=NameKind.free:=(congrArg Prod.snd h).symm
    subst e1 e2
    refine .inr ⟨c,?_⟩
    rw[if_pos (by decide),e]
    simp[List.lookup_cons]
   ·exact .inl h
  ·exact .inr (keep d h)
theorem zmb {env:Env}:∀{names:List (Str×NameKind)}{x:Str}{k:NameKind},
  (names.map fun(n,k)=>if (k==NameKind.free&&env.scope.kind==.function&&env.kindOf n==some .cell) then(n,NameKind.cell) else(n,k)).lookup x=some k->(k=.cell\/k=.free)->(∀y∈names,y.2≠.cell)->names.lookup x=some .free
 | [],_,_,h,_,_=>by simp at h
 | (n,k0)::r,x,k,h,hk,hn=>by
  have ih:=@zmb env r x k
  have h':List.lookup x ((if (k0==NameKind.free&&env.scope.kind==.function&&env.kindOf n==some .cell)=true then(n,NameKind.cell) else(n,k0))::(r.map fun(n,k)=>if (k==NameKind.free&&env.scope.kind==.function&&env.kindOf n==some .cell) then(n,NameKind.cell) else(n,k)))=some k:=h
  cases hx:x==n with
  |true=>
   have go:List.lookup x ((n,k0)::r)=some k0:=by simp[List.lookup_cons,hx]
   rw[go]
   by_cases hc:(k0==NameKind.free&&env.scope.kind==.function&&env.kindOf n==some .cell)=true
   ·have:k0=NameKind.free:=by
     simp only[Bool.and_eq_true] at hc
     simpa using hc.1.1
    rw[this]
   ·rw[if_neg hc] at h'
    simp only[List.lookup_cons,hx] at h'
    cases h'
    rcases hk with hk|hk
    ·exact absurd hk (hn _ List.mem_cons_self)
    ·rw[hk]
  |false=>
   have go:List.lookup x ((n,k0)::r)=List.lookup x r:=by simp[List.lookup_cons,hx]
   rw[go]
   refine ih ?_ hk (fun y hy=>hn y (List.mem_cons_of_mem _ hy))
   by_cases hc:(k0==NameKind.free&&env.scope.kind==.function&&env.kindOf n==some .cell)=true
   ·rw[if_pos hc] at h'
    simp only[List.lookup_cons,hx] at h'
    exact h'
   ·rw[if_neg hc] at h'
    simp only[List.lookup_cons,hx] at h'
    exact h'
theorem znb {env:Env}:∀{names:List (Str×NameKind)}{x:Str},names.lookup x=some .free→
  (names.map fun(n,k)=>if (k==NameKind.free&&env.scope.kind==.function&&env.kindOf n==some .cell) then(n,NameKind.cell) else(n,k)).lookup x=some .cell∨
  (names.map fun(n,k)=>if (k==NameKind.free&&env.scope.kind==.function&&env.kindOf n==some .cell) then(n,NameKind.cell) else(n,k)).lookup x=some .free
 | [],_,h=>by simp at h
 | (n,k0)::r,x,h=>by
  have ih:=@znb env r x
  show List.lookup x ((if (k0==NameKind.free&&env.scope.kind==.function&&env.kindOf n==some .cell)=true then(n,NameKind.cell) else(n,k0))::_)=_\/List.lookup x ((if (k0==NameKind.free&&env.scope.kind==.function&&env.kindOf n==some .cell)=true then(n,NameKind.cell) else(n,k0))::_)=_
  cases hx:x==n with
  |true=>
   simp only[List.lookup_cons,hx] at h
   by_cases hc:(k0==NameKind.free&&env.scope.kind==.function&&env.kindOf n==some .cell)=true
   ·rw[if_pos hc]
    left
    simp only[List.lookup_cons,hx]
   ·rw[if_neg hc]
    right
    simp only[List.lookup_cons,hx]
    exact h
  |false=>
   simp only[List.lookup_cons,hx] at h
   by_cases hc:(k0==NameKind.free&&env.scope.kind==.function&&env.kindOf n==some .cell)=true
   ·rw[if_pos hc]
    simp only[List.lookup_cons,hx]
    exact ih h
   ·rw[if_neg hc]
    simp only[List.lookup_cons,hx]
    exact ih h
def blk (X:Cx)(N:List Str)(scope:Scope)(C:Addr)(s:Shared)(H:Hp)(ex:List Addr):Cx where
 prog:=X.prog
 w:=X.w
 K:=X.K
 mg:=X.mg
 base:=X.base
 A:=X.A
 N:=N
 s₀:=s
 H₀:=H
 env:=compEnvC scope (clOf X.env scope.names []) C X.env
 outer:=X.stack
 stack:=X.stack
 ex:=ex
 fn:=fun _=>false
 calm:=X.calm
 pn:=[]
 xe:=fun _ _=>False
structure BlkScope (sc:Scope)(N own cn:List Str)(ci:List Nat)(scope:Scope):Prop where
 kind:scope.kind=.function
 nocell:∀y∈scope.names,y.2≠.cell
 names:∀y∈scope.names,y.2=.local->scope.names.lookup y.1=some .local
 free:∀y∈scope.names,y.2=.free->sc.names.lookup y.1=some .cell\/sc.names.lookup y.1=some .free
 cap:(cn.map fun x=>(some x:Option Str))=ci.map fun i=>N[i]?
 capk:∀x∈cn,scope.names.lookup x=some .free
 nd:(own++cn).Nodup
theorem BlkScope.of {sc:Scope}{N own cn:List Str}{ci:List Nat}{scope:Scope}(h:scope.kind=.function/\(∀y∈scope.names,y.2≠.cell)/\(∀y∈scope.names,y.2=.local->scope.names.lookup y.1=some .local)/\(∀y∈scope.names,y.2=.free->sc.names.lookup y.1=some .cell\/sc.names.lookup y.1=some .free)/\(cn.map fun x=>(some x:Option Str))=(ci.map fun i=>N[i]?)/\(∀x∈cn,scope.names.lookup x=some .free)/\(own++cn).Nodup):BlkScope sc N own cn ci scope:=⟨h.1,h.2.1,h.2.2.1,h.2.2.2.1,h.2.2.2.2.1,h.2.2.2.2.2.1,h.2.2.2.2.2.2⟩
def blkS (own:List Str)(ci:List Nat)(σ:St):St:=own.map (fun _=>none)++ci.map fun i=>(σ[i]?).join
section
variable {X:Cx}{pins:zT2}{σ:St}{H H2:Hp}{s s2:Shared}{sc:Scope}{N own cn:List Str}{ci:List Nat}{scope:Scope}{fp:List Addr}
theorem zFc (S:BlkScope sc N own cn ci scope)(hsc:X.env.scope=sc)(I:Inv X pins σ H s):∀y∈scope.names,y.2=.free->∃c,X.env.cells.lookup y.1=some c:=fun y hy hf=>by
 refine I.ok.has y.1 ?_
 have:=S.free y hy hf
 rw[<- hsc] at this
 exact this
theorem zxj (S:BlkScope sc N own cn ci scope)(hsc:X.env.scope=sc)(hN:X.N=N)(I:Inv X pins σ H s)(hfp:∀b∈fp,FpOk X pins H b)(hlt:∀b∈fp,b<s.heap.objs.size){h1:Heap}{tk:Nat}{m:zT3}
  (hns:h1.Ns s.heap.objs.size m)(keep:∀b o,s.heap.get? b=some o->h1.get? b=some o):
  Inv (blk X (own++cn) scope s.heap.objs.size s H fp) [] (blkS own ci σ) H { s with heap:=h1,toks:=tk }:=by
 have ccl:∀x c,(clOf X.env scope.names []).lookup x=some c->X.env.cells.lookup x=some c:=fun x c e=>zXe (fun z d h=>by simp at h) e
 have cnl:cn.length=ci.length:=by have:=congrArg List.length S.cap;simpa using this
 refine⟨⟨I.ok.mod,?_,I.ok.glob,I.ok.blt,Nat.le_refl _,fun x y c e1 e2=>I.ok.inj x y c (ccl x c e1) (ccl y c e2),fun x hx=>?_,fun x c hf _=>?_,I.ok.hd,I.ok.frames,.inl rfl,fun b hb=>⟨Nat.ne_of_lt (hlt b hb),fun x c e=>(hfp b hb).2.2.2.2.1 x c (ccl x c e)⟩,I.bs,Nat.le_trans I.ok.bsz I.sz,fun b o e hb=>?_,fun b hb hb2=>?_,I.stack,I.zco⟩,
  rfl,I.bare,Un.kept keep,⟨m,hns,fun i x v e1 e2 e3=>?_⟩,fun x c e=>?_,I.hok.fresh (Nat.le_refl _),fun x c e=>I.freeC x c (ccl x c e),fun p hp=>absurd (show p∈([]:zT2) from hp) (by simp),I.hok.kept keep,?_⟩
 ·exact S.kind
 ·have hx':(relabel scope X.env).names.lookup x=some .cell\/(relabel scope X.env).names.lookup x=some .free:=hx
  have hfree:scope.names.lookup x=some .free:=by
   rcases hx' with q|q
   ·exact zmb q (.inl rfl) S.nocell
   ·exact zmb q (.inr rfl) S.nocell
  have hm:=PySem.mem_of_lookup hfree
  obtain⟨c,hc⟩:=zFc S hsc I _ hm rfl
  exact⟨c,zrd hc (fun z d h=>by simp at h) (.inl hm)⟩
 ·exact absurd hf (by show ¬(false=true);decide)
 ·rcases(hfp b hb).2.2.2.1 with z|z
  ·exact I.ok.noex b o e z
  ·exact absurd (Nat.lt_of_lt_of_le (Heap.lt_size (I.ok.bs b o e).1) z) (Nat.lt_irrefl _)
 ·rcases List.mem_cons.mp (I.zho b hb2) with z|z
  ·exact(hfp b hb).2.1 z
  ·exact(hfp b hb).2.2.1 z
 ·have e1':(own++cn)[i]?=some x:=e1
  unfold blkS at e2
  by_cases hi:i<own.length
  ·rw[List.getElem?_append_left (by simpa using hi),List.getElem?_map] at e2
   cases q:own[i]? with
   |none=>rw[q] at e2;cases e2
   |some z=>rw[q] at e2;cases e2
  ·rw[List.getElem?_append_right (by simpa using hi)] at e2
   rw[List.getElem?_append_right (by omega)] at e1'
   rw[List.length_map,List.getElem?_map] at e2
   cases q:ci[i-own.length]? with
   |none=>rw[q] at e2;cases e2
   |some j=>
    rw[q] at e2
    have e2':(σ[j]?).join=some v:=Option.some.inj e2
    have e3':σ[j]?=some (some v):=by
     cases z:σ[j]? with
     |none=>rw[z] at e2';cases e2'
     |some o=>rw[z] at e2';exact congrArg some e2'
    have hNj:X.N[j]?=some x:=by
     have c1:=congrArg (fun l=>l[i-own.length]?) S.cap
     simp only[List.getElem?_map,e1',q,Option.map_some] at c1
     rw[hN]
     exact(Option.some.inj c1).symm
    have hfree:=S.capk x (List.mem_of_getElem? e1')
    have hm:=PySem.mem_of_lookup hfree
    have hk:=S.free _ hm rfl
    rw[<- hsc] at hk
    have hvis:Vis X.env.scope x:=.inr hk
    obtain⟨m0,_,hl⟩:=I.loc
    obtain⟨u,r,l⟩:=hl j x v hNj e3' hvis
    refine⟨u,r,.inr ⟨znb hfree,?_⟩⟩
    rcases l with⟨l,_⟩|⟨_,c,ec,z⟩
    ·have l':X.env.scope.names.lookup x=some .local:=l
     rcases hk with hk|hk<;>(rw[hk] at l';cases l')
    ·refine⟨c,zrd ec (fun z d h=>by simp at h) (.inl hm),?_⟩
     obtain⟨o,ho,hd⟩:=z
     exact⟨o,keep c o ho,hd⟩
 ·obtain⟨v,o,ho,hd⟩:=I.cell x c (ccl x c e)
  exact⟨v,o,keep c o ho,hd⟩
 ·show(blkS own ci σ).length=(own++cn).length
  unfold blkS
  rw[List.length_append,List.length_append,List.length_map,List.length_map,cnl]
end
def PTs (X:Cx)(ifs:List Expr)(t:TT):Prop:=
 ∀(pins:zT2)(s:Shared)(σ:St)(H:Hp)(Q:Bool->Hp->Prop),Inv X pins σ H s->t σ H Q→
  wpAny (model X.prog X.w) X.A (forIn ifs true fun c r=>if r=true then do let ok ← isTrue c X.env (eval c X.env);pure (ForInStep.yield ok) else pure (ForInStep.yield r)) (TP X pins σ Q) X.xe s
def zKm:TT:=fun _ H Q=>Q true H
theorem zla {X:Cx}:PTs X [] zKm:=fun _ _ _ H _ I h=>wpAny_tests_nil ⟨H,I,h⟩
theorem zIa {X:Cx}{c:Expr}{t:TT}(h:PT X c t):PTs X [c] t:=fun pins s σ H Q I q=>wpAny_tests_one (h pins s σ H Q I q)
def LcW (J:It)(g:TG)(tt:TT)(te:TE)(D:Addr)(Q:Hp->Prop)(W:Nat->Nat->St->Hp->Prop):Prop:=∀i m σ H,W i m σ H→
 (J.stop i H/\Q H)\/(J.go i H/\∀x H1,J.yld i H x H1->g x σ H1 fun σ2 H2=>tt σ2 H2 fun ok H3=>if ok=true then te σ2 H3 fun y H4=>∃ys,H4 D=some (.lst ys)/\ys.length<sizeLine∧
  ∃m',m'<m/\W (i+1) m' σ2 (upd H4 D (.lst (ys++[y]))) else ∃m',m'<m/\W (i+1) m' σ2 H3)
def tLC (own:List Str)(ci:List Nat)(wi:TI)(g:TG)(tt:TT)(te:TE):TE:=fun σ H Q=>wi σ H fun J H1=>∀D,H1 D=none→
 ∃W:Nat->Nat->St->Hp->Prop,(∃m,W 0 m (blkS own ci σ) (upd H1 D (.lst [])))/\LcW J g tt te D (Q (.ref D)) W
section
variable {X:Cx}{pins:zT2}{σ:St}{H H2:Hp}{s s2:Shared}{sc:Scope}{N own cn:List Str}{ci:List Nat}{scope:Scope}{fp:List Addr}
 {elt tg iter:Expr} {ifs:List Expr} {pos:Pos} {g:TG} {tt:TT} {te:TE} {wi:TI}
theorem zYe {it:Addr}{tn:Nat->Heap->Prop}{J:It}{Q:VK}{E:zE1}{RR:Value->Addr->Result->Shared->Prop}(S:BlkScope sc N own cn ci scope)(hsc:X.env.scope=sc)(hN:X.N=N)(hc:X.calm=true)
  (I2:Inv X pins σ H2 s2)(T:Turn X.prog X.w X.K tg J fp it tn)(st2:tn 0 s2.heap)(f2:∀b∈fp,FpOk X pins H2 b)
  (hg:∀C s H,PG (blk X (own++cn) scope C s H fp) tg g)(ht:∀C s H,PTs (blk X (own++cn) scope C s H fp) ifs tt)(he:∀C s H,PE (blk X (own++cn) scope C s H fp) elt te)
  (q:∀D,H2 D=none->∃W:Nat->Nat->St->Hp->Prop,(∃m,W 0 m (blkS own ci σ) (upd H2 D (.lst [])))/\LcW J g tt te D (Q (.ref D)) W)
  (hRR:∀D C H' s',Inv X pins σ H' s'->Q (.ref D) H'->(∃m,s'.heap.Ns C m)->FpOk X pins H' C->RR (.ref D) C (.ok .next) s'):
  wpAny (model X.prog X.w) X.A (newList []) (fun acc s3=>wpAny (model X.prog X.w) X.A (newFunctionEnv scope X.env.globals (clOf X.env scope.names []) [] X.env.qual none .none (some X.env)) (fun cenv s4=>
   codeAny (model X.prog X.w) X.A (.compStart (.ListComp elt [⟨tg,iter,ifs,0⟩] scope pos) 0 (.ref it) acc { cenv with scope:=relabel scope X.env }) (RR acc cenv.locals) s4) E s3) E s2:=by
 refine wpAny_newObj_type (wpAny_newFunctionEnv S.nocell (by intro y hy;simp at hy) (fun h1 hns1 hsb1=>?_) S.kind)
 dsimp only at hns1 hsb1 ⊢
 have I3:Inv X pins σ (upd H2 s2.heap.objs.size (.lst [])) { s2 with heap:=s2.heap.push { cls:=.type "list",data:=.seq ([]:List Value).toArray },toks:=s2.toks }:=I2.zAo (its:=[]) (t':=s2.toks) .nil (Nat.zero_le _)
 have hD:H2 s2.heap.objs.size=none:=I2.hok.fresh (Nat.le_refl _)
 have fpe:∀b∈fp,b<s2.heap.objs.size:=fun b hb=>by
  obtain⟨o,e,_⟩:=T.obj _ _ st2 b hb
  exact Heap.lt_size e
 have f3:∀b∈fp,FpOk X pins (upd H2 s2.heap.objs.size (.lst [])) b:=fun b hb=>⟨by rw[zy (Nat.ne_of_lt (fpe b hb))];exact(f2 b hb).1,(f2 b hb).2⟩
 obtain⟨W,⟨m0,w0⟩,turn⟩:=q s2.heap.objs.size hD
 generalize hs3:({ s2 with heap:=s2.heap.push { cls:=.type "list",data:=.seq ([]:List Value).toArray },toks:=s2.toks }:Shared)=s3 at I3
 have e3:s3.heap=s2.heap.push { cls:=.type "list",data:=.seq ([]:List Value).toArray }:=by rw[<- hs3]
 have hsz3:s3.heap.objs.size=s2.heap.objs.size+1:=by rw[e3,Heap.size_push]
 have keep3:∀b o,s2.heap.get? b=some o->s3.heap.get? b=some o:=fun b o e=>by rw[e3];exact Heap.get?_push_of_some _ e
 have keep:∀b o,s3.heap.get? b=some o->h1.get? b=some o:=fun b o e=>by
  refine hsb1.extBut b o ?_ (Heap.get?_push_of_some _ (by rw[<- e3];exact e))
  have:=Heap.lt_size e
  rw[e3] at this
  exact Nat.ne_of_lt this
 have hns:h1.Ns s3.heap.objs.size (fun x=>([]:List (Str×Value)).reverse.lookup x):=by rw[e3];exact hns1
 have I4:=zxj (fp:=fp) (tk:=s2.toks+([]:List (Str×Value)).length) S hsc hN I3 f3 (fun b hb=>by rw[hsz3];exact Nat.lt_succ_of_lt (fpe b hb)) hns keep
 have st4:tn 0 h1:=T.keep _ _ _ st2 fun b hb o e=>keep b o (keep3 b o e)
 have hC:(s2.heap.push { cls:=.type "list",data:=.seq ([]:List Value).toArray }).objs.size=s3.heap.objs.size:=by rw[e3]
 have stat:∀{H':Hp},(∀b∈fp,H' b=none)->∀b∈fp,FpOk (blk X (own++cn) scope s3.heap.objs.size s3 (upd H2 s2.heap.objs.size (.lst [])) fp) [] H' b:=fun hn b hb=>
  ⟨hn b hb,Nat.ne_of_lt (by rw[hsz3];exact Nat.lt_succ_of_lt (fpe b hb)),fun z=>I4.ok.exfs b hb z,.inl hb,(I4.ok.exf b hb).2,fun p hp=>absurd (show p∈([]:zT2) from hp) (by simp)⟩
 have loop:∀s4:Shared,s4={ s3 with heap:=h1,toks:=s2.toks+([]:List (Str×Value)).length }→
   codeAny (model X.prog X.w) X.A (.compLoop (.ListComp elt [⟨tg,iter,ifs,0⟩] scope pos) 0 (.ref it) (.ref s2.heap.objs.size) (compEnvC scope (clOf X.env scope.names []) s3.heap.objs.size X.env)) (RR (.ref s2.heap.objs.size) s3.heap.objs.size) s4:=by
  rintro s4 rfl
  refine zrg (fun n s'=>∃i σ' H',Inv (blk X (own++cn) scope s3.heap.objs.size s3 (upd H2 s2.heap.objs.size (.lst [])) fp) [] σ' H' s'/\tn i s'.heap/\(∀b∈fp,H' b=none)/\W i n σ' H') ?_ m0
   ⟨0,_,_,I4,st4,fun b hb=>(f3 b hb).1,w0⟩
  rintro n s5 ⟨i,σ5,H5,I5,st5,fr5,w5⟩
  rcases turn i n σ5 H5 w5 with⟨stop,qn⟩|⟨go,step⟩
  ·refine thn (T.done (blk X (own++cn) scope s3.heap.objs.size s3 (upd H2 s2.heap.objs.size (.lst [])) fp) rfl rfl rfl hc i [] s5 σ5 H5 (fun _ _=>False) I5 (stat fr5) st5 stop) fun r s6 hq9=>?_
   obtain⟨hr,I6⟩:=hq9
   subst hr
   refine hRR _ _ H5 s6 (I3.zlo I6.os I6.base I6.hok I6.bare fun b hb=>⟨(f3 b hb).2.2.2.1,(f3 b hb).2.1,(f3 b hb).2.2.2.2.1,(f3 b hb).2.2.2.2.2⟩) qn (let ⟨m,hn,_⟩:=I6.loc;⟨m,hn⟩) (I3.zxo (Nat.le_refl _) I6.free)
  ·refine thn (T.item (blk X (own++cn) scope s3.heap.objs.size s3 (upd H2 s2.heap.objs.size (.lst [])) fp) rfl rfl rfl hc i [] s5 σ5 H5 (fun _ _=>False) I5 (stat fr5) st5 go) fun r s6 hq9=>?_
   obtain⟨u,hr,h6⟩:=hq9
   subst hr
   refine thn h6 fun _ s7 hq9=>?_
   obtain⟨x,H7,I7,r7,y7,st7,fr7⟩:=hq9
   have I7':=I7.pinned (stat fr7) (T.obj _ _ st7)
   refine thn (hg _ _ _ _ s7 σ5 H7 x u _ I7' r7 (step x H7 y7)) fun _ s8 hq9=>?_
   obtain⟨σ8,H8,I8,q8⟩:=hq9
   refine thn (ht _ _ _ _ s8 σ8 H8 _ I8 q8) fun ok s9 hq9=>?_
   obtain⟨H9,I9,q9⟩:=hq9
   have again:∀{H':Hp}{s':Shared}{m':Nat},Inv (blk X (own++cn) scope s3.heap.objs.size s3 (upd H2 s2.heap.objs.size (.lst [])) fp) ([]++zSd fp s7.heap) σ8 H' s'->W (i+1) m' σ8 H'→
     ∃i σ' H',Inv (blk X (own++cn) scope s3.heap.objs.size s3 (upd H2 s2.heap.objs.size (.lst [])) fp) [] σ' H' s'/\tn i s'.heap/\(∀b∈fp,H' b=none)/\W i m' σ' H':=fun {H' s' m'} I' w'=>by
    refine⟨i+1,σ8,H',I'.zZn,T.keep _ _ _ st7 fun b hb o e=>(I'.pin (b,o) (List.mem_append_right _ (List.mem_append_right _ (zub hb e)))).1,fun b hb=>?_,w'⟩
    obtain⟨o,e,_⟩:=T.obj _ _ st7 b hb
    exact(I'.pin (b,o) (List.mem_append_right _ (List.mem_append_right _ (zub hb e)))).2.1
   cases ok with
   |false=>
    obtain⟨m',hm,w'⟩:=q9
    exact⟨m',hm,again I9 w'⟩
   |true=>
    refine thn (he _ _ _ _ s9 σ8 H9 _ I9 q9) fun v s10 hq9=>?_
    obtain⟨y,H10,I10,r10,ys,hDl,hz,m',hm,w'⟩:=hq9
    refine thn (zka _ s10 σ8 H10 (.ref s2.heap.objs.size) [y] (.ref s2.heap.objs.size) [v] (fun _ H11=>H11=upd H10 s2.heap.objs.size (.lst (ys++[y]))) I10 rfl (.cons r10 .nil) ⟨_,ys,y,rfl,rfl,hDl,hz,rfl⟩) fun _ s11 hq9=>?_
    obtain⟨_,H11,I11,_,e11⟩:=hq9
    subst e11
    exact⟨m',hm,again I11 w'⟩
 have es:({ s2 with heap:=h1,toks:=s2.toks+([]:List (Str×Value)).length }:Shared)={ s3 with heap:=h1,toks:=s2.toks+([]:List (Str×Value)).length }:=by rw[<- hs3]
 rw[hC]
 exact codeAny_compStart_list (loop _ es) (T.self _ 0 _ _ _ st4 (loop _ es))
theorem zWa (S:BlkScope sc N own cn ci scope)(hsc:X.env.scope=sc)(hN:X.N=N)(hc:X.calm=true)(hi:PI X tg iter wi)
  (hg:∀fp C s H,PG (blk X (own++cn) scope C s H fp) tg g)(ht:∀fp C s H,PTs (blk X (own++cn) scope C s H fp) ifs tt)(he:∀fp C s H,PE (blk X (own++cn) scope C s H fp) elt te)
  (hs:∀x,foldedSetIterable iter X.env x=pure x:=by intro _;rfl):PE X (.ListComp elt [⟨tg,iter,ifs,0⟩] scope pos) (tLC own ci wi g tt te):=by
 intro pins s σ H Q I h
 rw[eval_ListComp]
 refine wpAny_comprehension_free (use:=none) rfl hs (zYc (zFc S hsc I)) S.kind S.names (thn (hi pins s σ H _ I h) fun xv s1 h1=>thn h1 fun itv s2 h2=>?_)
 obtain⟨it,fp,tn,J,H2,e,I2,T,st2,f2,q⟩:=h2
 subst e
 refine zYe (RR:=fun acc C=>compPost (model X.prog X.w) X.A X.xe none (EP X pins σ Q) acc C) S hsc hN hc I2 T st2 f2 (hg fp) (ht fp) (he fp) q ?_
 intro D C H' s' I' q' ⟨m,hn⟩ fC
 exact⟨m,hn,fun h' hs'=>⟨.ref D,H',I'.turned (t':=s'.toks) (fun b o hb e=>(hs'.2 b hb).trans e) fC.1 (Ne.symm (Ne.symm fC.2.1)) fC.2.2.2.1 fC.2.2.2.2.1 fC.2.2.2.2.2,rfl,q'⟩⟩
def zbl (i:Nat)(t:TE):TS:=fun D σ H=>t σ H fun v H1=>D.nx (σ.set i (some v)) H1
theorem zbb {i:Nat}{y:Str}{py spos:Pos}(S:BlkScope sc N own cn ci scope)(hsc:X.env.scope=sc)(hN:X.N=N)(hc:X.calm=true)(hi:PI X tg iter wi)
  (hg:∀fp C s H,PG (blk X (own++cn) scope C s H fp) tg g)(ht:∀fp C s H,PTs (blk X (own++cn) scope C s H fp) ifs tt)(he:∀fp C s H,PE (blk X (own++cn) scope C s H fp) elt te)
  (hnd:X.N.Nodup)(hiy:X.N[i]?=some y)(hy:X.env.scope.names.lookup y=some .local)
  (hsw:swapsWith (.ListComp elt [⟨tg,iter,ifs,0⟩] scope pos) (some (.Name y py)) spos.line X.env=pure true)
  (hs:∀x,foldedSetIterable iter X.env x=pure x:=by intro _;rfl):PS X (.Assign [.Name y py] (.ListComp elt [⟨tg,iter,ifs,0⟩] scope pos) spos) (zbl i (tLC own ci wi g tt te)):=by
 intro pins s σ H D I h
 rw[exec_Assign_Name_used _ _ _ _ hsw]
 refine wpAny_bind (wpAny_standAt (wpAny_bind ?_))
 show wpAny _ X.A (do let _ ← comprehension (.ListComp elt [⟨tg,iter,ifs,0⟩] scope pos) scope X.env _ (newList []) false (eval iter X.env) (some (assign (.Name y py) X.env))) _ _ s
 refine wpAny_bind (wpAny_mono (wpAny_comprehension_free (use:=some (assign (.Name y py) X.env)) (Q:=fun _ s'=>SP X pins D .next s') rfl hs (zYc (zFc S hsc I)) S.kind S.names
  (thn (hi pins s σ H _ I h) fun xv s1 h1=>thn h1 fun itv s2 h2=>?_)) (fun _ s' hq=>wpAny_pure (wpAny_pure hq)) fun _ _ e=>e)
 obtain⟨it,fp,tn,J,H2,e,I2,T,st2,f2,q⟩:=h2
 subst e
 refine zYe (RR:=fun acc C=>compPost (model X.prog X.w) X.A X.xe (some (assign (.Name y py) X.env)) (fun _ s'=>SP X pins D .next s') acc C) (Q:=fun v H1=>D.nx (σ.set i (some v)) H1) S hsc hN hc I2 T st2 f2 (hg fp) (ht fp) (he fp) q ?_
 intro D' C H' s' I' q' ⟨m,hn⟩ fC
 refine wpAny_assign_Name (zPd (v:=.ref D') I' hnd hiy (.inl hy) rfl (fun s'' I'' ⟨a,hsb,ha⟩=>?_) (.inr hy))
 have hCa:C≠a:=by
  rcases ha with ha|ha
  ·rw[ha];exact fC.2.1
  ·exact Ne.symm (fC.2.2.2.2.1 _ _ ha)
 exact⟨m,hn.sameBut hsb hCa,fun h' hs'=>⟨_,H',I''.turned (t':=s''.toks) (fun b o hb e=>(hs'.2 b hb).trans e) fC.1 fC.2.1 fC.2.2.2.1 fC.2.2.2.2.1 fC.2.2.2.2.2,q'⟩⟩
end
theorem zsc {lo:Int}{n:Nat}{caps:St}{tt:TT}{te:TE}{D:Addr}{Q:Hp->Prop}{H1:Hp}(Pv:Nat->List V->Hp->Prop)(hz:n<=sizeLine)(h0:Pv 0 [] (upd H1 D (.lst [])))(hl:∀i ys H,Pv i ys H->ys.length<=i)
  (hs:∀i ys H (N:VK) (M:Hp->Prop),i<n->Pv i ys H->(∀y H4,H4 D=some (.lst ys)->Pv (i+1) (ys++[y]) (upd H4 D (.lst (ys++[y])))->N y H4)->(∀H3,Pv (i+1) ys H3->M H3)→
   tt (some (.int (lo+i))::caps) H fun ok H3=>if ok=true then te (some (.int (lo+i))::caps) H3 N else M H3)
  (hd:∀ys H,Pv n ys H->Q H):∃W:Nat->Nat->St->Hp->Prop,(∃m,W 0 m (none::caps) (upd H1 D (.lst [])))/\LcW (Itr lo n) (zRb 0) tt te D Q W:=by
 refine⟨fun i m σ H=>m=n-i/\i<=n/\(∃v,σ=v::caps)/\∃ys,Pv i ys H,⟨n,by simp,Nat.zero_le _,⟨none,rfl⟩,[],h0⟩,?_⟩
 rintro i m σ H ⟨rfl,hi,⟨v,rfl⟩,ys,p⟩
 have hy:=hl i ys H p
 by_cases hlt:i<n
 ·refine .inr ⟨hlt,fun x H1 y=>?_⟩
  obtain⟨e,y⟩:=y
  subst e y
  refine hs i ys _ _ _ hlt p (fun y H4 a c=>⟨ys,a,by omega,n-(i+1),by omega,rfl,hlt,⟨_,rfl⟩,_,c⟩) (fun H3 c=>⟨n-(i+1),by omega,rfl,hlt,⟨_,rfl⟩,ys,c⟩)
 ·have e:i=n:=by omega
  subst e
  exact .inl ⟨Nat.le_refl _,hd ys H p⟩
theorem zAa {K:W.Frag}{a:Addr}{xs:List V}{caps:St}{tt:TT}{te:TE}{D:Addr}{Q:Hp->Prop}{H1:Hp}(Pv:Nat->List V->Hp->Prop)(hz:xs.length<=sizeLine)(h0:Pv 0 [] (upd H1 D (.lst [])))(hl:∀i ys H,Pv i ys H->ys.length<=i)(hq:∀i ys H,Pv i ys H->SqL K H a xs)
  (hs:∀i ys H (x:V) (N:VK) (M:Hp->Prop),xs[i]?=some x->Pv i ys H->(∀y H4,H4 D=some (.lst ys)->Pv (i+1) (ys++[y]) (upd H4 D (.lst (ys++[y])))->N y H4)->(∀H3,Pv (i+1) ys H3->M H3)→
   tt (some x::caps) H fun ok H3=>if ok=true then te (some x::caps) H3 N else M H3)
  (hd:∀ys H,Pv xs.length ys H->Q H):∃W:Nat->Nat->St->Hp->Prop,(∃m,W 0 m (none::caps) (upd H1 D (.lst [])))/\LcW (Itl K a) (zRb 0) tt te D Q W:=by
 refine⟨fun i m σ H=>m=xs.length-i/\i<=xs.length/\(∃v,σ=v::caps)/\∃ys,Pv i ys H,⟨xs.length,by simp,Nat.zero_le _,⟨none,rfl⟩,[],h0⟩,?_⟩
 rintro i m σ H ⟨rfl,hi,⟨v,rfl⟩,ys,p⟩
 have hy:=hl i ys H p
 by_cases hlt:i<xs.length
 ·refine .inr ⟨⟨xs,xs[i],hq i ys H p,by simp[hlt]⟩,fun x H1 y=>?_⟩
  obtain⟨e,y⟩:=y
  subst e
  have hx:=y xs (hq i ys _ p)
  refine hs i ys _ x _ _ hx p (fun y H4 a c=>⟨ys,a,by omega,xs.length-(i+1),by omega,rfl,hlt,⟨_,rfl⟩,_,c⟩) (fun H3 c=>⟨xs.length-(i+1),by omega,rfl,hlt,⟨_,rfl⟩,ys,c⟩)
 ·have e:i=xs.length:=by omega
  subst e
  exact .inl ⟨⟨xs,hq _ ys H p,Nat.le_refl _⟩,hd ys H p⟩
theorem zee {K:W.Frag}{a:Addr}{xs:List V}{caps:St}{tt:TT}{te:TE}{D:Addr}{Q:Hp->Prop}{H1:Hp}(Pv:Nat->List V->Hp->Prop)(hz:xs.length<=sizeLine)(h0:Pv 0 [] (upd H1 D (.lst [])))(hl:∀i ys H,Pv i ys H->ys.length<=i)(hq:∀i ys H,Pv i ys H->SqT K H a xs)
  (hs:∀i ys H (x:V) (N:VK) (M:Hp->Prop),xs[i]?=some x->Pv i ys H->(∀y H4,H4 D=some (.lst ys)->Pv (i+1) (ys++[y]) (upd H4 D (.lst (ys++[y])))->N y H4)->(∀H3,Pv (i+1) ys H3->M H3)→
   tt (some x::caps) H fun ok H3=>if ok=true then te (some x::caps) H3 N else M H3)
  (hd:∀ys H,Pv xs.length ys H->Q H):∃W:Nat->Nat->St->Hp->Prop,(∃m,W 0 m (none::caps) (upd H1 D (.lst [])))/\LcW (Itt K a) (zRb 0) tt te D Q W:=by
 refine⟨fun i m σ H=>m=xs.length-i/\i<=xs.length/\(∃v,σ=v::caps)/\∃ys,Pv i ys H,⟨xs.length,by simp,Nat.zero_le _,⟨none,rfl⟩,[],h0⟩,?_⟩
 rintro i m σ H ⟨rfl,hi,⟨v,rfl⟩,ys,p⟩
 have hy:=hl i ys H p
 by_cases hlt:i<xs.length
 ·refine .inr ⟨⟨xs,xs[i],hq i ys H p,by simp[hlt]⟩,fun x H1 y=>?_⟩
  obtain⟨e,y⟩:=y
  subst e
  have hx:=y xs (hq i ys _ p)
  refine hs i ys _ x _ _ hx p (fun y H4 a c=>⟨ys,a,by omega,xs.length-(i+1),by omega,rfl,hlt,⟨_,rfl⟩,_,c⟩) (fun H3 c=>⟨xs.length-(i+1),by omega,rfl,hlt,⟨_,rfl⟩,ys,c⟩)
 ·have e:i=xs.length:=by omega
  subst e
  exact .inl ⟨⟨xs,hq _ ys H p,Nat.le_refl _⟩,hd ys H p⟩
section
variable {X:Cx}
theorem zJa:zSb X (.builtin "isinstance") (fun xs H Q=>∃x n t b,xs=[x,.ty n]/\TyOf X.K H x t/\W.kitOne X.K t (.type n)=some b/\Q (.bl b) H):=by
 intro pins s σ H xs us Q I r h
 obtain⟨x,n,t,b,rfl,ty,e,q⟩:=h
 obtain⟨u,v,rfl,rx,ry⟩:=r.two
 cases(show v=Value.type n from ry)
 exact zig I rx ty e fun tk=>⟨.bl b,H,I.tok tk,rfl,q⟩
def eqsV:List V->List V->Bool
 | [],[]=>true
 |x::xs,y::ys=>eqV x y&&eqsV xs ys
 |_,_=>false
theorem zZc:∀(xs ys:List V),xs.length=ys.length->((List.range xs.length).all fun i=>eqV (xs.getD i .non) (ys.getD i .non))=eqsV xs ys
 | [],[],_=>rfl
 |x::xs,y::ys,h=>by
  have h':xs.length=ys.length:=by simpa using h
  rw[List.length_cons,List.range_succ_eq_map,List.all_cons,List.all_map]
  have e:=zZc xs ys h'
  show(eqV x y&&(List.range xs.length).all fun i=>eqV (xs.getD i .non) (ys.getD i .non))=(eqV x y&&eqsV xs ys)
  rw[e]
theorem zZe:∀(xs ys:List V),xs.length≠ys.length->eqsV xs ys=false
 | [],[],h=>absurd rfl h
 | [],_::_,_=>rfl
 |_::_,[],_=>rfl
 |x::xs,y::ys,h=>by
  have e:=zZe xs ys (by simpa using h)
  show(eqV x y&&eqsV xs ys)=false
  rw[e,Bool.and_false]
theorem items_eqAt {A:Around}{s:Shared}{xs ys:List V}{us ws:List Value}(rx:Vals xs us)(ry:Vals ys ws)(fx:xs.all zec=true)(fy:ys.all zec=true):
  ∀j (h1:j<us.toArray.size) (h2:j<ws.toArray.size),SeqAt.EqAt A.in1 s us.toArray[j] ws.toArray[j] (eqV (xs.getD j .non) (ys.getD j .non)):=by
 intro j h1 h2
 have l1:=rx.length
 have l2:=ry.length
 have h1':j<xs.length:=by rw[l1];simpa using h1
 have h2':j<ys.length:=by rw[l2];simpa using h2
 obtain⟨u,eu,ru⟩:=rx.get (i:=j) (x:=xs[j]) (by simp[h1'])
 obtain⟨v,ev,rv⟩:=ry.get (i:=j) (x:=ys[j]) (by simp[h2'])
 have e1:us.toArray[j]=u:=by
  have:=List.getElem?_eq_some_iff.mp eu
  obtain⟨_,q⟩:=this
  simpa using q
 have e2:ws.toArray[j]=v:=by
  have:=List.getElem?_eq_some_iff.mp ev
  obtain⟨_,q⟩:=this
  simpa using q
 have d1:xs.getD j .non=xs[j]:=by simp[List.getD,h1']
 have d2:ys.getD j .non=ys[j]:=by simp[List.getD,h2']
 rw[e1,e2,d1,d2]
 exact zUi ru rv (List.all_eq_true.mp fx _ (List.getElem_mem h1')) (List.all_eq_true.mp fy _ (List.getElem_mem h2'))
def rEqL (K:W.Frag):R2:=fun x y H Q=>∃a b xs ys,x=.ref a/\y=.ref b/\SqL K H a xs/\SqL K H b ys/\xs.all zec=true/\ys.all zec=true/\Q (.bl (eqsV xs ys)) H
theorem zcl (hu:X.A.units<cLine):OpR X (compareOp .Eq) (rEqL X.K):=by
 intro pins s σ H x y v u Q I rx ry h
 obtain⟨a,b,xs,ys,rfl,rfl,ha,hb,fx,fy,q⟩:=h
 cases rx
 cases ry
 obtain⟨us,ru,pu,_⟩:=I.list ha
 obtain⟨ws,rw',pw,_⟩:=I.list hb
 have l1:=ru.length
 have l2:=rw'.length
 by_cases hl:xs.length=ys.length
 ·refine SeqAt.eq_listAt pu.isList pw.isList (by simp;omega) hu (items_eqAt ru rw' fx fy) ?_
  refine zO I q ?_
  rw[List.size_toArray,<- l1]
  exact(zZc xs ys hl).symm
 ·refine SeqAt.eq_list_lengthsAt pu.isList pw.isList (by simp;omega) hu ?_
  exact zO I q (zZe xs ys hl)
theorem zsg {xs:List V}{i:Int}{v:V}(h0:0<=i)(h:xs[i.toNat]?=some v):atI xs i=some v:=by
 have e:i=((i.toNat:Nat):Int):=by omega
 rw[e]
 exact zY h
theorem Same.zao {H H':Hp}{a:Addr}{o:HO}(s:Same H H')(n:H a=none):Same H (upd H' a o):=fun b u e=>by
 rw[zy (zJ e n)]
 exact s b u e
def tCut (t:TS):TS:=fun D σ H=>∃M:St->Hp->Prop,t { D with nx:=M } σ H/\∀σ' H',M σ' H'->D.nx σ' H'
theorem zeb {st:Stmt}{t:TS}(h:PS X st t):PS X st (tCut t):=by
 intro pins s σ H D I ⟨M,h1,h2⟩
 refine thn (h pins s σ H _ I h1) fun f s' q=>?_
 cases f with
 |next=>
  obtain⟨σ',H',I',m⟩:=q
  exact⟨σ',H',I',h2 _ _ m⟩
 |brk=>exact q
 |cont=>exact q
 |ret u=>exact q
end
mutual
inductive DAt (K:W.Frag) (H:Hp):V->PyData->Prop
 |non:DAt K H .non .none
 |bl (b:Bool):DAt K H (.bl b) (.bool b)
 |int (i:Int):DAt K H (.int i) (.int i)
 |str (x:Str):DAt K H (.str x) (.str x)
 |lst {a:Addr} {xs:List V} {ds:List PyData}:SqL K H a xs->DsAt K H xs ds->DAt K H (.ref a) (.list ds)
 |tup {a:Addr} {xs:List V} {ds:List PyData}:SqT K H a xs->DsAt K H xs ds->DAt K H (.ref a) (.tuple ds)
inductive DsAt (K:W.Frag) (H:Hp):List V->List PyData->Prop
 |nil:DsAt K H [] []
 |cons {x:V} {d:PyData} {xs:List V} {ds:List PyData}:DAt K H x d->DsAt K H xs ds->DsAt K H (x::xs) (d::ds)
end
section
variable {X:Cx}{pins:zT2}{σ:St}{H:Hp}{s:Shared}
mutual
theorem DAt.reads (I:Inv X pins σ H s):∀{x:V}{d:PyData}{u:Value},DAt X.K H x d->RelV x u->∃as,Reads s.heap u d as
 |_,_,_,.non,r=>by
  cases r
  exact⟨_,.none⟩
 |_,_,_,.bl b,r=>by
  cases r
  exact⟨_,.bool b⟩
 |_,_,_,.int i,r=>by
  obtain⟨t,rfl⟩:=r
  exact⟨_,.int i t⟩
 |_,_,_,.str x,r=>by
  obtain⟨t,rfl⟩:=r
  exact⟨_,.str x t⟩
 |_,_,_,.lst hq ds,r=>by
  cases r
  obtain⟨its,rv,p,_⟩:=I.list hq
  obtain⟨as,ra⟩:=DsAt.reads I ds rv
  obtain⟨o,h1,h2,n,h3⟩:=p.isList
  exact⟨_,.list h1 h2 h3 (by simpa using ra)⟩
 |_,_,_,.tup hq ds,r=>by
  cases r
  obtain⟨its,rv,p,_⟩:=I.tuple hq
  obtain⟨as,ra⟩:=DsAt.reads I ds rv
  obtain⟨o,h1,h2,n,h3⟩:=p
  exact⟨_,.tuple h1 h2 h3 (by simpa using ra)⟩
theorem DsAt.reads (I:Inv X pins σ H s):∀{xs:List V}{ds:List PyData}{us:List Value},DsAt X.K H xs ds->Vals xs us->∃as,ReadsAll s.heap us ds as
 |_,_,_,.nil,r=>by
  cases r
  exact⟨_,.nil⟩
 |_,_,_,.cons d ds,r=>by
  cases r with
  |cons r rs=>
   obtain⟨as,ra⟩:=DAt.reads I d r
   obtain⟨bs,rb⟩:=DsAt.reads I ds rs
   exact⟨_,.cons ra rb⟩
end
def DOk (d:PyData):Prop:=d.canLay0=true/\d.depth<=40
def rEqD (K:PySem.W.Frag)(neg:Bool):R2:=fun x y H Q=>∃dx dy,DAt K H x dx/\DAt K H y dy/\DOk dx/\DOk dy/\Q (.bl (if neg then !PyData.eqv dx dy else PyData.eqv dx dy)) H
theorem zdl (hu:X.A.units+64<cLine):OpR X (compareOp .Eq) (rEqD X.K false):=by
 intro pins s σ H x y v u Q I rx ry h
 obtain⟨dx,dy,ax,ay,okx,oky,q⟩:=h
 obtain⟨as,r1⟩:=ax.reads I rx
 obtain⟨bs,r2⟩:=ay.reads I ry
 refine SeqAt.compareEq_reads r1 r2 okx.1 oky.1 ?_ (zO I q rfl)
 have h1:=okx.2
 have h2:min dx.depth dy.depth<=dx.depth:=Nat.min_le_left _ _
 omega
theorem zaf (hu:X.A.units+64<cLine):OpR X (compareOp .NotEq) (rEqD X.K true):=by
 intro pins s σ H x y v u Q I rx ry h
 obtain⟨dx,dy,ax,ay,okx,oky,q⟩:=h
 obtain⟨as,r1⟩:=ax.reads I rx
 obtain⟨bs,r2⟩:=ay.reads I ry
 refine SeqAt.compareNe_reads r1 r2 okx.1 oky.1 ?_ (zO I q rfl)
 have h1:=okx.2
 have h2:min dx.depth dy.depth<=dx.depth:=Nat.min_le_left _ _
 omega
def rInD (K:PySem.W.Frag)(neg:Bool):R2:=fun x y H Q=>∃p xs dx ds,y=.ref p/\(SqL K H p xs\/SqT K H p xs)/\DsAt K H xs ds/\DAt K H x dx/\DOk dx/\PyData.canLayAll0 ds=true∧
 Q (.bl (if neg then !(ds.any fun d=>PyData.eqv d dx) else ds.any fun d=>PyData.eqv d dx)) H
theorem zGc {a b c:Nat}(hu:a+64<c)(h:b<=40)(k:Nat):a+1+min k b<c:=by
 have h2:min k b<=b:=Nat.min_le_right _ _
 omega
theorem zWi (hu:X.A.units+64<cLine):OpR X (compareOp .In) (rInD X.K false):=by
 intro pins s σ H x y v u Q I rx ry h
 obtain⟨p,xs,dx,ds,rfl,hp,ad,ax,okx,okd,q⟩:=h
 obtain⟨bs,r2⟩:=ax.reads I rx
 rcases hp with hp|hp
 ·obtain⟨as,r1⟩:=(DAt.lst hp ad).reads I ry
  exact SeqAt.in_list_reads r1 r2 okd okx.1 (zGc hu okx.2 _) (zO I q rfl)
 ·obtain⟨as,r1⟩:=(DAt.tup hp ad).reads I ry
  exact SeqAt.in_tuple_reads r1 r2 okd okx.1 (zGc hu okx.2 _) (zO I q rfl)
theorem zfe (hu:X.A.units+64<cLine):OpR X (compareOp .NotIn) (rInD X.K true):=by
 intro pins s σ H x y v u Q I rx ry h
 obtain⟨p,xs,dx,ds,rfl,hp,ad,ax,okx,okd,q⟩:=h
 obtain⟨bs,r2⟩:=ax.reads I rx
 rcases hp with hp|hp
 ·obtain⟨as,r1⟩:=(DAt.lst hp ad).reads I ry
  exact SeqAt.notIn_list_reads r1 r2 okd okx.1 (zGc hu okx.2 _) (zO I q rfl)
 ·obtain⟨as,r1⟩:=(DAt.tup hp ad).reads I ry
  exact SeqAt.notIn_tuple_reads r1 r2 okd okx.1 (zGc hu okx.2 _) (zO I q rfl)
def zLm (K:PySem.W.Frag):R2:=fun x y H Q=>∃a b ys,x=.ref a/\y=.ref b/\SqT K H a []/\SqT K H b ys/\Q (.ref b) H
theorem zyj:OpR X (binaryOp .Add) (zLm X.K):=by
 intro pins s σ H x y v u Q I rx ry h
 obtain⟨a,b,ys,rfl,rfl,ha,hb,q⟩:=h
 cases rx
 cases ry
 obtain⟨us,ru,pu,_⟩:=I.tuple ha
 obtain⟨ws,rw',pw,_⟩:=I.tuple hb
 cases ru
 obtain⟨⟨cls,dd,data,sl⟩,ho,hc,n,hd⟩:=id pu
 obtain⟨⟨cls2,dd2,data2,sl2⟩,ho2,hc2,n2,hd2⟩:=id pw
 simp only at hc hd hc2 hd2
 subst hc hd hc2 hd2
 have st:=tuple_addW0 a b ([]:List Value).toArray ws.toArray n n2 dd dd2 sl sl2 (by simp)
 exact concat_meets ⟨_,ho,rfl⟩ ⟨_,ho2,rfl⟩ noFill_tuple_add seq_tuple_add PySem.F.slot_tuple_add PySem.F.entry_tuple_add (PySem.F.args_tuple_add_2 _ _) st ⟨ho,ho2,⟨.ref b,H,I,rfl,q⟩⟩
def zMm (K:PySem.W.Frag):R2:=fun x y H Q=>∃a b xs ys,x=.ref a/\y=.ref b/\SqT K H a xs/\H b=some (.tup ys)/\ys≠[]/\xs.length+ys.length<=sizeLine/\∀p H',Same H H'->H' p=some (.tup (xs++ys))->Q (.ref p) H'
theorem zzj:OpR X (binaryOp .Add) (zMm X.K):=by
 intro pins s σ H x y v u Q I rx ry h
 obtain⟨a,b,xs,ys,rfl,rfl,ha,hb,hy,hz,q⟩:=h
 by_cases hx:xs=[]
 ·subst hx
  exact zyj pins s σ H _ _ v u Q I rx ry ⟨a,b,ys,rfl,rfl,ha,SqT.of hb,q b H (Same.refl H) hb⟩
 ·exact zlg pins s σ H _ _ v u Q I rx ry ⟨a,b,xs,ys,rfl,rfl,ha,SqT.of hb,hx,hz,fun z=>absurd z hy,fun _ p hp=>q p _ ((Same.refl H).zao hp) zc⟩
def zha (H H':Hp):Prop:=∀b xs,H b=some (.tup xs)->H' b=some (.tup xs)
theorem Same.tups {H H':Hp}(s:Same H H'):zha H H':=fun b xs e=>s b _ e
theorem zha.zeo {H H':Hp}{a:Addr}{ys:List V}{o:HO}(s:zha H H')(h:H' a=some (.lst ys)):zha H (upd H' a o):=fun b xs e=>by
 have q:=s b xs e
 rw[zy (zwm q h (by intro z;cases z))]
 exact q
end
def Tx (n:Nat)(z:Str):Prop:=z.length<=n/\∀c∈z.cps.toList,c<128
theorem Tx.mono {n m:Nat}{z:Str}(h:Tx n z)(k:n<=m):Tx m z:=⟨Nat.le_trans h.1 k,h.2⟩
theorem Tx.ok {n:Nat}{z:Str}(h:Tx n z):PyData.canLay0 (.str z)=true:=by
 show PyData.strOk z=true
 unfold PyData.strOk
 rw[Array.all_eq_true_iff_forall_mem]
 intro c hc
 have q:=h.2 c (by simpa using hc)
 exact decide_eq_true (by omega)
theorem Tx.app {n m:Nat}{y z:Str}(h:Tx n y)(k:Tx m z):Tx (n+m) (y++z):=by
 refine⟨by rw[Str.length_append];exact Nat.add_le_add h.1 k.1,fun c hc=>?_⟩
 have e:(y++z).cps=y.cps++z.cps:=rfl
 rw[e,Array.toList_append] at hc
 rcases List.mem_append.mp hc with q|q
 ·exact h.2 c q
 ·exact k.2 c q
theorem Tx.one {c:Nat}(h:c<128):Tx 1 (⟨#[c]⟩:Str):=⟨Nat.le_refl _,fun d hd=>by
 have:d=c:=by simpa using hd
 omega⟩
theorem Tx.slice {n:Nat}{z:Str}(h:Tx n z)(lo hi:Option Int):Tx n (Txt.slice z lo hi):=by
 refine⟨Nat.le_trans (Txt.slice_le z lo hi) h.1,fun c hc=>?_⟩
 unfold Txt.slice at hc
 split at hc
 ·exact h.2 c hc
 ·have hc':c∈((Builtin.Str.strSliceIndices lo hi 1 z.length).filterMap (z.cps[·]?)):=by simpa using hc
  obtain⟨j,_,e⟩:=List.mem_filterMap.mp hc'
  exact h.2 c (by
   have:=Array.mem_of_getElem? e
   simpa using this)
theorem ztg (sep:Str){n m:Nat}(hs:Tx m sep):∀{ys:List Str},(∀y∈ys,Tx n y)->Tx (ys.length*(n+m)) (Str.join sep ys)
 | [],_=>⟨Nat.zero_le _,fun c hc=>by
  have:c∈([]:List Nat):=hc
  simp at this⟩
 | [x],h=>by
  have q:Tx n (Str.join sep [x]):=h x List.mem_cons_self
  exact q.mono (by rw[List.length_singleton];omega)
 |x::y::r,h=>by
  have q:=ztg sep hs (ys:=y::r) fun z hz=>h z (List.mem_cons_of_mem _ hz)
  have e:Str.join sep (x::y::r)=x++sep++Str.join sep (y::r):=rfl
  rw[e]
  refine(((h x List.mem_cons_self).app hs).app q).mono ?_
  simp only[List.length_cons,Nat.succ_mul]
  omega
section
variable {X:Cx}
def Its (z:Str):It:=⟨fun i _=>i<z.length,fun i H x H'=>H'=H/\∃c,z.cps[i]?=some c/\x=.str ⟨#[c]⟩,fun i _=>z.length<=i⟩
theorem zug {P:Program}{w:World}{K:W.Frag}{tg:Expr}(z:Str)(t:Tok)(it:Addr):Turn P w K tg (Its z) [it] it (fun i h=>h.IsStrIter it "str_ascii_iterator" z t i) where
 mem:=by simp
 obj:=fun i h st b hb=>by
  have e:b=it:=by simpa using hb
  subst e
  obtain⟨o,e,c,d⟩:=st
  exact⟨o,e,fun v q=>by rw[d] at q;cases q⟩
 keep:=fun i h h' st k=>let ⟨o,ho,r⟩:=st;⟨o,k it (by simp) o ho,r⟩
 item:=by
  intro Y hP hw hK hc i pins s σ H E I hf st hg
  subst hP hw hK
  have hlt:i<z.cps.size:=hg
  obtain⟨f0,f1,f2,f3,f4,f5⟩:=hf it (by simp)
  have hx:z.cps[i]?=some z.cps[i]:=by simp[hlt]
  refine wpAny_pyNext_ascii_item st hx fun h' st' sb=>?_
  have I1:Inv Y pins σ H { s with heap:=h',toks:=s.toks+1 }:=I.turned (fun b o hb e=>(sb.2 b hb).trans e) f0 f1 f3 f4 f5
  obtain⟨o,e,c,d⟩:=id st'
  exact⟨_,rfl,zHh (s:={ s with heap:=h',toks:=s.toks+1 }) e c d (by decide) ⟨.str ⟨#[z.cps[i]]⟩,H,I1,⟨_,rfl⟩,⟨rfl,_,hx,rfl⟩,st',fun b hb=>(hf b hb).1⟩⟩
 done:=by
  intro Y hP hw hK hc i pins s σ H E I hf st hg
  subst hP hw hK
  obtain⟨f0,f1,f2,f3,f4,f5⟩:=hf it (by simp)
  have hle:z.cps.size<=i:=hg
  exact wpAny_pyNext_ascii_end (I.ok.hd hc) st (by simp;omega) fun h' eb=>⟨rfl,I.turned (t':=s.toks) (fun b o hb e=>eb b o hb e) f0 f1 f3 f4 f5⟩
 self:=fun A i s Q E st h=>by
  refine wpAny_pyIter_slot st.typeIs F.slot_str_ascii_iterator_iter (wpAny_call_entry F.slot_str_ascii_iterator_iter st.typeIs F.entry_str_ascii_iterator_iter ?_ (F.args_str_ascii_iterator_iter_1 _))
  show wpAny _ _ (ret (.ref it)) _ _ s
  exact wpAny_pure ⟨_,rfl,"str_ascii_iterator",_,st.typeIs,F.slot_str_ascii_iterator_next.lookup,h⟩
def iStr (tl:TE):TI:=fun σ H R=>tl σ H fun x H1=>∃z n,x=.str z/\Tx n z/\R (Its z) H1
theorem Tx.ascii {n:Nat}{z:Str}(h:Tx n z):z.cps.all (· < 128)=true:=by
 rw[Array.all_eq_true_iff_forall_mem]
 intro c hc
 exact decide_eq_true (h.2 c (by simpa using hc))
theorem zvg {tg l:Expr}{tl:TE}(hl:PE X l tl):PI X tg l (iStr tl):=by
 intro pins s σ H R I h
 refine thn (hl pins s σ H _ I h) fun v s1 hq9=>?_
 obtain⟨x,H1,I1,r1,q1⟩:=hq9
 obtain⟨z,n,e,tx,q⟩:=q1
 subst e
 obtain⟨t,rfl⟩:=r1
 refine wpAny_pyIter_ascii tx.ascii ?_
 refine⟨s1.heap.objs.size,[s1.heap.objs.size],_,_,H1,rfl,I1.kept (t':=s1.toks) fun b o e=>Heap.get?_push_of_some _ e,zug z t _,⟨_,Heap.get?_push_size _ rfl,rfl,rfl⟩,fun b hb=>?_,q⟩
 have e:b=s1.heap.objs.size:=by simpa using hb
 subst e
 exact I1.zxo (Nat.le_refl _) (I1.hok.fresh (Nat.le_refl _))
theorem zad {ys:List Str}:∀{us:List Value},Vals (ys.map V.str) us->StrsAre us ys:=by
 induction ys with
 |nil=>intro us r;rw[List.map_nil] at r;cases r;exact .nil
 |cons y ys ih=>
  intro us r
  rw[List.map_cons] at r
  cases r with
  |cons r1 r2=>
   obtain⟨t,e⟩:=r1
   subst e
   exact .cons y t (ih r2)
def rJoin (K:W.Frag):V->List V->Hp->VK->Prop:=fun x xs H Q=>∃sep l ys,x=.str sep/\xs=[.ref l]/\SqL K H l (ys.map V.str)/\(ys.map (·.length)).sum+ys.length*sep.length<=16777216/\Q (.str (Str.join sep ys)) H
theorem zwg:MtR X "str.join" (rJoin X.K):=by
 intro pins s σ H x xs v us Q I rx rs h
 obtain⟨sep,l,ys,rfl,rfl,hl,hz,q⟩:=h
 obtain⟨t,rfl⟩:=rx
 obtain⟨u,rfl,ru⟩:=rs.one
 cases ru
 obtain⟨its,rv,p,_⟩:=I.list hl
 refine join_list p.isList (zad (by simpa using rv)) hz fun t' k=>?_
 have e:Txt.join sep ys=Str.join sep ys:=StrLaws.glued_eq_join sep ys
 rw[e]
 exact⟨.str _,H,I.tok k,⟨_,rfl⟩,q⟩
def rSlS:V->Option Int->Option Int->Hp->VK->Prop:=fun x lo hi H Q=>∃z,x=.str z/\z.length<=sizeLine/\Q (.str (Txt.slice z lo hi)) H
theorem zbf {v:Value}{o:Option Int}(p:IsPart v o):∃l:Option (Int×Tok),v=partValue l/\l.map (·.1)=o:=by
 cases p with
 |none=>exact⟨none,rfl,rfl⟩
 |int i t=>exact⟨some (i,t),rfl,rfl⟩
theorem zcf:SlR X rSlS:=by
 intro pins s σ H x v vl vu lo hi sl Q I rx hs pl pu h
 obtain⟨z,rfl,hz,q⟩:=h
 obtain⟨t,rfl⟩:=rx
 obtain⟨l,rfl,rfl⟩:=zbf pl
 obtain⟨u,rfl,rfl⟩:=zbf pu
 refine⟨"str",_,F.slot_str_getitem.lookup,typeIs_str _ _ _,wpAny_getItem_str_slice (l:=l) (u:=u) (st:=none) hs rfl ?_⟩
 refine post_val_or_str ⟨Nat.le_trans (Txt.slice_le z _ _) hz,fun t' k=>?_⟩
 exact⟨.str _,H,I.tok k,⟨_,rfl⟩,q⟩
def zNm (K:W.Frag):R2:=fun x y H Q=>∃l b xs zs,x=.ref l/\y=.ref b/\SqL K H l xs/\SqL K H b zs/\xs.length+zs.length<=sizeLine/\∀p,H p=none->Q (.ref p) (upd H p (.lst (xs++zs)))
theorem zxg:OpR X (binaryOp .Add) (zNm X.K):=by
 intro pins s σ H x y v u Q I rx ry h
 obtain⟨l,b,xs,zs,rfl,rfl,ha,hb,hz,q⟩:=h
 cases rx
 cases ry
 obtain⟨us,ru,pu,_⟩:=I.list ha
 obtain⟨ws,rw',pw,_⟩:=I.list hb
 have l1:=ru.length
 have l2:=rw'.length
 obtain⟨⟨cls,dd,data,sl⟩,n,ho,hc,hdd,hd⟩:=id pu
 obtain⟨⟨cls2,dd2,data2,sl2⟩,n2,ho2,hc2,hdd2,hd2⟩:=id pw
 simp only at hc hd hc2 hd2
 subst hc hd hc2 hd2
 have st:=list_addW l b us.toArray ws.toArray n n2 dd dd2 sl sl2 (by rw[List.size_toArray,List.size_toArray];omega)
 refine concat_meets ⟨_,ho,rfl⟩ ⟨_,ho2,rfl⟩ noFill_list_add seq_list_add PySem.F.slot_list_add PySem.F.entry_list_add (PySem.F.args_list_add_2 _ _) st ⟨ho,ho2,?_⟩
 have ea:us.toArray++ws.toArray=(us++ws).toArray:=by simp
 rw[ea]
 exact⟨.ref _,_,I.zAo (t':=s.toks) (ru.append rw') (by rw[List.length_append];omega),rfl,q _ I.fresh⟩
end
theorem zXi {z:Str}{caps:St}{tt:TT}{te:TE}{D:Addr}{Q:Hp->Prop}{H1:Hp}(Pv:Nat->List V->Hp->Prop)(hz:z.length<=sizeLine)(h0:Pv 0 [] (upd H1 D (.lst [])))(hl:∀i ys H,Pv i ys H->ys.length<=i)
  (hs:∀i ys H (c:Nat) (N:VK) (M:Hp->Prop),z.cps[i]?=some c->Pv i ys H->(∀y H4,H4 D=some (.lst ys)->Pv (i+1) (ys++[y]) (upd H4 D (.lst (ys++[y])))->N y H4)->(∀H3,Pv (i+1) ys H3->M H3)→
   tt (some (.str ⟨#[c]⟩)::caps) H fun ok H3=>if ok=true then te (some (.str ⟨#[c]⟩)::caps) H3 N else M H3)
  (hd:∀ys H,Pv z.length ys H->Q H):∃W:Nat->Nat->St->Hp->Prop,(∃m,W 0 m (none::caps) (upd H1 D (.lst [])))/\LcW (Its z) (zRb 0) tt te D Q W:=by
 refine⟨fun i m σ H=>m=z.length-i/\i<=z.length/\(∃v,σ=v::caps)/\∃ys,Pv i ys H,⟨z.length,by simp,Nat.zero_le _,⟨none,rfl⟩,[],h0⟩,?_⟩
 rintro i m σ H ⟨rfl,hi,⟨v,rfl⟩,ys,p⟩
 have hy:=hl i ys H p
 by_cases hlt:i<z.length
 ·refine .inr ⟨hlt,fun x H1 y=>?_⟩
  obtain⟨e,c,hc,y⟩:=y
  subst e y
  exact hs i ys _ c _ _ hc p (fun y H4 a c=>⟨ys,a,by omega,z.length-(i+1),by omega,rfl,hlt,⟨_,rfl⟩,_,c⟩) (fun H3 c=>⟨z.length-(i+1),by omega,rfl,hlt,⟨_,rfl⟩,ys,c⟩)
 ·have e:i=z.length:=by omega
  subst e
  exact .inl ⟨Nat.le_refl _,hd ys H p⟩
end L2
namespace L2
open PySem PySem.Spec PyProof.Rows PySem.Builtin.Str
section
variable {X:Cx}
def zYi:V->List V->Hp->VK->Prop:=fun x xs H Q=>∃z y:Str,x=.str z/\xs=[.str y]/\(y.length==0)=false/\z.length<=sizeLine/\(partsBetween z (occurrences z y 0 z.length (z.length+1)) y.length).length<=sizeLine∧
 (Txt.split z y).length<=sizeLine/\∀p,H p=none->Q (.ref p) (upd H p (.lst ((Txt.split z y).map V.str)))
theorem zge:∀l:List (Str×Tok),Vals ((l.map (·.1)).map V.str) (strValues l)
 | []=>.nil
 | (x,t)::l=>.cons ⟨t,rfl⟩ (zge l)
theorem zVb:MtR X "str.split" zYi:=by
 intro pins s σ H x xs v us Q I rx rs h
 obtain⟨z,y,rfl,rfl,hy,hz,hz2,hz3,q⟩:=h
 obtain⟨t,rfl⟩:=rx
 obtain⟨u0,rfl,ru⟩:=rs.one
 obtain⟨u,rfl⟩:=ru
 have fin:∀(l:List (Str×Tok))(tk:Nat),l.map (·.1)=Txt.split z y->EP X pins σ Q (.ref s.heap.objs.size) { s with heap:=s.heap.push { cls:=.type "list",data:=.seq (strValues l).toArray },toks:=tk }:=fun l tk e=>by
  have hv:=zge l
  rw[e] at hv
  exact⟨.ref _,_,I.zAo (t':=tk) hv (by rw[List.length_map];exact hz3),rfl,q _ I.fresh⟩
 cases h1:(decide (z.length<y.length)||decide (strKind z<strKind y))
 ·cases hf:(occurrences z y 0 z.length (z.length+1)).isEmpty
  ·refine call_meets F.slot_str_split (typeIs_str _ _ _) F.entry_str_split (F.args_str_split_2 _ _) (meets_str_split_sep z y t u h1 hy hf hz hz2) ?_
   show wants _ _ _ { s with toks:=_,heap:=s.heap.push { cls:=.type "list",data:=.seq (strsFrom s.toks (partsBetween z (occurrences z y 0 z.length (z.length+1)) y.length)).toArray } }
   rw[strsFrom_eq]
   exact fin (numbered s.toks _) _ ((numbered_texts _ _).trans ((if_neg (ne_true_of_eq_false h1)).trans (if_neg (ne_true_of_eq_false hf))).symm)
  ·exact call_meets F.slot_str_split (typeIs_str _ _ _) F.entry_str_split (F.args_str_split_2 _ _) (meets_str_split_not_found z y t u h1 hy hf) (fin [(z,t)] s.toks ((if_neg (ne_true_of_eq_false h1)).trans (if_pos hf)).symm)
 ·exact call_meets F.slot_str_split (typeIs_str _ _ _) F.entry_str_split (F.args_str_split_2 _ _) (meets_str_split_cannot_occur z y t u h1) (fin [(z,t)] s.toks (if_pos h1).symm)
def zAj:V->List V->Hp->VK->Prop:=fun x xs H Q=>∃z y:Str,x=.str z/\xs=[.str y]/\Q (.bl (Txt.startswith z y)) H
theorem zyg:MtR X "str.startswith" zAj:=by
 intro pins s σ H x xs v us Q I rx rs h
 obtain⟨z,y,rfl,rfl,q⟩:=h
 obtain⟨t,rfl⟩:=rx
 obtain⟨u0,rfl,ru⟩:=rs.one
 obtain⟨u,rfl⟩:=ru
 exact SC.startswith ⟨.bl _,H,I,rfl,q⟩
def zOm:V->List V->Hp->VK->Prop:=fun x xs H Q=>∃z y:Str,x=.str z/\xs=[.str y]/\Q (.bl (Txt.endswith z y)) H
theorem zBj:MtR X "str.endswith" zOm:=by
 intro pins s σ H x xs v us Q I rx rs h
 obtain⟨z,y,rfl,rfl,q⟩:=h
 obtain⟨t,rfl⟩:=rx
 obtain⟨u0,rfl,ru⟩:=rs.one
 obtain⟨u,rfl⟩:=ru
 exact SC.endswith ⟨.bl _,H,I,rfl,q⟩
theorem split_len (z y:Str):(Txt.split z y).length<=z.length+2:=by
 unfold Txt.split
 split
 ·show 1<=_
  omega
 ·split
  ·show 1<=_
   omega
  ·rw[length_partsBetween]
   have e1:=StrLaws.occ_length_le z y 0 z.length (z.length+1)
   omega
theorem zob (z y:Str):(partsBetween z (occurrences z y 0 z.length (z.length+1)) y.length).length<=z.length+2:=by
 rw[length_partsBetween]
 have e1:=StrLaws.occ_length_le z y 0 z.length (z.length+1)
 omega
end
end L2
namespace SL
open PySem PySem.Builtin.Str L2
def zna (c:Nat)(s:List Str×Str)(x:Nat):List Str×Str:=if x=c then(s.1++[s.2],Str.empty) else(s.1,s.2++⟨#[x]⟩)
def zfb (c:Nat)(l:List Nat):List Str×Str:=l.foldl (zna c) ([],Str.empty)
def spl (c:Nat)(l:List Nat):List Str:=(zfb c l).1++[(zfb c l).2]
theorem zHc (c:Nat)(l:List Nat)(x:Nat):zfb c (l++[x])=zna c (zfb c l) x:=by
 unfold zfb
 rw[List.foldl_append]
 rfl
theorem zBe (z:Str)(c:Nat)(hi limit:Nat):∀(k i:Nat)(st:Array Nat×Nat),st.2<=i->st.1.size+k<=limit→
  (forIn (List.range' i k) st (StrLaws.occBody z ⟨#[c]⟩ hi limit)).run.fst.toList=st.1.toList++(List.range' i k).filter fun j=>decide (j+(⟨#[c]⟩:Str).length<=hi/\subAt z ⟨#[c]⟩ j=true)
 |0,i,st,_,_=>by
  rw[show List.range' i 0=[] from rfl,List.filter_nil,List.append_nil]
  rfl
 |k+1,i,st,h1,h2=>by
  rw[List.range'_succ,List.forIn_cons,List.filter_cons]
  unfold StrLaws.occBody
  by_cases hc:i+(⟨#[c]⟩:Str).length<=hi/\subAt z ⟨#[c]⟩ i=true
  ·rw[if_pos ⟨⟨⟨by omega,h1⟩,hc.1⟩,hc.2⟩,if_pos (decide_eq_true hc)]
   refine(zBe z c hi limit k (i+1) (st.1.push i,i+1) (Nat.le_refl _) (by rw[Array.size_push];omega)).trans ?_
   rw[Array.toList_push,List.append_assoc]
   rfl
  ·rw[if_neg (fun y=>hc ⟨y.1.2,y.2⟩),if_neg (by rw[decide_eq_false hc];nofun)]
   exact zBe z c hi limit k (i+1) st (by omega) (by omega)
def zoc (z:Str)(c k:Nat):List Nat:=(List.range' 0 k).filter fun j=>decide (z.cps.toList[j]?=some c)
theorem zPh (z:Str)(c:Nat):occurrences z ⟨#[c]⟩ 0 z.length (z.length+1)=zoc z c z.length:=by
 rw[StrLaws.occ_eq,zBe z c _ _ _ 0 (#[],0) (Nat.le_refl _) (by show 0+(z.length+1-0)<=_;omega)]
 show[]++_=_
 rw[List.nil_append,show z.length+1-0=z.length+1 from rfl,List.range'_concat,List.filter_append]
 unfold zoc
 have e:∀j,decide (j+(⟨#[c]⟩:Str).length<=z.length/\subAt z ⟨#[c]⟩ j=true)=decide (z.cps.toList[j]?=some c):=fun j=>decide_eq_decide.mpr (StrLaws.subAt_one z c j)
 have e2:z.cps.toList[z.length]?=none:=List.getElem?_eq_none (by rw[Array.length_toList];exact Nat.le_refl _)
 rw[show(fun j=>decide (j+(⟨#[c]⟩:Str).length<=z.length/\subAt z ⟨#[c]⟩ j=true))=(fun j=>decide (z.cps.toList[j]?=some c)) from funext e]
 rw[show 0+1*z.length=z.length by omega,List.filter_cons,if_neg (by rw[e2];nofun),List.filter_nil,List.append_nil]
inductive Cut (z:Str):List Nat->List Str->Nat->Prop where
 |nil:Cut z [] [] 0
 |snoc {cuts done b} (i:Nat):Cut z cuts done b->Cut z (cuts++[i]) (done++[strSub z b i]) (i+1)
def zsd (z:Str)(cuts:List Nat)(last:Nat):List Str:=((0::cuts.map (· + 1)).zip (cuts++[last])).map fun p=>strSub z p.1 p.2
theorem Cut.parts {z:Str}{cuts:List Nat}{done:List Str}{b:Nat}(h:Cut z cuts done b):∀last,zsd z cuts last=done++[strSub z b last]:=by
 induction h with
 |nil=>exact fun last=>rfl
 |snoc i h ih=>
  intro last
  unfold zsd
  rw[List.map_append,<- List.cons_append,List.zip_append (by rw[List.length_cons,List.length_map,List.length_append];rfl),List.map_append]
  have q:=ih i
  unfold zsd at q
  rw[q]
  rfl
theorem zzg (z:Str)(i:Nat):strSub z i i=Str.empty:=Str.ext' (by
 show z.cps.extract i i=#[]
 exact Array.eq_empty_of_size_eq_zero (by rw[Array.size_extract];omega))
theorem zhe (z:Str)(c:Nat):∀k,k<=z.length->∃b,b<=k/\Cut z (zoc z c k) (zfb c (z.cps.toList.take k)).1 b/\(zfb c (z.cps.toList.take k)).2=strSub z b k
 |0,_=>⟨0,Nat.le_refl _,.nil,(zzg z 0).symm⟩
 |k+1,h=>by
  obtain⟨b,h1,h2,h3⟩:=zhe z c k (by omega)
  have hk:k<z.cps.toList.length:=by rw[Array.length_toList];exact h
  have e:z.cps.toList.take (k+1)=z.cps.toList.take k++[z.cps.toList[k]]:=by
   rw[List.take_add_one,List.getElem?_eq_getElem hk]
   rfl
  have e1:z.cps.toList[k]?=some z.cps.toList[k]:=List.getElem?_eq_getElem hk
  have ec:zoc z c (k+1)=zoc z c k++(if z.cps.toList[k]=c then[k] else[]):=by
   unfold zoc
   rw[List.range'_concat,List.filter_append,show 0+1*k=k by omega,List.filter_cons,List.filter_nil,e1]
   by_cases hc:z.cps.toList[k]=c
   ·rw[if_pos (decide_eq_true (by rw[hc])),if_pos hc]
   ·rw[if_neg (by rw[decide_eq_false (fun y=>hc (by injection y))];nofun),if_neg hc]
  rw[e,zHc,ec]
  unfold zna
  by_cases hc:z.cps.toList[k]=c
  ·rw[if_pos hc,if_pos hc,h3]
   exact⟨k+1,Nat.le_refl _,.snoc k h2,(zzg z _).symm⟩
  ·rw[if_neg hc,if_neg hc,List.append_nil,h3]
   refine⟨b,by omega,h2,?_⟩
   have hs:k<z.cps.size:=h
   have eg:z.cps.getD k 0=z.cps.toList[k]:=by simp[Array.getD,hs]
   show _=strSub z b (k+1)
   rw[<- eg]
   exact(KWd.sub_snoc z h1 h).symm
theorem zKa (z:Str){c:Nat}(hc:c<256):Txt.split z ⟨#[c]⟩=spl c z.cps.toList:=by
 have whole:zsd z (zoc z c z.length) z.length=spl c z.cps.toList:=by
  obtain⟨b,_,h2,h3⟩:=zhe z c z.length (Nat.le_refl _)
  have e:z.cps.toList.take z.length=z.cps.toList:=by
   rw[List.take_of_length_le (by rw[Array.length_toList];exact Nat.le_refl _)]
  rw[e] at h2 h3
  rw[h2.parts]
  unfold spl
  rw[h3]
 have none:zoc z c z.length=[]->[z]=spl c z.cps.toList:=fun h=>by
  rw[<- whole,h]
  show[z]=[strSub z 0 z.length]
  rw[show strSub z 0 z.length=z from Str.ext' (by show z.cps.extract 0 z.cps.size=z.cps;exact Array.extract_size)]
 unfold Txt.split
 rw[zPh]
 split
 ·rename_i h
  refine none ?_
  rcases Bool.or_eq_true_iff.mp h with h|h
  ·have h:=of_decide_eq_true h
   have:z.length=0:=Nat.lt_one_iff.mp h
   rw[this]
   rfl
  ·have h:=of_decide_eq_true h
   have e:Builtin.Str.strKind ⟨#[c]⟩=1:=by
    unfold Builtin.Str.strKind
    rw[if_pos (by simp[hc])]
   rw[e] at h
   unfold Builtin.Str.strKind at h
   split at h
   ·omega
   ·split at h<;>omega
 ·split
  ·rename_i h
   exact none (List.isEmpty_iff.mp h)
  ·exact whole
end SL
namespace SL
open PySem L2
def FIG:Str:=Str.ofString "0123456789"
def SMA:Str:=Str.ofString "abcdefghijklmnopqrstuvwxyz"
def NAM:Str:=Str.ofString "abcdefghijklmnopqrstuvwxyz0123456789"
def MAR:Str:=Str.ofString "abcdefghijklmnopqrstuvwxyzABCDEFGHIJKLMNOPQRSTUVWXYZ0123456789.:-_/="
def hasC (S:Str)(c:Nat):Bool:=decide (c∈S.cps.toList)
def zW (S z:Str):Bool:=z.cps.toList.all (hasC S)
def hd (z:Str):Nat:=z.cps.toList.headD 0
def isNum (z:Str):Bool:=decide (1<=z.length/\z.length<=9)&&(zW FIG z&&(decide (z=Str.ofString "0")||!decide ((⟨#[hd z]⟩:Str)=Str.ofString "0")))
def isName (z:Str):Bool:=decide (1<=z.length/\z.length<=12)&&(hasC SMA (hd z)&&zW NAM z)
def zP (z:Str):Bool:=isNum z||isName z
def isList (z:Str):Bool:=(Txt.startswith z (Str.ofString "[")&&Txt.endswith z (Str.ofString "]"))&&(decide (z=Str.ofString "[]")||(decide ((Txt.split (Txt.slice z (some 1) (some (-1))) (Str.ofString ",")).length<=4)&&(Txt.split (Txt.slice z (some 1) (some (-1))) (Str.ofString ",")).all zP))
def zya (z:Str):Bool:=decide (1<=z.length/\z.length<=12)&&(zW MAR z&&!zP z)
inductive So where
 |num|nam|lis|mar
 deriving DecidableEq
def So.str:So->Str
 |.num=>Str.ofString "number" | .nam=>Str.ofString "name" | .lis=>Str.ofString "list" | .mar=>Str.ofString "mark"
def zGa (z:Str):Option So:=if isNum z then some .num else if isName z then some .nam else if isList z then some .lis else if zya z then some .mar else none
def vS:Option So->V
 |none=>.non
 |some k=>.str k.str
end SL
namespace L2
open PySem PySem.Spec PyProof.Rows
section
variable {X:Cx}
theorem range_all (bs:List Bool)(i:Nat)(h:i<=bs.length):((List.range bs.length).drop i).all (fun j=>bs.getD j false)=(bs.drop i).all id:=by
 induction k:bs.length-i generalizing i with
 |zero=>
  have e:i=bs.length:=by omega
  subst e
  rw[List.drop_of_length_le (by simp),List.drop_of_length_le (Nat.le_refl _)]
  rfl
 |succ k ih=>
  have hlt:i<bs.length:=by omega
  have hd:(List.range bs.length).drop i=i::(List.range bs.length).drop (i+1):=by
   rw[List.drop_eq_getElem_cons (by simpa using hlt)];simp
  rw[hd,List.drop_eq_getElem_cons hlt,List.all_cons,List.all_cons,ih (i+1) hlt (by omega)]
  simp[List.getD,hlt]
theorem range_any (bs:List Bool)(i:Nat)(h:i<=bs.length):((List.range bs.length).drop i).any (fun j=>bs.getD j false)=(bs.drop i).any id:=by
 induction k:bs.length-i generalizing i with
 |zero=>
  have e:i=bs.length:=by omega
  subst e
  rw[List.drop_of_length_le (by simp),List.drop_of_length_le (Nat.le_refl _)]
  rfl
 |succ k ih=>
  have hlt:i<bs.length:=by omega
  have hd:(List.range bs.length).drop i=i::(List.range bs.length).drop (i+1):=by
   rw[List.drop_eq_getElem_cons (by simpa using hlt)];simp
  rw[hd,List.drop_eq_getElem_cons hlt,List.any_cons,List.any_cons,ih (i+1) hlt (by omega)]
  simp[List.getD,hlt]
theorem zdf {prog:Program}{w:World}{A:Around}{bs:List Bool}{us:List Value}(rv:Vals (bs.map V.bl) us):TruthOf prog w A (fun i v=>us.toArray[i]?=some v) (fun i=>bs.getD i false):=by
 intro i v s Q E hv q
 have hv':us[i]?=some v:=by simpa using hv
 have hlt:i<bs.length:=by
  have:=(List.getElem?_eq_some_iff.mp hv').1
  have:=rv.length
  rw[List.length_map] at this
  omega
 obtain⟨u,hu,ru⟩:=rv.get (i:=i) (x:=V.bl bs[i]) (by simp[hlt])
 rw[hv'] at hu
 cases hu
 cases ru
 refine wpAny_truthy_bool ?_
 have e:bs.getD i false=bs[i]:=by simp[List.getD,hlt]
 have q':Q (bs.getD i false) s:=q
 rw[e] at q'
 exact q'
theorem zpb (hc:X.calm=true):zSb X (.builtin "all") (fun xs H Q=>∃(p:Addr)(bs:List Bool),xs=[.ref p]/\SqL X.K H p (bs.map V.bl)/\Q (.bl (bs.all id)) H):=by
 intro pins s σ H xs us Q I r h
 obtain⟨p,bs,rfl,hq,q⟩:=h
 obtain⟨u,rfl,rx⟩:=vals1 r
 cases rx
 obtain⟨its,rv,pl,hz⟩:=I.list hq
 have hl:its.length=bs.length:=by
  have:=rv.length
  rw[List.length_map] at this
  exact this.symm
 obtain⟨o,ho,_⟩:=id pl.isList
 have hp:p<s.heap.objs.size:=Heap.lt_size ho
 refine call_all_walk (wpAny_pyIter_list pl.isList ?_)
 refine⟨s.heap.objs.size,[s.heap.objs.size,p],[s.heap.objs.size],its.toArray.size,_,_,fun i=>bs.getD i false,rfl,Walks.list (A:=X.A.in1) (by exact I.ok.hd hc) _ p (Nat.ne_of_lt hp) its.toArray,⟨⟨_,Heap.get?_push_size _ rfl,rfl,rfl⟩,pl.isList.at fun o e=>Heap.get?_push_of_some _ e⟩,zdf rv,fun h' tk kk=>?_⟩
 have e:=range_all bs 0 (Nat.zero_le _)
 rw[List.drop_zero,List.drop_zero] at e
 rw[List.size_toArray,hl,e]
 exact⟨.bl _,H,I.kept (t':=tk) fun b o eo=>kk b o (by simpa using Nat.ne_of_lt (Heap.lt_size eo)) (Heap.get?_push_of_some _ eo),rfl,q⟩
theorem zAg (hc:X.calm=true):zSb X (.builtin "any") (fun xs H Q=>∃(p:Addr)(bs:List Bool),xs=[.ref p]/\SqL X.K H p (bs.map V.bl)/\Q (.bl (bs.any id)) H):=by
 intro pins s σ H xs us Q I r h
 obtain⟨p,bs,rfl,hq,q⟩:=h
 obtain⟨u,rfl,rx⟩:=vals1 r
 cases rx
 obtain⟨its,rv,pl,hz⟩:=I.list hq
 have hl:its.length=bs.length:=by
  have:=rv.length
  rw[List.length_map] at this
  exact this.symm
 obtain⟨o,ho,_⟩:=id pl.isList
 have hp:p<s.heap.objs.size:=Heap.lt_size ho
 refine call_any_walk (wpAny_pyIter_list pl.isList ?_)
 refine⟨s.heap.objs.size,[s.heap.objs.size,p],[s.heap.objs.size],its.toArray.size,_,_,fun i=>bs.getD i false,rfl,Walks.list (A:=X.A.in1) (by exact I.ok.hd hc) _ p (Nat.ne_of_lt hp) its.toArray,⟨⟨_,Heap.get?_push_size _ rfl,rfl,rfl⟩,pl.isList.at fun o e=>Heap.get?_push_of_some _ e⟩,zdf rv,fun h' tk kk=>?_⟩
 have e:=range_any bs 0 (Nat.zero_le _)
 rw[List.drop_zero,List.drop_zero] at e
 rw[List.size_toArray,hl,e]
 exact⟨.bl _,H,I.kept (t':=tk) fun b o eo=>kk b o (by simpa using Nat.ne_of_lt (Heap.lt_size eo)) (Heap.get?_push_of_some _ eo),rfl,q⟩
theorem boot_all:bootBuiltins "all"=some (.builtin "all"):=by decide +kernel
theorem boot_any:bootBuiltins "any"=some (.builtin "any"):=by decide +kernel
structure MkN (K:W.Frag)(C:Addr):Prop where
 makes:W.makesIn K C=true
 init:W.findIn K (.ref C) "__init__"=some (some (.builtin "object.__init__"))
 kp:W.keepIn K (.ref C)=true
def zel (C:Addr):TE:=fun _ H Q=>∀x dx,H x=none->H dx=none->dx≠x->Q (.ref x) (upd (upd H dx (.own x)) x (.ins C dx []))
theorem zwb {x:Str}{p pos:Pos}{C:Addr}(M:MkN X.K C)(hg:Gl X x)(hm:X.mg x=some (.ref C))(hdb:(x==("__debug__":Str))=false:=by decide):PE X (.Call (.Name x p) [] [] pos) (zel C):=by
 intro pins s σ H Q I h
 refine wpAny_Call_Name_kw (zib I hg hm ?_ hdb)
 refine W.callWith_K0 (first:=[]) I.kIn M.kp (wpAny_call ?_)
 have I2:=Inv.made (C:=C) I
 have hq:=h (s.heap.objs.size+1) s.heap.objs.size (I.hok.fresh (Nat.le_succ _)) (I.hok.fresh (Nat.le_refl _)) (Nat.ne_of_lt (Nat.lt_succ_self _))
 have Y:=W.makes_of (M:=model X.prog X.w) I.kIn M.makes
 obtain⟨hh,g,d,t,os⟩:=s
 refine zfg I.kIn M.makes M.init (fun self=>W.Looks.of_pure (W.oi_bind self)) ?_
 have e2:((hh.push W.emptyDict).push (W.instObj C hh.objs.size)).get? (hh.objs.size+1)=some (W.instObj C hh.objs.size):=by
  have:=Heap.get?_push_size (hh.push W.emptyDict) (o:=W.instObj C hh.objs.size) rfl
  rwa [Heap.size_push] at this
 have t1:W.Looks (model X.prog X.w) ((hh.push W.emptyDict).push (W.instObj C hh.objs.size)) (typeOf (.ref (hh.objs.size+1))) (.ref C):=(W.Looks.ld e2).andThen .now
 have t2:W.Looks (model X.prog X.w) ((hh.push W.emptyDict).push (W.instObj C hh.objs.size)) (isInstance (.ref (hh.objs.size+1)) (.type "object")) true:=t1.andThen (Y.top.keeps fun b o e=>Heap.get?_push_of_some _ (Heap.get?_push_of_some _ e))
 refine codeAny_call_builtin W.oi_plain W.entry_oi (@W.check_slot (model X.prog X.w) _ _ _ "object.__init__" "object" "__init__" (.ref (hh.objs.size+1)) [] [] _ W.oi_kind W.oi_split t2 (W.oi_args (.ref (hh.objs.size+1))) ?_)
 rw[W.oi_run]
 exact wpAny_pure (And.intro rfl ⟨V.ref (hh.objs.size+1),_,I2,rfl,hq⟩)
def zZi (P:Program)(w:World)(K:W.Frag)(mg:zT3)(base:Heap)(CX:CXT)(k:Nat)(m:Str)(E:XK)(ta:TE)(t:TA):TE:=fun σ H Q=>ta σ H fun x H1=>∃a C dx fs f fd ps sp,x=.ref a/\H1 a=some (.ins C dx fs)/\fs.lookup m=none∧
 Cls K C/\Meth K C m f/\FnOk P w K mg base CX k f fd ps sp/\Binds K fd ps []/\t σ H1 fun vs H2=>sp (x::vs) H2 Q E
theorem ztd {CX:CXT}{k:Nat}{m:Str}{E:XK}{pos apos:Pos}{o e:Expr}{es:List Expr}{ta:TE}{t:TA}{pl:Sem Bool}(he:PE X o ta)(hr:Room k X.A)(hx:Passes CX X E)(ha:PA X (e::es) t)
  (hst:starEach (e::es) X.env=(false,eval e X.env)::starEach es X.env:=by rfl)(hpl:(backTo pos (starEach es X.env)).any (·.1)=false:=by rfl)
  (ht:eval (.Call (.Attribute o m apos) (e::es) [] pos) X.env=(do
   let ov ← eval o X.env
   standAt apos.atName
   let (f,first) ← holding [ov] (getMethod ov m pl)
   callWith pos f first (backTo pos (starEach (e::es) X.env)) (backToKw pos (keywordEach [] X.env))):=by rfl):
  PE X (.Call (.Attribute o m apos) (e::es) [] pos) (zZi X.prog X.w X.K X.mg X.base CX k m E ta t):=by
 intro pins s σ H Q I h
 refine W.methodCall_KW (pl:=pl) (thn (he pins s σ H _ I h) fun u s1 ⟨x,H1,I1,rx,a,C,dx,fs,f,fd,ps,sp,ex,ea,l,c,hm,F,hb,q⟩=>?_) ht
 subst ex
 obtain rfl:u=Value.ref a:=rx
 refine zvb I1 ea c hm l ?_
 refine W.callWith_K (first:=[.ref a]) (h₀:=X.base) I.ok.mod.kin hm.kp (thn (ha pos pins s1 σ H1 _ I1 q) fun us s2 ⟨vs,H2,I2,r,q2⟩=>⟨I2.kIn,?_⟩) hst hpl
 exact zXc (us:=.ref a::us) (vs:=.ref a::vs) (dvs:=[]) (ds:=[]) F hr hb .nil hx I2 (.cons rfl r) (by rw[List.append_nil];exact q2)
theorem zBg {CX:CXT}{k:Nat}{m:Str}{E:XK}{pos apos:Pos}{o:Expr}{ta:TE}{pl:Sem Bool}(he:PE X o ta)(hr:Room k X.A)(hx:Passes CX X E)
  (ht:eval (.Call (.Attribute o m apos) [] [] pos) X.env=(do
   let ov ← eval o X.env
   standAt apos.atName
   let (f,first) ← holding [ov] (getMethod ov m pl)
   callWith pos f first (backTo pos (starEach [] X.env)) (backToKw pos (keywordEach [] X.env))):=by rfl):
  PE X (.Call (.Attribute o m apos) [] [] pos) (zZi X.prog X.w X.K X.mg X.base CX k m E ta tNil):=by
 intro pins s σ H Q I h
 refine W.methodCall_KW (pl:=pl) (thn (he pins s σ H _ I h) fun u s1 ⟨x,H1,I1,rx,a,C,dx,fs,f,fd,ps,sp,ex,ea,l,c,hm,F,hb,q⟩=>?_) ht
 subst ex
 obtain rfl:u=Value.ref a:=rx
 refine zvb I1 ea c hm l ?_
 exact W.callWith_K0 (first:=[.ref a]) I1.kIn hm.kp (zXc (us:=[.ref a]) (vs:=[.ref a]) (dvs:=[]) (ds:=[]) F hr hb .nil hx I1 (.cons rfl .nil) q)
end
open AutoSeq1 (wpAny_loadPart')
section
variable {prog:Program}{w:World}{A:Around}{E:zE1}{s:Shared}
theorem zGf {it t:Addr}{i:Nat}{items:Array Value}{x:Value}{Q:zE1}(hit:s.heap.IsTupleIter it t i)(ht:s.heap.IsTuple t items)(hx:items[i]?=some x)
  (hQ:∀h',h'.IsTupleIter it t (i+1)->Heap.SameBut it s.heap h'->Q x { s with heap:=h' }):wpAny (model prog w) A (Builtin.SmallTypes.nextOf (.ref it)) Q E s:=by
 obtain⟨o,ho,hc,hd⟩:=id hit
 obtain⟨ol,hol,_,nl,hdl⟩:=ht
 have cal:=fun(R:Fin->Shared->Prop) (q:wpAny (model prog w) A.in1 (Builtin.«tuple_iterator.__next__» ⟨[.ref it],[]⟩) R E s)=>q
 unfold Builtin.SmallTypes.nextOf
 refine wpAny_bind (wpAny_callSpecial?_slot (name:=Str.ofString "__next__") hit.typeIs F.slot_tuple_iterator_next (wpAny_call_entry F.slot_tuple_iterator_next hit.typeIs F.entry_tuple_iterator_next ?_ (F.args_tuple_iterator_next_1 _)))
 clear cal
 show wpAny _ _ (field (.ref it) 0 >>= _) _ _ s
 refine wpAny_bind (wpAny_field ho hd (x:=.ref t) rfl ?_)
 show wpAny _ _ (if (Value.ref t==Value.none)=true then _ else _) _ _ s
 rw[if_neg (show ¬((Value.ref t==Value.none)=true) from Bool.false_ne_true)]
 show wpAny _ _ (field (.ref it) 1 >>= _) _ _ s
 refine wpAny_bind (wpAny_field ho hd (x:=.int i 0) rfl ?_)
 show wpAny _ _ (seqItems? (.ref t) >>= _) _ _ s
 refine wpAny_bind (wpAny_seqItems hol hdl ?_)
 simp only[Int.toNat_natCast,hx]
 refine wpAny_bind (wpAny_setField ho hd (by simp) (wpAny_pure ⟨x,rfl,wpAny_pure (hQ _ ?_ (Heap.SameBut.update ..))⟩))
 refine⟨_,Heap.get?_update_self _ ho (Obj.isFreed_of_fields (Obj.data_mapFields hd _)),(Obj.cls_mapFields ..).trans hc,?_⟩
 rw[Obj.data_mapFields hd]
 simp[rawInt]
theorem zFb {it t:Addr}{i:Nat}{items:Array Value}{Q:zE1}(hh:A.handled=none)(hit:s.heap.IsTupleIter it t i)(ht:s.heap.IsTuple t items)(hx:items[i]?=none)
  (hE:∀h' e,Heap.ExtBut it s.heap h'->(∃o,h'.get? e=some o/\o.cls=.type "StopIteration")->E (.ref e) { s with heap:=h' }):wpAny (model prog w) A (Builtin.SmallTypes.nextOf (.ref it)) Q E s:=by
 obtain⟨o,ho,hc,hd⟩:=id hit
 obtain⟨ol,hol,_,nl,hdl⟩:=ht
 unfold Builtin.SmallTypes.nextOf
 refine wpAny_bind (wpAny_callSpecial?_slot (name:=Str.ofString "__next__") hit.typeIs F.slot_tuple_iterator_next (wpAny_call_entry F.slot_tuple_iterator_next hit.typeIs F.entry_tuple_iterator_next ?_ (F.args_tuple_iterator_next_1 _)))
 show wpAny _ _ (field (.ref it) 0 >>= _) _ _ s
 refine wpAny_bind (wpAny_field ho hd (x:=.ref t) rfl ?_)
 show wpAny _ _ (if (Value.ref t==Value.none)=true then _ else _) _ _ s
 rw[if_neg (show ¬((Value.ref t==Value.none)=true) from Bool.false_ne_true)]
 show wpAny _ _ (field (.ref it) 1 >>= _) _ _ s
 refine wpAny_bind (wpAny_field ho hd (x:=.int i 0) rfl ?_)
 show wpAny _ _ (seqItems? (.ref t) >>= _) _ _ s
 refine wpAny_bind (wpAny_seqItems hol hdl ?_)
 simp only[Int.toNat_natCast,hx]
 refine wpAny_bind (wpAny_rule (wpAny_bind (wpAny_setField ho hd (by simp) ?_)))
 show wpAny _ _ (newExc (.type "StopIteration") [] >>= _) _ _ _
 refine wpAny_bind ?_
 simp only[newExc,newTuple]
 refine wpAny_bind (wpAny_newObj_type ?_ (by size_fits))
 refine wpAny_bind (m:=firstArgMember _ _) (wpAny_of_eq (a:=Value.none) (by first|rfl|(simp only[firstArgMember];rfl)) (wpAny_newObj_type ?_ (by size_fits)))
 simp only[raiseNew]
 refine wpAny_bind (wpAny_handled ?_)
 first|rw[show A.in1.handled=none from hh]|rw[hh]
 exact wpAny_bind (wpAny_pure (wpAny_throw (hE _ _ (((Heap.SameBut.update ..).extBut.push _).push _) ⟨_,Heap.get?_push_size _ rfl,rfl⟩)))
theorem zCg (hh:A.handled=none)(it l:Addr)(hne:l≠it)(items:Array Value):
  Draws prog w A it [it,l] items.size (fun i v=>items[i]?=some v) (fun i h=>h.IsTupleIter it l i/\h.IsTuple l items) where
 live:=fun _ _ st=>let ⟨o,ho,_⟩:=st.1;⟨o,ho⟩
 frame:=fun _ _ _ st hk=>⟨let ⟨o,ho,r⟩:=st.1;⟨o,hk it (by simp) o ho,r⟩,let ⟨o,ho,r⟩:=st.2;⟨o,hk l (by simp) o ho,r⟩⟩
 item:=fun i s Q E hi st hQ=>zGf st.1 st.2 (x:=items[i]) (by simp[hi]) fun h' hit' hs'=>hQ _ h' s.toks (by simp[hi]) ⟨hit',st.2.extBut hs'.extBut hne⟩ hs'
 done:=fun s Q E st hE=>zFb hh st.1 st.2 (by simp) hE
theorem zSc (l:Addr)(o:Obj)(items:Array Value)(n:Nat)(hc:o.cls=.type "tuple")(hd:o.data=.seq items n):
  Meets (Builtin.«enumerate.__new__» ⟨[.type "enumerate",.ref l],[]⟩) (fun _ R s=>s.heap.get? l=some o∧
   R (.ok (.ret (.ref (s.heap.push { cls:=.type "tuple_iterator",data:=.fields #[.ref l,.int 0 0] }).objs.size)))
    { s with heap:=(s.heap.push { cls:=.type "tuple_iterator",data:=.fields #[.ref l,.int 0 0] }).push { cls:=.type "enumerate",data:=.fields #[.none,.bool false,.ref s.heap.objs.size,rawInt 0,.none,.none] } }):=
 .of_wp fun prog w A R s h=>by
  obtain⟨cls,dd,data,sl⟩:=o
  simp only at hc hd
  subst hc hd
  obtain⟨hp,g,d,tk,os⟩:=s
  obtain⟨hl,h⟩:=h
  have hsub:=sub_enumerate
  have hL:Heap.IsTuple (Shared.heap ⟨hp,g,d,tk,os⟩) l items:=⟨_,hl,rfl,n,rfl⟩
  wp_walk using wpAny_loadPart' hl
  refine wpAny_stack_any fun st=>wpAny_pure ?_
  split
  ·rename_i c _ _ _ _ _
   cases(c==Value.type "enumerate")
   ·wp_walk using wpAny_loadPart' hl,wpAny_pyIter_tuple hL
    exact⟨_,rfl,h⟩
   ·wp_walk using wpAny_loadPart' hl,wpAny_pyIter_tuple hL
    exact⟨_,rfl,h⟩
  ·wp_walk using wpAny_loadPart' hl,wpAny_pyIter_tuple hL
   exact⟨_,rfl,h⟩
end
section
variable {X:Cx}{pins:zT2}{σ:St}{H:Hp}{s:Shared}
theorem Inv.zfo {h':Heap}{t':Nat}{ch:List Addr}{T:Addr}{o:HO}(I:Inv X pins σ H s)(hc:∀b∈ch,FpOk X pins H b)(k:∀b u,b∉ch->s.heap.get? b=some u->h'.get? b=some u)(hT:s.heap.objs.size<=T)(new:zqa X.prog X.w (upd H T o) h' T o):
  Inv X pins σ (upd H T o) { s with heap:=h',toks:=t' }:=by
 have hn:H T=none:=I.hok.fresh hT
 have nT:∀b u,s.heap.get? b=some u->b≠T:=fun b u e=>Nat.ne_of_lt (Nat.lt_of_lt_of_le (Heap.lt_size e) hT)
 have nc:∀b u,H b=some u->b∉ch:=fun b u e z=>by
  have:=(hc b z).1
  rw[e] at this
  cases this
 refine I.step (g':=s.gens) (d':=s.drawn) (ch:=ch) (fun b hb=>⟨(hc b hb).2.2.2.1,(hc b hb).2.1,(hc b hb).2.2.2.2.1,(hc b hb).2.2.2.2.2⟩) (fun b u _ _ z e _=>k b u z e) (fun b u _ _ z e _=>⟨u.slots,k b u z e⟩)
  (fun b u _ e n=>by rw[zy (nT b u e)];exact n) (fun b u z e=>⟨u,k b u z e⟩) (fun b xs q=>by rw[zy (zJ q hn)];exact q) (fun b u xs q=>by rw[zy (zJ q hn)];exact q)
  (fun b ps q=>⟨#[],by rw[zy (zJ q hn),q];simp⟩) (fun m hm=>?_) (fun b u e=>?_) I.bare
 ·obtain⟨u,es,ep,ho,r⟩:=hm
  exact⟨u,es,ep,k _ u (fun z=>(hc _ z).2.1 rfl) ho,r⟩
 ·by_cases hb:b=T
  ·subst hb
   rw[zc] at e
   cases e
   exact new
  ·rw[zy hb] at e
   refine(I.hok b u e).zto (fun c v z q=>k c v ?_ q) (fun c q=>by rw[zy (zJ q hn)];exact q) fun c xs q=>by rw[zy (zJ q hn)];exact q
   rcases z with z|z
   ·rw[z];exact nc b u e
   ·exact nc c _ z
theorem Inv.zgo {h':Heap}{t':Nat}{ch:List Addr}(I:Inv X pins σ H s)(hc:∀b∈ch,FpOk X pins H b)(k:∀b u,b∉ch->s.heap.get? b=some u->h'.get? b=some u):Inv X pins σ H { s with heap:=h',toks:=t' }:=by
 have nc:∀b u,H b=some u->b∉ch:=fun b u e z=>by
  have:=(hc b z).1
  rw[e] at this
  cases this
 refine I.step (g':=s.gens) (d':=s.drawn) (ch:=ch) (fun b hb=>⟨(hc b hb).2.2.2.1,(hc b hb).2.1,(hc b hb).2.2.2.2.1,(hc b hb).2.2.2.2.2⟩) (fun b u _ _ z e _=>k b u z e) (fun b u _ _ z e _=>⟨u.slots,k b u z e⟩)
  (fun b u _ e n=>n) (fun b u z e=>⟨u,k b u z e⟩) (fun b xs q=>q) (fun b u xs q=>q) (fun b ps q=>⟨#[],by rw[q];simp⟩) (fun m hm=>?_) (fun b u e=>?_) I.bare
 ·obtain⟨u,es,ep,ho,r⟩:=hm
  exact⟨u,es,ep,k _ u (fun z=>(hc _ z).2.1 rfl) ho,r⟩
 ·refine(I.hok b u e).zto (fun c v z q=>k c v ?_ q) (fun c q=>q) fun c xs q=>q
  rcases z with z|z
  ·rw[z];exact nc b u e
  ·exact nc c _ z
end
def Ite (K:W.Frag)(a:Addr):It:=
 ⟨fun i H=>∃xs x,SqT K H a xs/\xs[i]?=some x,fun i H v H'=>∃p x,v=.ref p/\H p=none/\H'=upd H p (.tup [.int i,x])/\∀xs,SqT K H a xs->xs[i]?=some x,fun i H=>∃xs,SqT K H a xs/\xs.length<=i⟩
theorem zDg {P:Program}{w:World}{K:W.Frag}{elts:List Expr}{k:Nat}{pos:Pos}(a e it:Addr)(hei:e≠it)(hae:a≠e)(hai:a≠it):
  Turn P w K (.Tuple elts k pos) (Ite K a) [e,it] e (fun i h=>(∃old,IsEnum h e it i old)/\h.IsTupleIter it a i) where
 mem:=by simp
 obj:=fun i h st b hb=>by
  obtain⟨⟨old,h1⟩,o,h2,h3,h4⟩:=st
  rcases List.mem_cons.mp hb with z|z
  ·subst z
   exact⟨_,h1,fun v z=>by cases z⟩
  ·have z':b=it:=by simpa using z
   subst z'
   exact⟨o,h2,fun v z=>by rw[h4] at z;cases z⟩
 keep:=fun i h h' st kk=>by
  obtain⟨⟨old,h1⟩,h2⟩:=st
  exact⟨⟨old,kk e (by simp) _ h1⟩,(let ⟨o,ho,r⟩:=h2;⟨o,kk it (by simp) o ho,r⟩)⟩
 item:=by
  intro X hP hw hK hc i pins s σ H E I hf st hg
  subst hP hw hK
  obtain⟨xs,x,hq,hx⟩:=hg
  obtain⟨its,rv,p,hz⟩:=I.tuple hq
  obtain⟨u,hu,ru⟩:=rv.get hx
  obtain⟨⟨old,h1⟩,h2⟩:=st
  have D:=zCg (prog:=X.prog) (w:=X.w) (A:=X.A.in1) (I.ok.hd hc) it a hai its.toArray
  have hlt:i<its.toArray.size:=by
   have:=(List.getElem?_eq_some_iff.mp hu).1
   simpa using this
  refine wpAny_pyNext_enum_itemD D h1 ⟨h2,p⟩ hlt hei (by simp[Ne.symm hae,hei]) fun y h' tk hy ho hs' hT hsz hk=>?_
  have hyu:y=u:=by
   have e1:its.toArray[i]?=some u:=by simpa using hu
   exact Option.some.inj (hy.symm.trans e1)
  subst hyu
  refine⟨_,rfl,wpAny_letOwnedTupleGo_enum ho fun h'' he'' hsb=>?_⟩
  have helt:e<s.heap.objs.size:=Heap.lt_size h1
  have kk:∀b o,b∉[e,it]->s.heap.get? b=some o->h''.get? b=some o:=fun b o hb q=>by
   have b1:b≠e:=fun z=>hb (by simp[z])
   have b2:b≠it:=fun z=>hb (by simp[z])
   exact(hsb.2 b b1).trans (hk b o b1 b2 q)
  have hT'':h''.get? s.heap.objs.size=some { cls:=.type "tuple",data:=.seq #[.int i tk,y] }:=(hsb.2 _ (Nat.ne_of_gt helt)).trans hT
  have hno:H s.heap.objs.size=none:=I.hok.fresh (Nat.le_refl _)
  have I1:Inv X pins σ (upd H s.heap.objs.size (.tup [.int i,x])) { s with heap:=h'',toks:=tk+1 }:=by
   refine I.zfo (ch:=[e,it]) hf kk (Nat.le_refl _) ⟨(by show 2<=sizeLine;decide),[.int i tk,y],?_,⟨_,hT'',rfl,_,rfl⟩⟩
   exact .cons ⟨tk,rfl⟩ (.cons ru .nil)
  refine⟨.ref s.heap.objs.size,_,I1,rfl,⟨_,x,rfl,hno,rfl,fun ys hy'=>by rw[I.zWn hy' hq];exact hx⟩,⟨⟨y,?_⟩,?_⟩,fun b hb=>?_⟩
  ·simpa using he''
  ·have q:=hs'.1
   obtain⟨o,z,r⟩:=q
   exact⟨o,(hsb.2 it (Ne.symm hei)).trans z,r⟩
  ·have hb':=(hf b hb).1
   rw[zy]
   ·exact hb'
   ·intro z
    subst z
    obtain⟨ob,eb,_⟩:∃o,s.heap.get? s.heap.objs.size=some o/\True:=by
     rcases List.mem_cons.mp hb with q|q
     ·rw[q];exact⟨_,h1,trivial⟩
     ·have q':s.heap.objs.size=it:=by simpa using q
      obtain⟨o,ho',_⟩:=h2
      rw[q'];exact⟨o,ho',trivial⟩
    exact absurd (Heap.lt_size eb) (Nat.lt_irrefl _)
 done:=by
  intro X hP hw hK hc i pins s σ H E I hf st hg
  subst hP hw hK
  obtain⟨xs,hq,hx⟩:=hg
  obtain⟨its,rv,p,hz⟩:=I.tuple hq
  obtain⟨⟨old,h1⟩,h2⟩:=st
  have hl:=rv.length
  have hT:s.TypeIs (.ref e) "enumerate":=⟨_,h1,rfl⟩
  unfold pyNext
  refine wpAny_bind (wpAny_attempt (wpAny_callSpecial?_slot (name:=Str.ofString "__next__") hT F.slot_enumerate_next (wpAny_call_entry F.slot_enumerate_next hT F.entry_enumerate_next ?_ (F.args_enumerate_next_1 _))))
  show wpAny _ _ (field (.ref e) 2 >>= _) _ _ _
  refine wpAny_bind (wpAny_field h1 rfl (x:=.ref it) rfl ?_)
  refine wpAny_bind (zFb (items:=its.toArray) (by exact I.ok.hd hc) h2 p (by simp;omega) fun h' x he' hx'=>?_)
  obtain⟨o,ho,hc'⟩:=hx'
  refine wpAny_bind (wpAny_isInstance (T:="StopIteration") (b:=true) ⟨o,ho,hc'⟩ isSubtype_stop ?_)
  obtain⟨f0,f1,f2,f3,f4,f5⟩:=hf it (by simp)
  exact wpAny_pure ⟨rfl,I.turned (t':=s.toks) (fun b o hb q=>he' b o hb q) f0 f1 f3 f4 f5⟩
 self:=fun A i s Q E st h=>by
  obtain⟨⟨old,h1⟩,_⟩:=st
  exact wpAny_pyIter_enum h1 h
def zPm (K:W.Frag)(ta:TA):TI:=fun σ H R=>ta σ H fun vs H1=>∃a,vs=[.ref a]/\(∃xs,SqT K H1 a xs)/\R (Ite K a) H1
theorem zie:bootBuiltins "enumerate"=some (.type "enumerate"):=by decide +kernel
theorem zEg {X:Cx}{elts:List Expr}{k:Nat}{tpos:Pos}{a:Expr}{ta:TA}{p pos:Pos}(hg:Gl X "enumerate")(hm:X.mg "enumerate"=none)(ha:PA X [a] ta)(hs:starEach [a] X.env=[(false,eval a X.env)]:=by rfl):
  PI X (.Tuple elts k tpos) (.Call (.Name "enumerate" p) [a] [] pos) (zPm X.K ta):=by
 intro pins s σ H R I h
 refine Call_ (zCb I hg hm zie (PyProof.Rows.callWith_type1 (thn (ha pos pins s σ H _ I h) fun us s1 ⟨vs,H1,I1,r1,q1⟩=>?_) hs rfl))
 obtain⟨b,e,⟨xs,hq⟩,q⟩:=q1
 subst e
 obtain⟨u,rfl,ru⟩:=r1.one
 cases ru
 obtain⟨its,rv,pt,hz⟩:=I1.tuple hq
 obtain⟨o,ho,hc,n,hd⟩:=id pt
 have hb:b<s1.heap.objs.size:=Heap.lt_size ho
 refine callType_new F.called_enumerate (by decide) (F.typeCall_enumerate_1 _) (F.newCall_enumerate_1 _) (fun obj=>F.args_object_init_2 obj _) F.entry_enumerate_new (zSc b o its.toArray n hc hd) ⟨ho,?_⟩
 have hz1:(s1.heap.push { cls:=.type "tuple_iterator",data:=.fields #[.ref b,.int 0 0] }).objs.size=s1.heap.objs.size+1:=Heap.size_push ..
 show _/\_
 rw[hz1]
 have he:IsEnum ((s1.heap.push { cls:=.type "tuple_iterator",data:=.fields #[.ref b,.int 0 0] }).push { cls:=.type "enumerate",data:=.fields #[.none,.bool false,.ref s1.heap.objs.size,rawInt 0,.none,.none] }) (s1.heap.objs.size+1) s1.heap.objs.size 0 .none:=by
  have q:=Heap.get?_push_size (s1.heap.push { cls:=.type "tuple_iterator",data:=.fields #[.ref b,.int 0 0] }) (o:={ cls:=.type "enumerate",data:=.fields #[.none,.bool false,.ref s1.heap.objs.size,rawInt 0,.none,.none] }) rfl
  rw[hz1] at q
  exact q
 refine⟨⟨_,he,rfl⟩,?_⟩
 refine wpAny_pyIter_enum he ?_
 have I2:=I1.kept (h':=(s1.heap.push { cls:=.type "tuple_iterator",data:=.fields #[.ref b,.int 0 0] }).push { cls:=.type "enumerate",data:=.fields #[.none,.bool false,.ref s1.heap.objs.size,rawInt 0,.none,.none] }) (t':=s1.toks) fun c v q=>Heap.get?_push_of_some _ (Heap.get?_push_of_some _ q)
 refine⟨s1.heap.objs.size+1,[s1.heap.objs.size+1,s1.heap.objs.size],_,Ite X.K b,H1,rfl,I2,zDg b _ _ (Nat.succ_ne_self _) (Nat.ne_of_lt (Nat.lt_succ_of_lt hb)) (Nat.ne_of_lt hb),⟨⟨_,he⟩,⟨_,Heap.get?_push_of_some _ (Heap.get?_push_size _ rfl),rfl,rfl⟩⟩,fun c hc'=>?_,q⟩
 have hle:s1.heap.objs.size<=c:=by
  rcases List.mem_cons.mp hc' with z|z
  ·rw[z]
   exact Nat.le_succ _
  ·have z':c=s1.heap.objs.size:=by simpa using z
   exact Nat.le_of_eq z'.symm
 exact I1.zxo hle (I1.hok.fresh hle)
theorem zQh {K:W.Frag}{a:Addr}{xs:List V}{g:TG}{tb:TS}{D:Ends}{σ:St}{H:Hp}(Pv:Nat->St->Hp->Prop)(h0:Pv 0 σ H)(hl:∀i σ H,i<=xs.length->Pv i σ H->SqT K H a xs)
  (hs:∀i x σ H p,xs[i]?=some x->Pv i σ H->H p=none->g (.ref p) σ (upd H p (.tup [.int (i:Nat),x])) fun σ2 H2=>tb { D with nx:=Pv (i+1),ct:=Pv (i+1),bk:=D.nx } σ2 H2)(hd:∀σ H,Pv xs.length σ H->D.nx σ H):
  ∃W:Nat->Nat->St->Hp->Prop,(∃m,W 0 m σ H)/\∀i m σ H,W i m σ H→
   ((Ite K a).stop i H/\D.nx σ H)\/((Ite K a).go i H/\∃N:St->Hp->Prop,(∀σ' H',N σ' H'->∃m',m'<m/\W (i+1) m' σ' H')/\∀x H',(Ite K a).yld i H x H'->g x σ H' fun σ2 H2=>tb { D with nx:=N,ct:=N,bk:=D.nx } σ2 H2):=by
 refine⟨fun i m σ H=>m=xs.length-i/\i<=xs.length/\Pv i σ H,⟨xs.length,by simp,Nat.zero_le _,h0⟩,?_⟩
 rintro i m σ H ⟨rfl,hi,p⟩
 have q:=hl i σ H hi p
 by_cases hlt:i<xs.length
 ·refine .inr ⟨⟨xs,xs[i],q,by simp[hlt]⟩,Pv (i+1),fun σ' H' p'=>⟨xs.length-(i+1),by omega,rfl,hlt,p'⟩,fun x H' y=>?_⟩
  obtain⟨c,z,e1,e2,e3,e4⟩:=y
  subst e1 e3
  exact hs i z σ H c (e4 xs q) p e2
 ·have e:i=xs.length:=by omega
  subst e
  exact .inl ⟨⟨xs,q,Nat.le_refl _⟩,hd σ H p⟩
section
variable {X:Cx}
def zQm (K:W.Frag):R2:=fun x y H Q=>∃a b xs ys,x=.ref a/\y=.ref b/\H a=some (.tup xs)/\SqT K H b ys/\xs≠[]/\xs.length+ys.length<=sizeLine/\∀p H',Same H H'->H' p=some (.tup (xs++ys))->Q (.ref p) H'
theorem zCj:OpR X (binaryOp .Add) (zQm X.K):=by
 intro pins s σ H x y v u Q I rx ry h
 obtain⟨a,b,xs,ys,rfl,rfl,ha,hb,hx,hz,q⟩:=h
 exact zlg pins s σ H _ _ v u Q I rx ry ⟨a,b,xs,ys,rfl,rfl,SqT.of ha,hb,hx,hz,fun z=>q a H (Same.refl H) (by subst z;rw[List.append_nil];exact ha),fun _ p hp=>q p _ ((Same.refl H).zao hp) zc⟩
def zje (ns:List Int):Nat:=(firstMet (fun i=>ns.getD i 0) ns.length).length
def inI (ns:List Int):Int->Bool:=fun k=>(firstMet (fun i=>ns.getD i 0) ns.length).any (·==k)
theorem zFg (hc:X.calm=true):zSb X (.type "set") (fun xs H Q=>∃p ns,xs=[.ref p]/\SqL X.K H p (ns.map V.int)/\ns.length<=1000/\∀a,H a=none->Q (.ref a) (upd H a (.set (inI ns) (zje ns)))):=by
 intro pins s σ H xs us Q I r h
 obtain⟨p,ns,rfl,hq,hn,q⟩:=h
 obtain⟨u,rfl,rx⟩:=vals1 r
 cases rx
 obtain⟨its,r',pl,hz⟩:=I.list hq
 have hlen:=r'.length
 rw[List.length_map] at hlen
 refine PySem.call_set_list (items:=its.toArray) (ns:=ns) (I.ok.hd hc) pl.isList (by simpa using intsAre_of r') (by unfold scanBound;rw[List.size_toArray];omega) fun h' tk hS hk=>?_
 rw[show its.toArray.size=ns.length by rw[List.size_toArray,hlen]] at hS
 exact⟨.ref s.heap.objs.size,_,I.laid (t':=tk) (fun b o e=>hk b o (Heap.lt_size e) e) (Nat.le_refl _) (show zqa X.prog X.w _ h' _ (.set (inI ns) (zje ns)) from hS),rfl,q _ (I.hok.fresh (Nat.le_refl _))⟩
theorem zGg:zSb X (.builtin "len") (fun xs H Q=>∃a S n,xs=[V.ref a]/\H a=some (.set S n)/\Q (.int n) H):=by
 intro pins s σ H xs us Q I r h
 obtain⟨a,S,n,rfl,ha,q⟩:=h
 obtain⟨u,rfl,ru⟩:=vals1 r
 cases ru
 obtain⟨o,es,ep,t,ho,hex,hd,_,_,hb,hf,hn⟩:=show s.heap.SetOf (intKind X.prog X.w) a S n from I.hok _ _ ha
 subst hn
 unfold scanBound at hb
 exact call_len_set ho hex hd hf (by omega) ⟨.int es.size,H,I.tok _,⟨_,rfl⟩,q⟩
end
theorem range_getD (ns:List Int):(List.range ns.length).map (fun i=>ns.getD i 0)=ns:=by
 apply List.ext_getElem
 ·simp
 ·intro i h1 h2
  have h3:i<ns.length:=h2
  simp[List.getD,h3]
theorem zIc:∀(ns σ:List Int),σ.Nodup->(ns.foldl step_dedup σ).Nodup
 | [],σ,h=>h
 |v::ns,σ,h=>by
  refine zIc ns _ ?_
  unfold step_dedup
  split
  ·exact h
  ·rename_i hn
   rw[List.nodup_append]
   refine⟨h,by simp,fun x hx y hy=>?_⟩
   rw[List.mem_singleton] at hy
   intro z
   subst hy z
   exact hn (List.any_eq_true.mpr ⟨_,hx,by simp⟩)
theorem zDj (ns:List Int)(k:Int):inI ns k=true↔k∈ns:=by
 unfold inI
 rw[firstMet_any,range_getD,List.any_eq_true]
 exact⟨fun⟨x,hx,e⟩=>by rw[beq_iff_eq] at e;rwa [<- e],fun h=>⟨k,h,by simp⟩⟩
theorem zRh {a:Int}{ns:List Int}(ha:a∈ns):zje ns=1↔∀x∈ns,x=a:=by
 have nd:(firstMet (fun i=>ns.getD i 0) ns.length).Nodup:=by
  unfold firstMet
  exact zIc _ _ List.nodup_nil
 have mem:∀k,k∈firstMet (fun i=>ns.getD i 0) ns.length↔k∈ns:=fun k=>by
  rw[<- zDj ns k]
  unfold inI
  rw[List.any_eq_true]
  exact⟨fun h=>⟨k,h,by simp⟩,fun⟨x,hx,e⟩=>by rw[beq_iff_eq] at e;rwa [<- e]⟩
 unfold zje
 generalize firstMet (fun i=>ns.getD i 0) ns.length=l at nd mem
 constructor
 ·intro h x hx
  obtain⟨y,hy⟩:=List.length_eq_one_iff.mp h
  have h1:=(mem x).mpr hx
  have h2:=(mem a).mpr ha
  rw[hy,List.mem_singleton] at h1 h2
  rw[h1,h2]
 ·intro h
  match l,nd,mem with
  | [],_,mem=>have:=(mem a).mpr ha;simp at this
  | [y],_,_=>rfl
  |y::z::r,nd,mem=>
   have h1:=h y ((mem y).mp (by simp))
   have h2:=h z ((mem z).mp (by simp))
   simp[h1,h2] at nd
section
variable {X:Cx}
def zfl (t:TT):TT:=fun σ H Q=>∃M:Bool->Hp->Prop,t σ H M/\∀b H',M b H'->Q b H'
theorem zgl {e:Expr}{t:TT}(h:PT X e t):PT X e (zfl t):=by
 intro pins s σ H Q I ⟨M,h1,h2⟩
 exact thn (h pins s σ H M I h1) fun b s' ⟨H',I',m⟩=>⟨H',I',h2 b H' m⟩
end
theorem zSh {K:W.Frag}{a:Addr}{xs:List V}{caps:St}{tt:TT}{te:TE}{D:Addr}{Q:Hp->Prop}{H1:Hp}(Pv:Nat->List V->Hp->Prop)(hz:xs.length<=sizeLine)(h0:Pv 0 [] (upd H1 D (.lst [])))(hl:∀i ys H,Pv i ys H->ys.length<=i)(hq:∀i ys H,Pv i ys H->SqT K H a xs)
  (hs:∀i ys H (x:V) (p:Addr) (N:VK) (M:Hp->Prop),xs[i]?=some x->Pv i ys H->H p=none->(∀y H4,H4 D=some (.lst ys)->Pv (i+1) (ys++[y]) (upd H4 D (.lst (ys++[y])))->N y H4)->(∀H3,Pv (i+1) ys H3->M H3)→
   tt (some (.int (i:Nat))::some x::caps) (upd H p (.tup [.int (i:Nat),x])) fun ok H3=>if ok=true then te (some (.int (i:Nat))::some x::caps) H3 N else M H3)
  (hd:∀ys H,Pv xs.length ys H->Q H):∃W:Nat->Nat->St->Hp->Prop,(∃m,W 0 m (none::none::caps) (upd H1 D (.lst [])))/\LcW (Ite K a) (gTup K 2 (zkd (zRb 0) (zkd (zRb 1) gNil))) tt te D Q W:=by
 refine⟨fun i m σ H=>m=xs.length-i/\i<=xs.length/\(∃v w,σ=v::w::caps)/\∃ys,Pv i ys H,⟨xs.length,by simp,Nat.zero_le _,⟨none,none,rfl⟩,[],h0⟩,?_⟩
 rintro i m σ H ⟨rfl,hi,⟨v,w,rfl⟩,ys,p⟩
 have hy:=hl i ys H p
 by_cases hlt:i<xs.length
 ·refine .inr ⟨⟨xs,xs[i],hq i ys H p,by simp[hlt]⟩,fun x H1 y=>?_⟩
  obtain⟨c,z,e1,e2,e3,e4⟩:=y
  subst e1 e3
  exact⟨c,[.int (i:Nat),z],rfl,SqT.of zc,rfl,_,_,rfl,_,_,rfl,rfl,hs i ys H z c _ _ (e4 xs (hq i ys _ p)) p e2 (fun y H4 a c=>⟨ys,a,by omega,xs.length-(i+1),by omega,rfl,hlt,⟨_,_,rfl⟩,_,c⟩) (fun H3 c=>⟨xs.length-(i+1),by omega,rfl,hlt,⟨_,_,rfl⟩,ys,c⟩)⟩
 ·have e:i=xs.length:=by omega
  subst e
  exact .inl ⟨⟨xs,hq _ ys H p,Nat.le_refl _⟩,hd ys H p⟩
section
variable {X:Cx}
theorem zHg:zSb X (.type "range") (fun xs H Q=>∃j:Int,xs=[.int j]/\∀a,H a=none->Q (.ref a) (upd H a (.rng 0 j))):=by
 intro pins s σ H xs us Q I r h
 obtain⟨j,rfl,q⟩:=h
 obtain⟨u,rfl,rx⟩:=vals1 r
 obtain⟨t,rfl⟩:=rx
 refine call_range_1 ⟨.ref s.heap.objs.size,_,I.laid (t':=s.toks+1+1) (o:=.rng 0 j) (fun b o e=>Heap.get?_push_of_some _ e) (Nat.le_refl _) ⟨_,_,_,Heap.get?_push_size _ rfl⟩,rfl,q _ (I.hok.fresh (Nat.le_refl _))⟩
def zWb (lo:Int)(n:Nat):List Int:=(List.range n).map fun(i:Nat)=>lo+(i:Int)
theorem zHf {lo:Int}:∀(n:Nat)(us:List Value),us.length=n->(∀(i:Nat)(v:Value),us[i]?=some v->∃t,v=.int (lo+(i:Int)) t)->Vals ((zWb lo n).map V.int) us:=by
 intro n
 induction n generalizing lo with
 |zero=>
  intro us hl _
  have:us=[]:=List.length_eq_zero_iff.mp hl
  subst this
  exact .nil
 |succ n ih=>
  intro us hl h
  cases us with
  |nil=>simp at hl
  |cons u us=>
   obtain⟨t,rfl⟩:=h 0 u rfl
   have e:zWb lo (n+1)=(lo+((0:Nat):Int))::zWb (lo+1) n:=by
    unfold zWb
    rw[List.range_succ_eq_map,List.map_cons,List.map_map]
    congr 1
    apply List.map_congr_left
    intro i _
    show lo+((Nat.succ i:Nat):Int)=lo+1+(i:Int)
    omega
   rw[e,List.map_cons]
   refine .cons ⟨t,rfl⟩ (ih us (by simpa using hl) fun i v hv=>?_)
   obtain⟨t',rfl⟩:=h (i+1) v (by simpa using hv)
   exact⟨t',by congr 1;omega⟩
theorem zud (hc:X.calm=true):zSb X (.type "list") (fun xs H Q=>∃(p:Addr)(lo hi:Int),xs=[.ref p]/\H p=some (.rng lo hi)/\-(2 ^ 62)<=lo/\lo<2 ^ 62/\-(2 ^ 62)<=hi/\hi<2 ^ 62/\(hi-lo).toNat<=1000/\∀l,H l=none->Q (.ref l) (upd H l (.lst ((zWb lo (hi-lo).toNat).map V.int)))):=by
 intro pins s σ H xs us Q I r h
 obtain⟨p,lo,hi,rfl,hp,l0,l1,h0,h1,hn,q⟩:=h
 obtain⟨u,rfl,rx⟩:=vals1 r
 cases rx
 obtain⟨t,u,v,ho⟩:=show ∃t u v,s.heap.get? p=some { cls:=.type "range",data:=.fields #[.int lo t,.int hi u,.int 1 v] } from I.hok _ _ hp
 refine call_list_range (n:=(hi-lo).toNat) (I.ok.hd hc) ho (small_one l0 l1 h0 h1) (by rw[rangeSize_one];split<;>omega) (by omega) fun h' tk acc' c' hk hS hI=>?_
 refine⟨.ref s.heap.objs.size,_,I.laid (t':=tk) hk (Nat.le_refl _) (show zqa X.prog X.w _ h' _ (.lst ((zWb lo (hi-lo).toNat).map V.int)) from⟨?_,acc'.toList,c',?_,?_⟩),rfl,q _ (I.hok.fresh (Nat.le_refl _))⟩
 ·unfold zWb
  rw[List.length_map,List.length_map,List.length_range]
  exact Nat.le_of_lt (zv hn)
 ·refine zHf _ _ (by rw[Array.length_toList];exact hI.1) fun i v hv=>?_
  obtain⟨t,rfl⟩:=hI.2 i v (by simpa using hv)
  exact⟨t,by rw[Int.mul_one]⟩
 ·rw[Array.toArray_toList]
  exact hS
end
structure FunD (K:W.Frag)(x qual:Str)(st:Stmt)(f:Addr)(fd:FuncData)(its:Array Value):Prop where
 ex:∃(oc:Value)(od:Option Addr)(dT:Addr)(kV doc pm:Value)(an:Option Addr)(cdv ct:Value)(osl:Array (Option Value)),
  fd=W.fnOf x qual (zk st) (zj st) (zb st) (.ref dT) kV doc pm an cdv ct/\K.lookup f=some ⟨oc,od,.func fd,osl⟩/\W.codeIn K cdv qual=true/\∃(o:Obj)(n:Nat),K.lookup dT=some o/\o.data=.seq its n
 kp:W.keepIn K (.ref f)=true
section
variable {P:Program}{w:World}{K:W.Frag}{mg:zT3}{base:Heap}
theorem FunD.ok {x qual:Str}{st:Stmt}{f:Addr}{fd:FuncData}{its:Array Value}{N ps:List Str}{k:Nat}{sp:Sp}(F:FunD K x qual st f fd its)(S:FnScope N ps (zb st))(len:∀vs H Q E,sp vs H Q E->vs.length=ps.length)
  (hbody:∀(cdv:Value)(A:Around)(outer:List Env)(s:Shared)(H:Hp)(vs:List V)(Q:VK)(E:XK),Room k (A.deeper (envOfC qual (zb st) s.heap.objs.size f cdv))->sp vs H Q E→
   ∃t,PSs (cxOf CX0 P w K mg base N qual (zb st) f cdv A outer s H E).nox (zj st) t/\t { nx:=fun _ H'=>Q .non H',rt:=Q } (start N vs) H):FnOk P w K mg base CX0 (k+1) f fd ps sp:=by
 obtain⟨oc,od,dT,kV,doc,pm,an,cdv,ct,osl,rfl,lk,hcd,_⟩:=F.ex
 refine zMh lk hcd S len fun A outer s H vs Q E hr hsp=>?_
 obtain⟨t,h,q⟩:=hbody cdv A outer s H vs Q E hr hsp
 exact⟨t,h.nox,q⟩
theorem FunD.binds {x qual:Str}{st:Stmt}{f:Addr}{fd:FuncData}{its:Array Value}{ps:List Str}{ds:List Value}(F:FunD K x qual st f fd its)
  (h:∀(dT:Addr)(kV doc pm:Value)(an:Option Addr)(cdv ct:Value)(us:List Value),(us++ds).length=ps.length→
   ∃k,bindArgs (W.fnOf x qual (zk st) (zj st) (zb st) (.ref dT) kV doc pm an cdv ct) ⟨us,[]⟩=seqItems? (.ref dT) >>= k/\k (some its)=pure (ps.zip (us++ds))):Binds K fd ps ds:=by
 obtain⟨oc,od,dT,kV,doc,pm,an,cdv,ct,osl,rfl,lk,hcd,o,n,ho,hs⟩:=F.ex
 intro s us X hl
 obtain⟨k,h1,h2⟩:=h dT kV doc pm an cdv ct us hl
 exact BindsTo.of_defaults rfl (X _ _ ho) hs h1 h2
theorem zCe {x qual:Str}{st:Stmt}{f dT:Addr}{oc dc:Value}{od an dod:Option Addr}{osl dsl:Array (Option Value)}{its:Array Value}{n:Nat}{kV doc pm cdv ct:Value}(l:K.lookup f=some ⟨oc,od,.func (W.fnOf x qual (zk st) (zj st) (zb st) (.ref dT) kV doc pm an cdv ct),osl⟩)
  (d:K.lookup dT=some ⟨dc,dod,.seq its n,dsl⟩)(c:W.codeIn K cdv qual=true)(k:W.keepIn K (.ref f)=true):FunD K x qual st f (W.fnOf x qual (zk st) (zj st) (zb st) (.ref dT) kV doc pm an cdv ct) its:=⟨⟨oc,od,dT,kV,doc,pm,an,cdv,ct,osl,rfl,l,c,_,n,d,rfl⟩,k⟩
end
theorem zke (n l m:Nat)(h1:l<n)(h2:m<n):ZipApart (n+4) (n+2) (n+3) n (n+1) l m:=by
 constructor<;>(show@Ne Nat _ _;omega)
theorem boot_zip:bootBuiltins "zip"=some (.type "zip"):=by decide +kernel
structure Src (prog:Program)(w:World)(it l:Addr)(J:Nat->Heap->Prop)(C:Array Value->Heap->Prop):Prop where
 item:∀(A:Around)(E:zE1)(s:Shared)(k:Nat)(xs:Array Value)(x:Value)(Q:zE1),J k s.heap->C xs s.heap->xs[k]?=some x->(∀h',J (k+1) h'->Heap.SameBut it s.heap h'->Q x { s with heap:=h' })->wpAny (model prog w) A (Builtin.SmallTypes.nextOf (.ref it)) Q E s
 stop:∀(A:Around)(E:zE1)(s:Shared)(k:Nat)(xs:Array Value)(Q:zE1),A.handled=none->J k s.heap->C xs s.heap->xs[k]?=none->(∀h' e,Heap.ExtBut it s.heap h'->(∃o,h'.get? e=some o/\o.cls=.type "StopIteration")->E (.ref e) { s with heap:=h' })->wpAny (model prog w) A (Builtin.SmallTypes.nextOf (.ref it)) Q E s
 keep:∀k h h',J k h->(∀o,h.get? it=some o->h'.get? it=some o)->J k h'
 seq:∀xs h h',C xs h->(∀o,h.get? l=some o->h'.get? l=some o)->C xs h'
 obj:∀k h,J k h->∃o vs,h.get? it=some o/\o.data=.fields vs
theorem src_list {prog:Program}{w:World}(it l:Addr):Src prog w it l (fun k h=>h.IsListIter it l k) (fun xs h=>h.IsList l xs) where
 item:=fun A E s k xs x Q j c e q=>wpAny_nextOf_list_item j c e q
 stop:=fun A E s k xs Q hh j c e q=>wpAny_nextOf_list_end hh j c e q
 keep:=fun k h h' ⟨o,g,r⟩ f=>⟨o,f o g,r⟩
 seq:=fun xs h h' ⟨o,g,r⟩ f=>⟨o,f o g,r⟩
 obj:=fun k h ⟨o,g,_,r⟩=>⟨o,_,g,r⟩
section
variable {prog:Program}{w:World}{A:Around}{E:zE1}{s:Shared}
theorem zTh {it t:Addr}{i:Nat}{items:Array Value}{x:Value}{Q:zE1}(hit:s.heap.IsTupleIter it t i)(ht:s.heap.IsTuple t items)(hx:items[i]?=some x)
  (q:∀h',h'.IsTupleIter it t (i+1)->Heap.SameBut it s.heap h'->Q x { s with heap:=h' }):wpAny (model prog w) A (Builtin.SmallTypes.nextOf (.ref it)) Q E s:=by
 obtain⟨o,g,c,d⟩:=id hit
 obtain⟨ol,gl,_,nl,dl⟩:=ht
 unfold Builtin.SmallTypes.nextOf
 refine wpAny_bind (wpAny_callSpecial?_slot (name:=Str.ofString "__next__") hit.typeIs PySem.F.slot_tuple_iterator_next (wpAny_call_entry PySem.F.slot_tuple_iterator_next hit.typeIs PySem.F.entry_tuple_iterator_next ?_ (PySem.F.args_tuple_iterator_next_1 _)))
 show wpAny _ _ (field (.ref it) 0 >>= _) _ _ _
 refine wpAny_bind (wpAny_field g d (x:=.ref t) rfl ?_)
 show wpAny _ _ (if (Value.ref t==Value.none)=true then _ else _) _ _ _
 rw[if_neg (show ¬((Value.ref t==Value.none)=true) by exact Bool.false_ne_true)]
 show wpAny _ _ (field (.ref it) 1 >>= _) _ _ _
 refine wpAny_bind (wpAny_field g d (x:=.int i 0) rfl ?_)
 show wpAny _ _ (seqItems? (.ref t) >>= _) _ _ _
 refine wpAny_bind (wpAny_seqItems gl dl ?_)
 simp only[Int.toNat_natCast,hx]
 refine wpAny_bind (wpAny_setField g d (by simp) (wpAny_pure ⟨x,rfl,wpAny_pure (q _ ?_ (Heap.SameBut.update ..))⟩))
 exact⟨_,Heap.get?_update_self _ g (Obj.isFreed_of_fields (Obj.data_mapFields d _)),(Obj.cls_mapFields ..).trans c,by rw[Obj.data_mapFields d];simp[rawInt]⟩
theorem zle {it t:Addr}{i:Nat}{items:Array Value}{Q:zE1}(hh:A.handled=none)(hit:s.heap.IsTupleIter it t i)(ht:s.heap.IsTuple t items)(hx:items[i]?=none)
  (q:∀h' e,Heap.ExtBut it s.heap h'->(∃o,h'.get? e=some o/\o.cls=.type "StopIteration")->E (.ref e) { s with heap:=h' }):wpAny (model prog w) A (Builtin.SmallTypes.nextOf (.ref it)) Q E s:=by
 obtain⟨o,g,c,d⟩:=id hit
 obtain⟨ol,gl,_,nl,dl⟩:=ht
 unfold Builtin.SmallTypes.nextOf
 refine wpAny_bind (wpAny_callSpecial?_slot (name:=Str.ofString "__next__") hit.typeIs PySem.F.slot_tuple_iterator_next (wpAny_call_entry PySem.F.slot_tuple_iterator_next hit.typeIs PySem.F.entry_tuple_iterator_next ?_ (PySem.F.args_tuple_iterator_next_1 _)))
 show wpAny _ _ (field (.ref it) 0 >>= _) _ _ _
 refine wpAny_bind (wpAny_field g d (x:=.ref t) rfl ?_)
 show wpAny _ _ (if (Value.ref t==Value.none)=true then _ else _) _ _ _
 rw[if_neg (show ¬((Value.ref t==Value.none)=true) by exact Bool.false_ne_true)]
 show wpAny _ _ (field (.ref it) 1 >>= _) _ _ _
 refine wpAny_bind (wpAny_field g d (x:=.int i 0) rfl ?_)
 show wpAny _ _ (seqItems? (.ref t) >>= _) _ _ _
 refine wpAny_bind (wpAny_seqItems gl dl ?_)
 simp only[Int.toNat_natCast,hx]
 refine wpAny_bind (wpAny_rule (wpAny_bind (wpAny_setField g d (by simp) ?_)))
 show wpAny _ _ (newExc (.type "StopIteration") [] >>= _) _ _ (_)
 refine wpAny_bind ?_
 simp only[newExc,newTuple]
 refine wpAny_bind (wpAny_newObj_type (by skip;refine wpAny_bind (m:=firstArgMember _ _) (wpAny_of_eq (a:=Value.none) (by first|rfl|(simp only[firstArgMember];rfl)) ?_);refine wpAny_newObj_type ?_ (by size_fits);simp only[raiseNew];refine wpAny_bind (wpAny_handled ?_);(first|rw[show A.in1.handled=none from hh]|rw[hh]);first|exact wpAny_throw (q _ _ (((Heap.SameBut.update ..).extBut.push _).push _) ⟨_,Heap.get?_push_size _ rfl,rfl⟩)|exact wpAny_bind (wpAny_pure (wpAny_throw (q _ _ (((Heap.SameBut.update ..).extBut.push _).push _) ⟨_,Heap.get?_push_size _ rfl,rfl⟩)))) (by size_fits))
end
theorem zEj {prog:Program}{w:World}(it l:Addr):Src prog w it l (fun k h=>h.IsTupleIter it l k) (fun xs h=>h.IsTuple l xs) where
 item:=fun A E s k xs x Q j c e q=>zTh j c e q
 stop:=fun A E s k xs Q hh j c e q=>zle hh j c e q
 keep:=fun k h h' ⟨o,g,r⟩ f=>⟨o,f o g,r⟩
 seq:=fun xs h h' ⟨o,g,r⟩ f=>⟨o,f o g,r⟩
 obj:=fun k h ⟨o,g,_,r⟩=>⟨o,_,g,r⟩
section
variable {prog:Program}{w:World}{A:Around}{E:zE1}{s:Shared}
variable {z TI TO i1 i2 l1 l2:Addr}{J1 J2:Nat->Heap->Prop}{C1 C2:Array Value->Heap->Prop}{k1 k2:Nat}{xs ys:Array Value}{x y a b:Value}
theorem zIg {Q:zE1}(D:ZipApart z TI TO i1 i2 l1 l2)(S1:Src prog w i1 l1 J1 C1)(S2:Src prog w i2 l2 J2 C2)(gz:IsZip s.heap z TI TO .none)(gI:IsPair s.heap TI (.ref i1) (.ref i2))(gO:IsPair s.heap TO a b)
  (j1:J1 k1 s.heap)(j2:J2 k2 s.heap)(c1:C1 xs s.heap)(c2:C2 ys s.heap)(hx:xs[k1]?=some x)(hy:ys[k2]?=some y)
  (q:∀h',IsZip h' z TI TO (rawInt s.heap.objs.size)->IsPair h' TO x y->J1 (k1+1) h'->J2 (k2+1) h'->IsPair h' s.heap.objs.size x y->h'.objs.size=s.heap.objs.size+1→
   (∀c o,c≠z->c≠TO->c≠i1->c≠i2->s.heap.get? c=some o->h'.get? c=some o)->Q (.ref s.heap.objs.size) { s with heap:=h' }):
  wpAny (model prog w) A (Builtin.«zip.__next__» ⟨[.ref z],[]⟩) (fun fin s'=>∃v,fin=.done (.ret v)/\Q v s') E s:=by
 show wpAny _ _ (field (.ref z) 2 >>= _) _ _ s
 refine wpAny_bind (wpAny_field gz rfl (x:=.bool false) rfl ?_)
 show wpAny _ _ (field (.ref z) 3 >>= _) _ _ s
 refine wpAny_bind (wpAny_field gz rfl (x:=.ref TI) rfl (wpAny_bind (wpAny_seqItems gI rfl ?_)))
 show wpAny _ _ (Builtin.SmallTypes.ownedTupleIsFree (.ref z) >>= _) _ _ s
 refine wpAny_bind ?_
 unfold Builtin.SmallTypes.ownedTupleIsFree
 refine wpAny_bind (wpAny_field gz rfl (x:=.none) rfl (wpAny_pure ?_))
 simp only[if_true]
 refine wpAny_bind (wpAny_rule (wpAny_bind (wpAny_field gz rfl (x:=.ref TO) rfl ?_)))
 refine wpAny_bind (wpAny_setField_rec gz (by simp) fun hA zA sA=>?_)
 replace zA:IsZip hA z TI TO .ellipsis:=zA
 refine wpAny_bind ?_
 simp only[List.zipIdx_cons,List.zipIdx_nil,List.forIn_cons,List.forIn_nil]
 refine wpAny_bind (wpAny_bind (wpAny_onRaise ?_))
 show wpAny _ _ (Builtin.SmallTypes.nextOf (.ref i1) >>= _) _ _ (_)
 refine wpAny_bind (S1.item A _ _ k1 xs x _ (S1.keep _ _ _ j1 fun o e=>sA.extBut _ _ D.i1z e) (S1.seq _ _ _ c1 fun o e=>sA.extBut _ _ D.l1z e) hx fun hB jB sB=>wpAny_pure ?_)
 have oB:IsPair hB TO a b:=sB.extBut _ _ D.TOi1 (sA.extBut _ _ D.TOz gO)
 refine wpAny_bind (wpAny_seqItems oB rfl (wpAny_bind (wpAny_updateSeq_pair oB fun hC oC sC=>?_)))
 replace oC:IsPair hC TO x b:=oC
 refine wpAny_bind (wpAny_letGo (wpAny_pure (wpAny_bind (wpAny_bind (wpAny_onRaise ?_)))))
 show wpAny _ _ (Builtin.SmallTypes.nextOf (.ref i2) >>= _) _ _ (_)
 have up2:∀c o,c≠z->c≠i1->c≠TO->s.heap.get? c=some o->hC.get? c=some o:=fun c o n1 n2 n3 e=>sC.extBut _ _ n3 (sB.extBut _ _ n2 (sA.extBut _ _ n1 e))
 refine wpAny_bind (S2.item A _ _ k2 ys y _ (S2.keep _ _ _ j2 fun o e=>up2 _ o D.i2z D.i12.symm D.TOi2.symm e) (S2.seq _ _ _ c2 fun o e=>up2 _ o D.l2z D.l2i1 D.l2TO e) hy fun hD jD sD=>wpAny_pure ?_)
 have oD:IsPair hD TO x b:=sD.extBut _ _ D.TOi2 oC
 refine wpAny_bind (wpAny_seqItems oD rfl (wpAny_bind (wpAny_updateSeq_pair oD fun hE oE sE=>?_)))
 replace oE:IsPair hE TO x y:=oE
 refine wpAny_bind (wpAny_letGo (wpAny_pure (wpAny_pure ?_)))
 refine wpAny_bind (wpAny_seqItems oE rfl (wpAny_bind (wpAny_newTuple ?_)))
 have ez:hE.objs.size=s.heap.objs.size:=by rw[sE.1,sD.1,sC.1,sB.1,sA.1]
 have zE:IsZip hE z TI TO .ellipsis:=sE.extBut _ _ D.TOz.symm (sD.extBut _ _ D.i2z.symm (sC.extBut _ _ D.TOz.symm (sB.extBut _ _ D.i1z.symm zA)))
 have kE:∀c o,c≠z->c≠TO->c≠i1->c≠i2->s.heap.get? c=some o->hE.get? c=some o:=fun c o n1 n2 n3 n4 e=>sE.extBut _ _ n2 (sD.extBut _ _ n4 (up2 c o n1 n3 n2 e))
 have j1E:J1 (k1+1) hE:=S1.keep _ _ _ jB fun o e=>sE.extBut _ _ D.TOi1.symm (sD.extBut _ _ D.i12 (sC.extBut _ _ D.TOi1.symm e))
 have j2E:J2 (k2+1) hE:=S2.keep _ _ _ jD fun o e=>sE.extBut _ _ D.TOi2.symm e
 have zlt:z<hE.objs.size:=Heap.lt_size zE
 show wpAny _ _ (Builtin.SmallTypes.ownedTupleHandOut (.ref z) (.ref hE.objs.size) >>= _) _ _ (_)
 refine wpAny_bind ?_
 unfold Builtin.SmallTypes.ownedTupleHandOut
 have zF:IsZip (hE.push { cls:=.type "tuple",data:=.seq #[x,y] }) z TI TO .ellipsis:=Heap.get?_push_of_some _ zE
 refine wpAny_bind (wpAny_setField_rec zF (by simp) fun hG zG sG=>?_)
 replace zG:IsZip hG z TI TO (rawInt hE.objs.size):=zG
 refine wpAny_setField_rec zG (by simp) fun hK zK sK=>?_
 replace zK:IsZip hK z TI TO (rawInt hE.objs.size):=zK
 have up:∀c o,c≠z->hE.get? c=some o->hK.get? c=some o:=fun c o n1 e=>sK.extBut _ _ n1 (sG.extBut _ _ n1 (Heap.get?_push_of_some _ e))
 have tK:IsPair hK hE.objs.size x y:=sK.extBut _ _ (Nat.ne_of_gt zlt) (sG.extBut _ _ (Nat.ne_of_gt zlt) (Heap.get?_push_size _ rfl))
 have eK:hK.objs.size=hE.objs.size+1:=by rw[sK.1,sG.1,Heap.size_push]
 rw[ez] at zK tK eK
 refine wpAny_pure ⟨_,rfl,?_⟩
 show Q (.ref hE.objs.size) _
 rw[ez]
 exact q hK zK (up _ _ D.TOz oE) (S1.keep _ _ _ j1E fun o e=>up _ o D.i1z e) (S2.keep _ _ _ j2E fun o e=>up _ o D.i2z e) tK eK fun c o n1 n2 n3 n4 e=>up c o n1 (kE c o n1 n2 n3 n4 e)
theorem zJg {Q:Fin->Shared->Prop}(hh:A.handled=none)(D:ZipApart z TI TO i1 i2 l1 l2)(S1:Src prog w i1 l1 J1 C1)(gz:IsZip s.heap z TI TO .none)(gI:IsPair s.heap TI (.ref i1) (.ref i2))
  (j1:J1 k1 s.heap)(c1:C1 xs s.heap)(hx:xs[k1]?=none)
  (q:∀h' e,(∀c o,c≠z->c≠i1->s.heap.get? c=some o->h'.get? c=some o)->(∃o,h'.get? e=some o/\o.cls=.type "StopIteration")->E (.ref e) { s with heap:=h' }):
  wpAny (model prog w) A (Builtin.«zip.__next__» ⟨[.ref z],[]⟩) Q E s:=by
 show wpAny _ _ (field (.ref z) 2 >>= _) _ _ s
 refine wpAny_bind (wpAny_field gz rfl (x:=.bool false) rfl ?_)
 show wpAny _ _ (field (.ref z) 3 >>= _) _ _ s
 refine wpAny_bind (wpAny_field gz rfl (x:=.ref TI) rfl (wpAny_bind (wpAny_seqItems gI rfl ?_)))
 show wpAny _ _ (Builtin.SmallTypes.ownedTupleIsFree (.ref z) >>= _) _ _ s
 refine wpAny_bind ?_
 unfold Builtin.SmallTypes.ownedTupleIsFree
 refine wpAny_bind (wpAny_field gz rfl (x:=.none) rfl (wpAny_pure ?_))
 simp only[if_true]
 refine wpAny_bind (wpAny_rule (wpAny_bind (wpAny_field gz rfl (x:=.ref TO) rfl ?_)))
 refine wpAny_bind (wpAny_setField_rec gz (by simp) fun hA zA sA=>?_)
 replace zA:IsZip hA z TI TO .ellipsis:=zA
 refine wpAny_bind ?_
 simp only[List.zipIdx_cons,List.zipIdx_nil,List.forIn_cons,List.forIn_nil]
 refine wpAny_bind (wpAny_bind (wpAny_onRaise ?_))
 show wpAny _ _ (Builtin.SmallTypes.nextOf (.ref i1) >>= _) _ _ (_)
 refine wpAny_bind (S1.stop A _ _ k1 xs _ hh (S1.keep _ _ _ j1 fun o e=>sA.extBut _ _ D.i1z e) (S1.seq _ _ _ c1 fun o e=>sA.extBut _ _ D.l1z e) hx fun hB e sB he=>?_)
 obtain⟨oe,ge,ce⟩:=he
 have zB:IsZip hB z TI TO .ellipsis:=sB _ _ D.i1z.symm zA
 have ne:e≠z:=fun u=>by subst u;rw[zB] at ge;cases ge;simp at ce
 exact wpAny_setField_rec zB (by simp) fun hC _ sC=>q hC e (fun c o n1 n3 u=>sC.extBut _ _ n1 (sB _ _ n3 (sA.extBut _ _ n1 u))) ⟨oe,sC.extBut _ _ ne ge,ce⟩
theorem zKg {Q:Option Value->Shared->Prop}(D:ZipApart z TI TO i1 i2 l1 l2)(S1:Src prog w i1 l1 J1 C1)(S2:Src prog w i2 l2 J2 C2)(gz:IsZip s.heap z TI TO .none)(gI:IsPair s.heap TI (.ref i1) (.ref i2))(gO:IsPair s.heap TO a b)
  (j1:J1 k1 s.heap)(j2:J2 k2 s.heap)(c1:C1 xs s.heap)(c2:C2 ys s.heap)(hx:xs[k1]?=some x)(hy:ys[k2]?=some y)
  (q:∀h',IsZip h' z TI TO (rawInt s.heap.objs.size)->IsPair h' TO x y->J1 (k1+1) h'->J2 (k2+1) h'->IsPair h' s.heap.objs.size x y->h'.objs.size=s.heap.objs.size+1→
   (∀c o,c≠z->c≠TO->c≠i1->c≠i2->s.heap.get? c=some o->h'.get? c=some o)->Q (some (.ref s.heap.objs.size)) { s with heap:=h' }):wpAny (model prog w) A (pyNext (.ref z)) Q E s:=by
 have tZ:s.TypeIs (.ref z) "zip":=⟨_,gz,rfl⟩
 unfold pyNext
 exact wpAny_bind (wpAny_attempt (wpAny_callSpecial?_slot (name:=Str.ofString "__next__") tZ PySem.F.slot_zip_next (wpAny_call_entry PySem.F.slot_zip_next tZ PySem.F.entry_zip_next
   (zIg D S1 S2 gz gI gO j1 j2 c1 c2 hx hy fun h' a1 a2 a3 a4 a5 a6 a7=>wpAny_pure (q h' a1 a2 a3 a4 a5 a6 a7)) (PySem.F.args_zip_next_1 _))))
theorem zUh {Q:Option Value->Shared->Prop}(hh:A.handled=none)(D:ZipApart z TI TO i1 i2 l1 l2)(S1:Src prog w i1 l1 J1 C1)(gz:IsZip s.heap z TI TO .none)(gI:IsPair s.heap TI (.ref i1) (.ref i2))(j1:J1 k1 s.heap)(c1:C1 xs s.heap)(hx:xs[k1]?=none)
  (q:∀h',(∀c o,c≠z->c≠i1->s.heap.get? c=some o->h'.get? c=some o)->Q none { s with heap:=h' }):wpAny (model prog w) A (pyNext (.ref z)) Q E s:=by
 have tZ:s.TypeIs (.ref z) "zip":=⟨_,gz,rfl⟩
 unfold pyNext
 refine wpAny_bind (wpAny_attempt (wpAny_callSpecial?_slot (name:=Str.ofString "__next__") tZ PySem.F.slot_zip_next (wpAny_call_entry PySem.F.slot_zip_next tZ PySem.F.entry_zip_next (zJg (A:=A.in1) hh D S1 gz gI j1 c1 hx fun h' e hk he=>?_) (PySem.F.args_zip_next_1 _))))
 obtain⟨o,ho,hc⟩:=he
 exact wpAny_bind (wpAny_isInstance (T:="StopIteration") (b:=true) ⟨o,ho,hc⟩ isSubtype_stop (wpAny_pure (q _ hk)))
end
abbrev zgA (h:Heap)(t1:String)(l1:Addr):Heap:=h.push { cls:=.type t1,data:=.fields #[.ref l1,.int 0 0] }
abbrev zgB (h:Heap)(t1 t2:String)(l1 l2:Addr):Heap:=(zgA h t1 l1).push { cls:=.type t2,data:=.fields #[.ref l2,.int 0 0] }
abbrev zgC (h:Heap)(t1 t2:String)(l1 l2:Addr):Heap:=(zgB h t1 t2 l1 l2).push { cls:=.type "tuple",data:=.seq #[.ref h.objs.size,.ref (zgA h t1 l1).objs.size] }
abbrev zgD (h:Heap)(t1 t2:String)(l1 l2:Addr):Heap:=(zgC h t1 t2 l1 l2).push { cls:=.type "tuple",data:=.seq #[.none,.none] }
abbrev zgE (h:Heap)(t1 t2:String)(l1 l2:Addr):Heap:=(zgD h t1 t2 l1 l2).push { cls:=.type "zip",data:=.fields #[.none,.bool false,.bool false,.ref (zgB h t1 t2 l1 l2).objs.size,.ref (zgC h t1 t2 l1 l2).objs.size] }
def zJc (t:String)(l:Addr)(h:Heap):Prop:=∀(prog:Program)(w:World)(A:Around)(E:zE1)(s:Shared)(Q:zE1),s.heap=h->Q (.ref s.heap.objs.size) { s with heap:=s.heap.push { cls:=.type t,data:=.fields #[.ref l,.int 0 0] } }->wpAny (model prog w) A (pyIter (.ref l)) Q E s
theorem zIf (t1 t2:String)(l1 l2:Addr):
  Meets (Builtin.«zip.__new__» ⟨[.type "zip",.ref l1,.ref l2],[]⟩) (fun _ R s=>zJc t1 l1 s.heap/\zJc t2 l2 (zgA s.heap t1 l1)/\R (.ok (.ret (.ref (zgD s.heap t1 t2 l1 l2).objs.size))) { s with heap:=zgE s.heap t1 t2 l1 l2 }):=
 .of_wp fun prog w A R s h=>by
  obtain⟨hp,g,d,tk,os⟩:=s;obtain⟨hl1,hl2,h⟩:=h
  have hsub:=sub_zip
  have G1:∀{A:Around}{E:zE1}{Q:zE1},Q (.ref hp.objs.size) ⟨hp.push { cls:=.type t1,data:=.fields #[.ref l1,.int 0 0] },g,d,tk,os⟩->wpAny (model prog w) A (pyIter (.ref l1)) Q E ⟨hp,g,d,tk,os⟩:=fun {A E Q} q=>hl1 prog w A E ⟨hp,g,d,tk,os⟩ Q rfl q
  have G2:∀{A:Around}{E:zE1}{Q:zE1},Q (.ref (zgA hp t1 l1).objs.size) ⟨(zgA hp t1 l1).push { cls:=.type t2,data:=.fields #[.ref l2,.int 0 0] },g,d,tk,os⟩->wpAny (model prog w) A (pyIter (.ref l2)) Q E ⟨zgA hp t1 l1,g,d,tk,os⟩:=fun {A E Q} q=>hl2 prog w A E ⟨zgA hp t1 l1,g,d,tk,os⟩ Q rfl q
  wp_walk using G1,G2
  exact⟨_,rfl,h⟩
section
variable {prog:Program}{w:World}{A:Around}{E:zE1}{s:Shared}
theorem zme (t1 t2:String){l1 l2:Addr}{Q:zE1}(hl1:zJc t1 l1 s.heap)(hl2:zJc t2 l2 (zgA s.heap t1 l1))
  (h:∀h',IsZip h' (s.heap.objs.size+4) (s.heap.objs.size+2) (s.heap.objs.size+3) .none->IsPair h' (s.heap.objs.size+2) (.ref s.heap.objs.size) (.ref (s.heap.objs.size+1))->IsPair h' (s.heap.objs.size+3) .none .none→
   h'.get? s.heap.objs.size=some { cls:=.type t1,data:=.fields #[.ref l1,.int 0 0] }->h'.get? (s.heap.objs.size+1)=some { cls:=.type t2,data:=.fields #[.ref l2,.int 0 0] }→
   (∀c o,s.heap.get? c=some o->h'.get? c=some o)->Q (.ref (s.heap.objs.size+4)) { s with heap:=h' }):
  wpAny (model prog w) A (call (.type "zip") [.ref l1,.ref l2]) Q E s:=by
 refine callType_new PySem.F.called_zip (by decide) (PySem.F.typeCall_zip_2 _ _) (PySem.F.newCall_zip_2 _ _) (fun obj=>PySem.F.args_object_init_3 obj _ _) PySem.F.entry_zip_new (zIf t1 t2 l1 l2) ⟨hl1,hl2,?_⟩
 have z1:(zgA s.heap t1 l1).objs.size=s.heap.objs.size+1:=Heap.size_push ..
 have z2:(zgB s.heap t1 t2 l1 l2).objs.size=s.heap.objs.size+2:=by rw[Heap.size_push,z1]
 have z3:(zgC s.heap t1 t2 l1 l2).objs.size=s.heap.objs.size+3:=by rw[Heap.size_push,z2]
 have z4:(zgD s.heap t1 t2 l1 l2).objs.size=s.heap.objs.size+4:=by rw[Heap.size_push,z3]
 have g5:(zgE s.heap t1 t2 l1 l2).get? (zgD s.heap t1 t2 l1 l2).objs.size=some _:=Heap.get?_push_size _ rfl
 have g4:(zgE s.heap t1 t2 l1 l2).get? (zgC s.heap t1 t2 l1 l2).objs.size=some _:=Heap.get?_push_of_some _ (Heap.get?_push_size _ rfl)
 have g3:(zgE s.heap t1 t2 l1 l2).get? (zgB s.heap t1 t2 l1 l2).objs.size=some _:=Heap.get?_push_of_some _ (Heap.get?_push_of_some _ (Heap.get?_push_size _ rfl))
 have g2:(zgE s.heap t1 t2 l1 l2).get? (zgA s.heap t1 l1).objs.size=some _:=Heap.get?_push_of_some _ (Heap.get?_push_of_some _ (Heap.get?_push_of_some _ (Heap.get?_push_size _ rfl)))
 have g1:(zgE s.heap t1 t2 l1 l2).get? s.heap.objs.size=some _:=Heap.get?_push_of_some _ (Heap.get?_push_of_some _ (Heap.get?_push_of_some _ (Heap.get?_push_of_some _ (Heap.get?_push_size _ rfl))))
 show _/\_
 rw[z2,z3,z4] at g5
 rw[z1,z2] at g3
 rw[z3] at g4
 rw[z1] at g2
 rw[z4]
 exact⟨⟨_,g5,rfl⟩,h _ g5 g3 g4 g1 g2 fun c o x=>Heap.get?_push_of_some _ (Heap.get?_push_of_some _ (Heap.get?_push_of_some _ (Heap.get?_push_of_some _ (Heap.get?_push_of_some _ x))))⟩
end
theorem zJf {l:Addr}{h:Heap}{xs:Array Value}(g:h.IsList l xs):zJc "list_iterator" l h:=fun prog w A E s Q e q=>by subst e;exact wpAny_pyIter_list g q
theorem zLg {l:Addr}{h:Heap}{xs:Array Value}(g:h.IsTuple l xs):zJc "tuple_iterator" l h:=fun prog w A E s Q e q=>by subst e;exact wpAny_pyIter_tuple g q
def SqX (K:W.Frag)(t:Bool)(H:Hp)(a:Addr)(xs:List V):Prop:=if t=true then SqT K H a xs else SqL K H a xs
def cX (t:Bool)(l:Addr)(xs:Array Value)(h:Heap):Prop:=if t=true then h.IsTuple l xs else h.IsList l xs
def jX (t:Bool)(it l:Addr)(k:Nat)(h:Heap):Prop:=if t=true then h.IsTupleIter it l k else h.IsListIter it l k
def tX (t:Bool):String:=if t=true then "tuple_iterator" else "list_iterator"
theorem zfc {prog:Program}{w:World}(t:Bool)(it l:Addr):Src prog w it l (jX t it l) (cX t l):=by
 cases t
 ·exact src_list it l
 ·exact zEj it l
theorem zvd {t:Bool}{l:Addr}{h:Heap}{xs:Array Value}(g:cX t l xs h):zJc (tX t) l h:=by
 cases t
 ·exact zJf (show h.IsList l xs from g)
 ·exact zLg (show h.IsTuple l xs from g)
theorem zef {t:Bool}{it l:Addr}{h:Heap}(g:h.get? it=some { cls:=.type (tX t),data:=.fields #[.ref l,.int 0 0] }):jX t it l 0 h:=by
 cases t
 ·exact⟨_,g,rfl,rfl⟩
 ·exact⟨_,g,rfl,rfl⟩
theorem zVh {t:Bool}{l:Addr}{h:Heap}{xs:Array Value}(g:cX t l xs h):l<h.objs.size:=by
 cases t
 ·obtain⟨o,g,_⟩:=(show h.IsList l xs from g);exact Heap.lt_size g
 ·obtain⟨o,g,_⟩:=(show h.IsTuple l xs from g);exact Heap.lt_size g
theorem zMg {t:Bool}{l:Addr}{h:Heap}{xs:Array Value}(g:cX t l xs h)(o:Obj):cX t l xs (h.push o):=by
 cases t
 ·exact Heap.IsList.push (show h.IsList l xs from g) o
 ·exact Heap.IsTuple.push (show h.IsTuple l xs from g) o
section
variable {X:Cx}{pins:zT2}{σ:St}{H:Hp}{s:Shared}{a:Addr}{xs ys:List V}{t:Bool}
theorem Inv.zCo (I:Inv X pins σ H s)(h:SqX X.K t H a xs):∃its:List Value,Vals xs its/\cX t a its.toArray s.heap/\xs.length<=sizeLine:=by
 cases t
 ·obtain⟨its,r,p,z⟩:=I.list (show SqL X.K H a xs from h)
  exact⟨its,r,p.isList,z⟩
 ·obtain⟨its,r,p,z⟩:=I.tuple (show SqT X.K H a xs from h)
  exact⟨its,r,p,z⟩
theorem Inv.zbo (I:Inv X pins σ H s)(h:SqX X.K t H a xs)(h':SqX X.K t H a ys):xs=ys:=by
 cases t
 ·exact I.zYn (show SqL X.K H a xs from h) h'
 ·exact I.zWn (show SqT X.K H a xs from h) h'
end
def Itg (K:W.Frag)(t u:Bool)(a b:Addr):It:=
 ⟨fun i H=>∃xs ys x y,SqX K t H a xs/\SqX K u H b ys/\xs[i]?=some x/\ys[i]?=some y,fun i H v H'=>∃p x y,v=.ref p/\H p=none/\H'=upd H p (.tup [x,y])/\(∀xs,SqX K t H a xs->xs[i]?=some x)/\∀ys,SqX K u H b ys->ys[i]?=some y,
  fun i H=>∃xs,SqX K t H a xs/\xs.length<=i⟩
theorem zXa {P:Program}{w:World}{K:W.Frag}{elts:List Expr}{k:Nat}{pos:Pos}(t u:Bool)(a b z TI TO i1 i2:Addr)(N:ZipApart z TI TO i1 i2 a b):
  Turn P w K (.Tuple elts k pos) (Itg K t u a b) [z,TI,TO,i1,i2] z (fun i h=>IsZip h z TI TO .none/\IsPair h TI (.ref i1) (.ref i2)/\(∃c d,IsPair h TO c d)/\jX t i1 a i h/\jX u i2 b i h) where
 mem:=by simp
 obj:=fun i h st c hc=>by
  obtain⟨g1,g2,⟨e,v,g3⟩,g4,g5⟩:=st
  obtain⟨o4,v4,g4,d4⟩:=(zfc (prog:=P) (w:=w) t i1 a).obj _ _ g4
  obtain⟨o5,v5,g5,d5⟩:=(zfc (prog:=P) (w:=w) u i2 b).obj _ _ g5
  simp only[List.mem_cons,List.not_mem_nil,or_false] at hc
  rcases hc with rfl|rfl|rfl|rfl|rfl
  ·exact⟨_,g1,fun v q=>by cases q⟩
  ·exact⟨_,g2,fun v q=>by cases q⟩
  ·exact⟨_,g3,fun v q=>by cases q⟩
  ·exact⟨_,g4,fun v q=>by rw[d4] at q;cases q⟩
  ·exact⟨_,g5,fun v q=>by rw[d5] at q;cases q⟩
 keep:=fun i h h' st kk=>by
  obtain⟨g1,g2,⟨e,v,g3⟩,g4,g5⟩:=st
  exact⟨kk z (by simp) _ g1,kk TI (by simp) _ g2,⟨e,v,kk TO (by simp) _ g3⟩,(zfc (prog:=P) (w:=w) t i1 a).keep _ _ _ g4 fun o q=>kk i1 (by simp) o q,(zfc (prog:=P) (w:=w) u i2 b).keep _ _ _ g5 fun o q=>kk i2 (by simp) o q⟩
 item:=by
  intro X hP hw hK hc i pins s σ H E I hf st hg
  subst hP hw hK
  obtain⟨xs,ys,x,y,hq,hq',hx,hy⟩:=hg
  obtain⟨its,rv,p,_⟩:=I.zCo hq
  obtain⟨jts,rv',p',_⟩:=I.zCo hq'
  obtain⟨v,hu,ru⟩:=rv.get hx
  obtain⟨v',hu',ru'⟩:=rv'.get hy
  obtain⟨g1,g2,⟨c,d,g3⟩,g4,g5⟩:=st
  obtain⟨o4,v4,k4,d4⟩:=(zfc (prog:=X.prog) (w:=X.w) t i1 a).obj _ _ g4
  obtain⟨o5,v5,k5,d5⟩:=(zfc (prog:=X.prog) (w:=X.w) u i2 b).obj _ _ g5
  refine zKg (xs:=its.toArray) (ys:=jts.toArray) N (zfc t i1 a) (zfc u i2 b) g1 g2 g3 g4 g5 p p' (by simpa using hu) (by simpa using hu') fun h' b1 b2 b3 b4 b5 b6 b7=>?_
  refine⟨_,rfl,wpAny_letOwnedTupleGo_zip b1 fun h'' e1 e2=>?_⟩
  have zlt:z<s.heap.objs.size:=Heap.lt_size g1
  have kk:∀e o,e∉[z,TI,TO,i1,i2]->s.heap.get? e=some o->h''.get? e=some o:=fun e o he q=>by
   simp only[List.mem_cons,List.not_mem_nil,or_false,not_or] at he
   exact(e2.2 e he.1).trans (b7 e o he.1 he.2.2.1 he.2.2.2.1 he.2.2.2.2 q)
  have up:∀e o,e≠z->h'.get? e=some o->h''.get? e=some o:=fun e o he q=>(e2.2 e he).trans q
  have hno:H s.heap.objs.size=none:=I.hok.fresh (Nat.le_refl _)
  have hT:h''.get? s.heap.objs.size=some { cls:=.type "tuple",data:=.seq #[v,v'] }:=up _ _ (Nat.ne_of_gt zlt) b5
  have I1:Inv X pins σ (upd H s.heap.objs.size (.tup [x,y])) { s with heap:=h'',toks:=s.toks }:=by
   refine I.zfo (ch:=[z,TI,TO,i1,i2]) hf kk (Nat.le_refl _) ⟨(by show 2<=sizeLine;decide),[v,v'],?_,⟨_,hT,rfl,_,rfl⟩⟩
   exact .cons ru (.cons ru' .nil)
  refine⟨.ref s.heap.objs.size,_,I1,rfl,⟨_,x,y,rfl,hno,rfl,fun zs hz=>by rw[I.zbo hz hq];exact hx,fun zs hz=>by rw[I.zbo hz hq'];exact hy⟩,⟨e1,?_,⟨v,v',up _ _ N.TOz b2⟩,?_,?_⟩,fun e he=>?_⟩
  ·exact up _ _ N.TIz (b7 _ _ N.TIz N.TITO N.TIi1 N.TIi2 g2)
  ·exact(zfc (prog:=X.prog) (w:=X.w) t i1 a).keep _ _ _ b3 fun o q=>up _ o N.i1z q
  ·exact(zfc (prog:=X.prog) (w:=X.w) u i2 b).keep _ _ _ b4 fun o q=>up _ o N.i2z q
  ·have hb':=(hf e he).1
   rw[zy]
   ·exact hb'
   ·intro q
    subst q
    have lt:∀{c:Addr}{o:Obj},s.heap.get? c=some o->s.heap.objs.size≠c:=fun q=>Nat.ne_of_gt (Heap.lt_size q)
    simp only[List.mem_cons,List.not_mem_nil,or_false] at he
    rcases he with q|q|q|q|q
    ·exact lt g1 q
    ·exact lt g2 q
    ·exact lt g3 q
    ·exact lt k4 q
    ·exact lt k5 q
 done:=by
  intro X hP hw hK hc i pins s σ H E I hf st hg
  subst hP hw hK
  obtain⟨xs,hq,hx⟩:=hg
  obtain⟨its,rv,p,_⟩:=I.zCo hq
  have hl:=rv.length
  obtain⟨g1,g2,⟨c,d,g3⟩,g4,g5⟩:=st
  refine zUh (xs:=its.toArray) (I.ok.hd hc) N (zfc t i1 a) g1 g2 g4 p (by simp;omega) fun h' hk=>?_
  exact⟨rfl,I.zgo (t':=s.toks) (ch:=[z,TI,TO,i1,i2]) hf fun e o he q=>by
   simp only[List.mem_cons,List.not_mem_nil,or_false,not_or] at he
   exact hk e o he.1 he.2.2.2.1 q⟩
 self:=fun A i s Q E st h=>wpAny_pyIter_zip st.1 h
def zRm (K:W.Frag)(t u:Bool)(ta:TA):TI:=fun σ H R=>ta σ H fun vs H1=>∃a b,vs=[.ref a,.ref b]/\(∃xs,SqX K t H1 a xs)/\(∃ys,SqX K u H1 b ys)/\R (Itg K t u a b) H1
theorem zFj (t u:Bool){X:Cx}{elts:List Expr}{k:Nat}{tpos:Pos}{a b:Expr}{ta:TA}{p pos:Pos}(hg:Gl X "zip")(hm:X.mg "zip"=none)(ha:PA X [a,b] ta)(hs:starEach [a,b] X.env=(false,eval a X.env)::starEach [b] X.env:=by rfl)(hpl:(backTo pos (starEach [b] X.env)).any (·.1)=false:=by rfl):
  PI X (.Tuple elts k tpos) (.Call (.Name "zip" p) [a,b] [] pos) (zRm X.K t u ta):=by
 intro pins s σ H R I h
 refine Call_ (zCb I hg hm boot_zip (PyProof.Rows.callWith_type1 (thn (ha pos pins s σ H _ I h) fun us s1 ⟨vs,H1,I1,r1,q1⟩=>?_) hs hpl))
 obtain⟨l,m,e,⟨xs,hq⟩,⟨ys,hq'⟩,q⟩:=q1
 subst e
 obtain⟨v,v',rfl,ru,ru'⟩:=vals2 r1
 cases ru
 cases ru'
 obtain⟨its,rv,pt,hz⟩:=I1.zCo hq
 obtain⟨jts,rv',pt',hz'⟩:=I1.zCo hq'
 refine zme (tX t) (tX u) (zvd pt) (zvd (zMg pt' _)) fun h' c1 c2 c3 c4 c5 c7=>?_
 refine wpAny_pyIter_zip c1 ?_
 have I2:=I1.kept (h':=h') (t':=s1.toks) c7
 refine⟨s1.heap.objs.size+4,[s1.heap.objs.size+4,s1.heap.objs.size+2,s1.heap.objs.size+3,s1.heap.objs.size,s1.heap.objs.size+1],_,Itg X.K t u l m,H1,rfl,I2,zXa t u l m _ _ _ _ _ ?_,⟨c1,c2,⟨_,_,c3⟩,zef c4,zef c5⟩,fun c hc'=>?_,q⟩
 ·exact zke _ _ _ (zVh pt) (zVh pt')
 ·have hle:s1.heap.objs.size<=c:=by
   simp only[List.mem_cons,List.not_mem_nil,or_false] at hc'
   rcases hc' with rfl|rfl|rfl|rfl|rfl<;>omega
  exact I1.zxo hle (I1.hok.fresh hle)
theorem zGj {K:W.Frag}{t u:Bool}{a b:Addr}{xs zs:List V}{caps:St}{tt:TT}{te:TE}{D:Addr}{Q:Hp->Prop}{H1:Hp}(hn:xs.length=zs.length)(Pv:Nat->List V->Hp->Prop)(hz:xs.length<=sizeLine)(h0:Pv 0 [] (upd H1 D (.lst [])))(hl:∀i ys H,Pv i ys H->ys.length<=i)(hq:∀i ys H,Pv i ys H->SqX K t H a xs/\SqX K u H b zs)
  (hs:∀i ys H (x z:V) (p:Addr) (N:VK) (M:Hp->Prop),xs[i]?=some x->zs[i]?=some z->Pv i ys H->H p=none->(∀y H4,H4 D=some (.lst ys)->Pv (i+1) (ys++[y]) (upd H4 D (.lst (ys++[y])))->N y H4)->(∀H3,Pv (i+1) ys H3->M H3)→
   tt (some x::some z::caps) (upd H p (.tup [x,z])) fun ok H3=>if ok=true then te (some x::some z::caps) H3 N else M H3)
  (hd:∀ys H,Pv xs.length ys H->Q H):∃W:Nat->Nat->St->Hp->Prop,(∃m,W 0 m (none::none::caps) (upd H1 D (.lst [])))/\LcW (Itg K t u a b) (gTup K 2 (zkd (zRb 0) (zkd (zRb 1) gNil))) tt te D Q W:=by
 refine⟨fun i m σ H=>m=xs.length-i/\i<=xs.length/\(∃v w,σ=v::w::caps)/\∃ys,Pv i ys H,⟨xs.length,by simp,Nat.zero_le _,⟨none,none,rfl⟩,[],h0⟩,?_⟩
 rintro i m σ H ⟨rfl,hi,⟨v,w,rfl⟩,ys,p⟩
 have hy:=hl i ys H p
 obtain⟨q1,q2⟩:=hq i ys H p
 by_cases hlt:i<xs.length
 ·have hlt':i<zs.length:=by omega
  refine .inr ⟨⟨xs,zs,xs[i],zs[i],q1,q2,by simp[hlt],by simp[hlt']⟩,fun x H1 y=>?_⟩
  obtain⟨c,x1,y1,e1,e2,e3,e4,e5⟩:=y
  subst e1 e3
  exact⟨c,[x1,y1],rfl,SqT.of zc,rfl,_,_,rfl,_,_,rfl,rfl,hs i ys H x1 y1 c _ _ (e4 xs q1) (e5 zs q2) p e2 (fun y H4 a c=>⟨ys,a,by omega,xs.length-(i+1),by omega,rfl,hlt,⟨_,_,rfl⟩,_,c⟩) (fun H3 c=>⟨xs.length-(i+1),by omega,rfl,hlt,⟨_,_,rfl⟩,ys,c⟩)⟩
 ·have e:i=xs.length:=by omega
  subst e
  exact .inl ⟨⟨xs,q1,Nat.le_refl _⟩,hd ys H p⟩
def Itel (K:W.Frag)(a:Addr):It:=
 ⟨fun i H=>∃xs x,SqL K H a xs/\xs[i]?=some x,fun i H v H'=>∃p x,v=.ref p/\H p=none/\H'=upd H p (.tup [.int i,x])/\∀xs,SqL K H a xs->xs[i]?=some x,fun i H=>∃xs,SqL K H a xs/\xs.length<=i⟩
theorem zKf {P:Program}{w:World}{K:W.Frag}{elts:List Expr}{k:Nat}{pos:Pos}(a e it:Addr)(hei:e≠it)(hae:a≠e)(hai:a≠it):
  Turn P w K (.Tuple elts k pos) (Itel K a) [e,it] e (fun i h=>(∃old,IsEnum h e it i old)/\h.IsListIter it a i) where
 mem:=by simp
 obj:=fun i h st b hb=>by
  obtain⟨⟨old,h1⟩,o,h2,h3,h4⟩:=st
  rcases List.mem_cons.mp hb with z|z
  ·subst z
   exact⟨_,h1,fun v z=>by cases z⟩
  ·have z':b=it:=by simpa using z
   subst z'
   exact⟨o,h2,fun v z=>by rw[h4] at z;cases z⟩
 keep:=fun i h h' st kk=>by
  obtain⟨⟨old,h1⟩,h2⟩:=st
  exact⟨⟨old,kk e (by simp) _ h1⟩,h2.at fun o ho=>kk it (by simp) o ho⟩
 item:=by
  intro X hP hw hK hc i pins s σ H E I hf st hg
  subst hP hw hK
  obtain⟨xs,x,hq,hx⟩:=hg
  obtain⟨its,rv,p,hz⟩:=I.list hq
  obtain⟨u,hu,ru⟩:=rv.get hx
  obtain⟨⟨old,h1⟩,h2⟩:=st
  have D:=Draws.list (prog:=X.prog) (w:=X.w) (A:=X.A.in1) (I.ok.hd hc) it a hai its.toArray
  have hlt:i<its.toArray.size:=by
   have:=(List.getElem?_eq_some_iff.mp hu).1
   simpa using this
  refine wpAny_pyNext_enum_itemD D h1 ⟨h2,p.isList⟩ hlt hei (by simp[Ne.symm hae,hei]) fun y h' tk hy ho hs' hT hsz hk=>?_
  have hyu:y=u:=by
   have e1:its.toArray[i]?=some u:=by simpa using hu
   exact Option.some.inj (hy.symm.trans e1)
  subst hyu
  refine⟨_,rfl,wpAny_letOwnedTupleGo_enum ho fun h'' he'' hsb=>?_⟩
  have helt:e<s.heap.objs.size:=Heap.lt_size h1
  have kk:∀b o,b∉[e,it]->s.heap.get? b=some o->h''.get? b=some o:=fun b o hb q=>by
   have b1:b≠e:=fun z=>hb (by simp[z])
   have b2:b≠it:=fun z=>hb (by simp[z])
   exact(hsb.2 b b1).trans (hk b o b1 b2 q)
  have hT'':h''.get? s.heap.objs.size=some { cls:=.type "tuple",data:=.seq #[.int i tk,y] }:=(hsb.2 _ (Nat.ne_of_gt helt)).trans hT
  have hno:H s.heap.objs.size=none:=I.hok.fresh (Nat.le_refl _)
  have I1:Inv X pins σ (upd H s.heap.objs.size (.tup [.int i,x])) { s with heap:=h'',toks:=tk+1 }:=by
   refine I.zfo (ch:=[e,it]) hf kk (Nat.le_refl _) ⟨(by show 2<=sizeLine;decide),[.int i tk,y],?_,⟨_,hT'',rfl,_,rfl⟩⟩
   exact .cons ⟨tk,rfl⟩ (.cons ru .nil)
  refine⟨.ref s.heap.objs.size,_,I1,rfl,⟨_,x,rfl,hno,rfl,fun ys hy'=>by rw[I.zYn hy' hq];exact hx⟩,⟨⟨y,?_⟩,?_⟩,fun b hb=>?_⟩
  ·simpa using he''
  ·exact hs'.1.at fun o z=>(hsb.2 it (Ne.symm hei)).trans z
  ·have hb':=(hf b hb).1
   rw[zy]
   ·exact hb'
   ·intro z
    subst z
    obtain⟨ob,eb,_⟩:∃o,s.heap.get? s.heap.objs.size=some o/\True:=by
     rcases List.mem_cons.mp hb with q|q
     ·rw[q];exact⟨_,h1,trivial⟩
     ·have q':s.heap.objs.size=it:=by simpa using q
      obtain⟨o,ho',_⟩:=h2
      rw[q'];exact⟨o,ho',trivial⟩
    exact absurd (Heap.lt_size eb) (Nat.lt_irrefl _)
 done:=by
  intro X hP hw hK hc i pins s σ H E I hf st hg
  subst hP hw hK
  obtain⟨xs,hq,hx⟩:=hg
  obtain⟨its,rv,p,hz⟩:=I.list hq
  obtain⟨⟨old,h1⟩,h2⟩:=st
  have hl:=rv.length
  have hT:s.TypeIs (.ref e) "enumerate":=⟨_,h1,rfl⟩
  unfold pyNext
  refine wpAny_bind (wpAny_attempt (wpAny_callSpecial?_slot (name:=Str.ofString "__next__") hT F.slot_enumerate_next (wpAny_call_entry F.slot_enumerate_next hT F.entry_enumerate_next ?_ (F.args_enumerate_next_1 _))))
  show wpAny _ _ (field (.ref e) 2 >>= _) _ _ _
  refine wpAny_bind (wpAny_field h1 rfl (x:=.ref it) rfl ?_)
  refine wpAny_bind (wpAny_nextOf_list_end (items:=its.toArray) (by exact I.ok.hd hc) h2 p.isList (by simp;omega) fun h' x he' hx'=>?_)
  obtain⟨o,ho,hc'⟩:=hx'
  refine wpAny_bind (wpAny_isInstance (T:="StopIteration") (b:=true) ⟨o,ho,hc'⟩ isSubtype_stop ?_)
  obtain⟨f0,f1,f2,f3,f4,f5⟩:=hf it (by simp)
  exact wpAny_pure ⟨rfl,I.turned (t':=s.toks) (fun b o hb q=>he' b o hb q) f0 f1 f3 f4 f5⟩
 self:=fun A i s Q E st h=>by
  obtain⟨⟨old,h1⟩,_⟩:=st
  exact wpAny_pyIter_enum h1 h
def zhl (K:W.Frag)(ta:TA):TI:=fun σ H R=>ta σ H fun vs H1=>∃a,vs=[.ref a]/\(∃xs,SqL K H1 a xs)/\R (Itel K a) H1
theorem zWh {X:Cx}{elts:List Expr}{k:Nat}{tpos:Pos}{a:Expr}{ta:TA}{p pos:Pos}(hg:Gl X "enumerate")(hm:X.mg "enumerate"=none)(ha:PA X [a] ta)(hs:starEach [a] X.env=[(false,eval a X.env)]:=by rfl):
  PI X (.Tuple elts k tpos) (.Call (.Name "enumerate" p) [a] [] pos) (zhl X.K ta):=by
 intro pins s σ H R I h
 refine Call_ (zCb I hg hm zie (PyProof.Rows.callWith_type1 (thn (ha pos pins s σ H _ I h) fun us s1 ⟨vs,H1,I1,r1,q1⟩=>?_) hs rfl))
 obtain⟨b,e,⟨xs,hq⟩,q⟩:=q1
 subst e
 obtain⟨u,rfl,ru⟩:=r1.one
 cases ru
 obtain⟨its,rv,pl,hz⟩:=I1.list hq
 have hb:b<s1.heap.objs.size:=by
  obtain⟨o,ho,_⟩:=pl.isList
  exact Heap.lt_size ho
 refine call_enumerate_list pl.isList fun h' he hi hsz hk=>?_
 refine wpAny_pyIter_enum (s:={ s1 with heap:=h' }) he ?_
 have I2:=I1.kept (h':=h') (t':=s1.toks) hk
 refine⟨s1.heap.objs.size+1,[s1.heap.objs.size+1,s1.heap.objs.size],_,Itel X.K b,H1,rfl,I2,zKf b _ _ (Nat.succ_ne_self _) (Nat.ne_of_lt (Nat.lt_succ_of_lt hb)) (Nat.ne_of_lt hb),⟨⟨_,he⟩,hi⟩,fun c hc'=>?_,q⟩
 have hle:s1.heap.objs.size<=c:=by
  rcases List.mem_cons.mp hc' with z|z
  ·rw[z]
   exact Nat.le_succ _
  ·have z':c=s1.heap.objs.size:=by simpa using z
   exact Nat.le_of_eq z'.symm
 exact I1.zxo hle (I1.hok.fresh hle)
theorem zNg {K:W.Frag}{a:Addr}{xs:List V}{g:TG}{tb:TS}{D:Ends}{σ:St}{H:Hp}(Pv:Nat->St->Hp->Prop)(h0:Pv 0 σ H)(hl:∀i σ H,i<=xs.length->Pv i σ H->SqL K H a xs)
  (hs:∀i x σ H p,xs[i]?=some x->Pv i σ H->H p=none->g (.ref p) σ (upd H p (.tup [.int (i:Nat),x])) fun σ2 H2=>tb { D with nx:=Pv (i+1),ct:=Pv (i+1),bk:=D.nx } σ2 H2)(hd:∀σ H,Pv xs.length σ H->D.nx σ H):
  ∃W:Nat->Nat->St->Hp->Prop,(∃m,W 0 m σ H)/\∀i m σ H,W i m σ H→
   ((Itel K a).stop i H/\D.nx σ H)\/((Itel K a).go i H/\∃N:St->Hp->Prop,(∀σ' H',N σ' H'->∃m',m'<m/\W (i+1) m' σ' H')/\∀x H',(Itel K a).yld i H x H'->g x σ H' fun σ2 H2=>tb { D with nx:=N,ct:=N,bk:=D.nx } σ2 H2):=by
 refine⟨fun i m σ H=>m=xs.length-i/\i<=xs.length/\Pv i σ H,⟨xs.length,by simp,Nat.zero_le _,h0⟩,?_⟩
 rintro i m σ H ⟨rfl,hi,p⟩
 have q:=hl i σ H hi p
 by_cases hlt:i<xs.length
 ·refine .inr ⟨⟨xs,xs[i],q,by simp[hlt]⟩,Pv (i+1),fun σ' H' p'=>⟨xs.length-(i+1),by omega,rfl,hlt,p'⟩,fun x H' y=>?_⟩
  obtain⟨c,z,e1,e2,e3,e4⟩:=y
  subst e1 e3
  exact hs i z σ H c (e4 xs q) p e2
 ·have e:i=xs.length:=by omega
  subst e
  exact .inl ⟨⟨xs,q,Nat.le_refl _⟩,hd σ H p⟩
section
variable {M:Model}{A:Around}{E:zE1}{s:Shared}
structure LeftBy (fs:List Addr)(e T:Addr)(h h':Heap):Prop where
 keep:∀b o,b≠e->b∉fs->h.get? b=some o->h'.get? b=some o
 slot:∀b o,b≠e->h.get? b=some o->∃sl,h'.get? b=some { o with slots:=sl }
 exc:∀oe vs,h.get? e=some oe->oe.data=.fields vs->∃oe',h'.get? e=some oe'/\oe'.cls=oe.cls/\oe'.dict=oe.dict/\oe'.data=.fields (vs.setIfInBounds 1 (.ref T))
 new:h.get? T=none
 tr:∃oT ts,h'.get? T=some oT/\oT.data=.fields ts/\ts[3]?=some .none
theorem zwd {base:Heap}{env:Env}{outer:List Env}{L e:Addr}{oe:Obj}{vs:Array Value}{hd:Value}{nx:Bool}{Q:Unit->Shared->Prop}(fr:A.frames=some (env::outer))(ff:s.heap.FunFrames base (env::outer))(ef:env.frame=some L)
  (ge:s.heap.get? e=some oe)(de:oe.data=.fields vs)(sz:1<vs.size)(q:∀h' T,LeftBy ((env::outer).filterMap (·.frame)) e T s.heap h'->Q () { s with heap:=h' }):
  wpAny M A (do let a ← frameOf env;let pl ← entryPlaceOf L nx;let b ← EntryCells.newEntry hd a .none (rawInt L) .none pl;setField (.ref e) 1 b) (fun _ s'=>wpAny M A (setFlight (.ref e) none) Q E s') E s:=by
 have nf:e∉(env::outer).filterMap (·.frame):=fun m=>by
  obtain⟨_,o,ho,hn⟩:=ff.mem m
  rw[ge] at ho
  cases ho
  exact hn vs de
 refine wpAny_bind (wpAny_frameOf_fun fr ff ef fun k1 ks=>?_)
 refine wpAny_bind (wpAny_entryPlaceOf fun pl hpl=>?_)
 unfold EntryCells.newEntry newFields
 refine wpAny_bind (wpAny_newObj_type ?_ (hpl.sizeOk5 _ _ _ _ _))
 have g1:k1.get? e=some oe:=(ks.2.1 e nf).trans ge
 generalize hob:({ cls:=.type "traceback",dict:=none,data:=.fields ([hd,.ref L,.none,rawInt L,.none]++(if pl.isEmpty then List.replicate 6 Value.none else pl)).toArray }:Obj)=ob
 have g2:=Heap.get?_push_of_some (h:=k1) ob g1
 refine wpAny_setField g2 de sz ?_
 have ne:k1.objs.size≠e:=Nat.ne_of_gt (Heap.lt_size g1)
 have d3:=Obj.data_mapFields de (·.setIfInBounds 1 (Value.ref k1.objs.size))
 have g3:=Heap.get?_update_self (Obj.mapFields (·.setIfInBounds 1 (Value.ref k1.objs.size))) g2 (Obj.isFreed_of_fields d3)
 have t3:=(Heap.get?_update_other (k1.push ob) (Obj.mapFields (·.setIfInBounds 1 (Value.ref k1.objs.size))) (Ne.symm ne)).trans (Heap.get?_push_size k1 (o:=ob) (by rw[<- hob];rfl))
 unfold setFlight
 refine wpAny_bind (wpAny_field g3 d3 (x:=.ref k1.objs.size) (by simp[sz]) ?_)
 rw[if_pos (show(Value.ref k1.objs.size !=Value.none)=true from by simp)]
 have dT:ob.data=.fields ([hd,.ref L,.none,rawInt L,.none]++(if pl.isEmpty then List.replicate 6 Value.none else pl)).toArray:=by rw[<- hob]
 refine wpAny_setField t3 dT (by simp only[List.size_toArray,List.length_append,List.length_cons,List.length_nil]<;>omega) (q _ k1.objs.size ?_)
 have up:∀b o,b≠e->k1.get? b=some o->(((k1.push ob).update e (Obj.mapFields (·.setIfInBounds 1 (Value.ref k1.objs.size)))).update k1.objs.size (Obj.mapFields (·.setIfInBounds 3 ((none:Option Addr).elim Value.none fun f=>rawInt f)))).get? b=some o:=fun b o be hb=>by
  rw[Heap.get?_update_other _ _ (show k1.objs.size≠b from Nat.ne_of_gt (Heap.lt_size hb)),Heap.get?_update_other _ _ (Ne.symm be)]
  exact Heap.get?_push_of_some _ hb
 refine⟨fun b o be bf hb=>up b o be ((ks.2.1 b bf).trans hb),fun b o be hb=>?_,fun oe2 vs2 h1 h2=>?_,?_,?_⟩
 ·obtain⟨sl,hs⟩:=ks.2.2 b o hb
  exact⟨sl,up b _ be hs⟩
 ·rw[ge] at h1
  cases h1
  rw[de] at h2
  cases h2
  refine⟨_,(Heap.get?_update_other _ _ ne).trans g3,Obj.cls_mapFields _ _,?_,d3⟩
  obtain⟨c,dd,dt,sl⟩:=oe
  cases de
  rfl
 ·have:s.heap.objs.size=k1.objs.size:=ks.1.symm
  rw[<- this]
  exact Heap.get?_none_of_le (Nat.le_refl _)
 ·refine⟨_,_,Heap.get?_update_self _ t3 (Obj.isFreed_of_fields (Obj.data_mapFields dT _)),Obj.data_mapFields dT _,?_⟩
  first|(simp;done)|(rcases hpl with rfl|⟨_,_,_,_,_,_,_,rfl⟩<;>simp)
theorem zDe {base:Heap}{env:Env}{outer:List Env}{L e:Addr}{oe:Obj}{vs:Array Value}{Q:Unit->Shared->Prop}(fr:A.frames=some (env::outer))(ff:s.heap.FunFrames base (env::outer))(ef:env.frame=some L)
  (ge:s.heap.get? e=some oe)(de:oe.data=.fields vs)(v1:vs[1]?=some .none)(q:∀h' T,LeftBy ((env::outer).filterMap (·.frame)) e T s.heap h'->Q () { s with heap:=h' }):wpAny M A (leaving env (.ref e)) Q E s:=by
 unfold leaving noteFrame
 simp only[ef]
 refine wpAny_bind (wpAny_bind (wpAny_field ge de v1 ?_))
 rw[if_neg (by decide)]
 exact zwd fr ff ef ge de (Array.getElem?_eq_some_iff.mp v1).1 q
end
theorem zqa.there {P:Program}{w:World}{H:Hp}{h:Heap}{a:Addr}{o:HO}(x:zqa P w H h a o):∃ob,h.get? a=some ob:=by
 cases o with
 |lst xs=>obtain⟨_,_,_,_,e⟩:=x;exact⟨_,e⟩
 |tup xs=>obtain⟨_,_,_,ob,e,_⟩:=x;exact⟨ob,e⟩
 |dK kvs=>obtain⟨_,_,_,_,o,_,_,e,_⟩:=x;exact⟨_,e⟩
 |dT kvs=>obtain⟨_,_,_,_,o,_,_,e,_⟩:=x;exact⟨_,e⟩
 |set S n=>obtain⟨o,_,_,_,e,_⟩:=x;exact⟨_,e⟩
 |ins C dx fs=>obtain⟨_,_,_,e,_⟩:=x;exact⟨_,e⟩
 |own y=>obtain⟨_,e⟩:=x;exact⟨_,e⟩
 |xd fs=>obtain⟨_,⟨_,_,_,e,_⟩,_⟩:=x;exact⟨_,e⟩
 |rng lo hi=>obtain⟨_,_,_,e⟩:=x;exact⟨_,e⟩
 |frz ob u=>exact⟨ob,x.1⟩
 |tbl ps=>exact⟨_,x⟩
 |met f y=>exact⟨_,x⟩
 |ext φ=>obtain⟨_,⟨ob,e⟩,_⟩:=x;exact⟨ob,e⟩
def Fly (h h':Heap)(H':Hp)(a C:Addr)(dd:Option Addr):Prop:=h.get? a=none/\H' a=none/\∃oe vs T oT ts,h'.get? a=some oe/\oe.cls=.ref C/\oe.dict=dd/\oe.data=.fields vs/\vs[1]?=some (.ref T)/\T≠a/\h.get? T=none/\H' T=none/\h'.get? T=some oT/\oT.data=.fields ts/\ts[3]?=some .none
def CX1 (P:Program)(w:World):CXT:=fun outer H s E e s'=>∃(a C:Addr)(dd:Option Addr)(H':Hp),e=.ref a/\s'.os=s.os/\AllBare s'.gens/\Un (frs outer) [] H H' s.heap s'.heap/\HOk P w H' s'.heap/\Fly s.heap s'.heap H' a C dd/\E (.ref C) dd H'
section
variable {M:Model}{A:Around}{E:zE1}{s:Shared}
theorem zLf {base:Heap}{env:Env}{outer:List Env}{L e T0:Addr}{oe oT:Obj}{vs ts:Array Value}{Q:Unit->Shared->Prop}(fr:A.frames=some (env::outer))(ff:s.heap.FunFrames base (env::outer))(ef:env.frame=some L)
  (ge:s.heap.get? e=some oe)(de:oe.data=.fields vs)(v1:vs[1]?=some (.ref T0))(gT:s.heap.get? T0=some oT)(dT:oT.data=.fields ts)(t3:ts[3]?=some .none)(ne:T0≠e)
  (q:∀h1 h' T,(∀b,b≠T0->h1.get? b=s.heap.get? b)->(∃o,h1.get? T0=some o)->LeftBy ((env::outer).filterMap (·.frame)) e T h1 h'->Q () { s with heap:=h' }):wpAny M A (leaving env (.ref e)) Q E s:=by
 unfold leaving noteFrame
 simp only[ef]
 refine wpAny_bind (wpAny_bind (wpAny_field ge de v1 ?_))
 rw[if_pos (show(Value.ref T0 !=Value.none)=true from by simp)]
 refine wpAny_bind (wpAny_field gT dT t3 ?_)
 rw[if_neg (show ¬((Value.none==rawInt L)=true) from by simp[rawInt])]
 refine wpAny_bind (wpAny_setField gT dT (Array.getElem?_eq_some_iff.mp t3).1 ?_)
 have oth:∀b,b≠T0->(s.heap.update T0 (Obj.mapFields (·.setIfInBounds 3 Value.none))).get? b=s.heap.get? b:=fun b hb=>Heap.get?_update_other _ _ (Ne.symm hb)
 have there:=Heap.get?_update_self (Obj.mapFields (·.setIfInBounds 3 Value.none)) gT (Obj.isFreed_of_fields (Obj.data_mapFields dT _))
 have nr:∀b o,s.heap.get? b=some o->(∀us,o.data≠.fields us)->b≠T0:=fun b o hb hn z=>by
  rw[z,gT] at hb
  cases hb
  exact hn ts dT
 exact zwd (s:={ s with heap:=s.heap.update T0 (Obj.mapFields (·.setIfInBounds 3 Value.none)) }) fr (ff.of_keeps fun b o hb hn=>⟨o,(oth b (nr b o hb hn)).trans hb,rfl⟩) ef ((oth e (Ne.symm ne)).trans ge) de (Array.getElem?_eq_some_iff.mp v1).1 fun h' T lb=>q _ h' T oth ⟨_,there⟩ lb
end
theorem Fun.okX {P:Program}{w:World}{K:W.Frag}{mg:zT3}{base:Heap}{x qual:Str}{st:Stmt}{f:Addr}{fd:FuncData}{N ps:List Str}{k:Nat}{sp:Sp}(F:Fun K x qual st f fd)(S:FnScope N ps (zb st))(len:∀vs H Q E,sp vs H Q E->vs.length=ps.length)
  (hbody:∀(cdv:Value)(A:Around)(outer:List Env)(s:Shared)(H:Hp)(vs:List V)(Q:VK)(E:XK),Room k (A.deeper (envOfC qual (zb st) s.heap.objs.size f cdv))->sp vs H Q E→
   ∃t,PSs (cxOf (CX1 P w) P w K mg base N qual (zb st) f cdv A outer s H E) (zj st) t/\t { nx:=fun _ H'=>Q .non H',rt:=Q } (start N vs) H):FnOk P w K mg base (CX1 P w) (k+1) f fd ps sp:=by
 obtain⟨oc,od,kV,doc,pm,an,cdv,ct,osl,rfl,lk,hcd⟩:=F.ex
 exact zMh lk hcd S len fun A outer s H vs Q E hr hsp=>hbody cdv A outer s H vs Q E hr hsp
theorem zOg {P:Program}{w:World}{K:W.Frag}{mg:zT3}{base:Heap}{N:List Str}{qual:Str}{scope:Scope}{f:Addr}{cd:Value}{A:Around}{outer:List Env}{s:Shared}{H:Hp}{E:XK}:
  Passes (CX1 P w) (cxOf (CX1 P w) P w K mg base N qual scope f cd A outer s H E) E:=by
 intro pins σ H1 s1 e s' I hx
 obtain⟨a,C,dd,H2,rfl,hos,hgen,un,hok,⟨n1,n2,oe,vs,T0,oT,ts,g1,g2,gd,g3,g4,g5,g6,g7,g8,g9,g10⟩,hE⟩:=hx
 obtain⟨hh,g,d,t,os'⟩:=s'
 obtain rfl:os'=s1.os:=hos
 have I2:Inv (cxOf (CX1 P w) P w K mg base N qual scope f cd A outer s H E) pins σ H2 ⟨hh,g,d,t,s1.os⟩:=I.call (h':=hh) (g':=g) (d':=d) (t':=t) (ch:=[]) un hok hgen (fun b z=>absurd z (by simp))
 have fr:(A.deeper (envOfC qual scope s.heap.objs.size f cd)).frames=some (envOfC qual scope s.heap.objs.size f cd::outer):=I.ok.frames
 have fE:∀b∈(envOfC qual scope s.heap.objs.size f cd::outer).filterMap (·.frame),H2 b=none:=I2.zco
 have old1:∀b,s1.heap.get? b=none->s.heap.get? b=none:=fun b hb=>by
  cases q:s.heap.get? b with
  |none=>rfl
  |some o=>
   obtain⟨o',z⟩:=I.base.there b o q (by show b∉([]:List Addr);simp)
   rw[hb] at z
   cases z
 have old2:∀b,hh.get? b=none->s.heap.get? b=none:=fun b hb=>by
  cases q:s.heap.get? b with
  |none=>rfl
  |some o=>
   obtain⟨o',z⟩:=I2.base.there b o q (by show b∉([]:List Addr);simp)
   have z':hh.get? b=some o':=z
   rw[hb] at z'
   cases z'
 have unt:∀b,hh.get? b=none->H2 b=none:=fun b hb=>by
  cases q:H2 b with
  |none=>rfl
  |some o=>
   obtain⟨ob,z⟩:=(I2.hok b o q).there
   have z':hh.get? b=some ob:=z
   rw[hb] at z'
   cases z'
 refine zLf (s:=⟨hh,g,d,t,s1.os⟩) fr I2.stack rfl g1 g3 g4 g8 g9 g10 g5 fun h1 h' T o1 o2 lb=>?_
 have na:∀b o,s.heap.get? b=some o->b≠a/\b≠T0:=fun b o hb=>by
  refine⟨fun z=>?_,fun z=>?_⟩
  ·rw[z,old1 a n1] at hb
   cases hb
  ·rw[z,old1 T0 g6] at hb
   cases hb
 have nL:∀b o,s.heap.get? b=some o->b∉frs outer->b∉(envOfC qual scope s.heap.objs.size f cd::outer).filterMap (·.frame):=fun b o hb hf hm=>by
  rcases List.mem_cons.mp (show b∈s.heap.objs.size::frs outer from hm) with z|z
  ·exact absurd (Heap.lt_size hb) (by rw[z];exact Nat.lt_irrefl _)
  ·exact hf z
 have hTT:T≠T0:=fun z=>by
  obtain⟨o,q⟩:=o2
  rw[<- z,lb.new] at q
  cases q
 have hT:hh.get? T=none:=(o1 T hTT).symm.trans lb.new
 refine⟨a,C,dd,H2,rfl,I2.os,I2.bare,⟨fun b o hb hn hf hx=>?_,fun b o hb hn hf hx=>?_,fun b o hb hn hx=>I2.base.free b o hb hn hx,fun b o hb hx=>?_,I2.base.tups,I2.base.frzs,I2.base.tbls⟩,fun b o hb=>?_,⟨old1 a n1,n2,?_⟩,hE⟩
 ·have q:hh.get? b=some o:=I2.base.keep b o hb hn hf hx
  exact lb.keep b o (na b o hb).1 (nL b o hb hf) ((o1 b (na b o hb).2).trans q)
 ·obtain⟨sl,q⟩:=I2.base.slot b o hb hn hf hx
  have q':hh.get? b=some { o with slots:=sl }:=q
  obtain⟨sl2,q2⟩:=lb.slot b _ (na b o hb).1 ((o1 b (na b o hb).2).trans q')
  exact⟨sl2,q2⟩
 ·obtain⟨o',q⟩:=I2.base.there b o hb hx
  have q':hh.get? b=some o':=q
  obtain⟨sl,q2⟩:=lb.slot b o' (na b o hb).1 ((o1 b (na b o hb).2).trans q')
  exact⟨_,q2⟩
 ·refine(I2.hok b o hb).zto (fun c u z hc=>?_) (fun c z=>z) fun c xs z=>z
  have hc2:H2 c≠none:=fun q=>by
   rcases z with z|z
   ·rw[z,hb] at q
    cases q
   ·rw[z] at q
    cases q
  exact lb.keep c u (fun z=>hc2 (by rw[z];exact n2)) (fun hm=>hc2 (fE c hm)) ((o1 c (fun z=>hc2 (by rw[z];exact g7))).trans hc)
 ·obtain⟨oe',q1,q2,q3,q4⟩:=lb.exc oe vs ((o1 a (Ne.symm g5)).trans g1) g3
  obtain⟨oT',ts',t1,t2,t3⟩:=lb.tr
  refine⟨oe',_,T,oT',ts',q1,q2.trans g2,q3.trans gd,q4,?_,fun z=>?_,old2 T hT,unt T hT,t1,t2,t3⟩
  ·have:=(Array.getElem?_eq_some_iff.mp g4).1
   simp[this]
  ·have g1':hh.get? a=some oe:=g1
   rw[<- z,hT] at g1'
   cases g1'
section
variable {M:Model}{A:Around}{E:zE1}{s:Shared}
theorem zPg {base:Heap}{env:Env}{outer:List Env}{L e T0:Addr}{oe oT:Obj}{vs ts:Array Value}{Q:Unit->Shared->Prop}(fr:A.frames=some (env::outer))(ff:s.heap.FunFrames base (env::outer))(ef:env.frame=some L)
  (ge:s.heap.get? e=some oe)(de:oe.data=.fields vs)(v1:vs[1]?=some (.ref T0))(gT:s.heap.get? T0=some oT)(dT:oT.data=.fields ts)(t3:ts[3]?=some .none)(ne:T0≠e)
  (q:∀h1 h' T,(∀b,b≠T0->h1.get? b=s.heap.get? b)->(∃o,h1.get? T0=some o)->LeftBy ((env::outer).filterMap (·.frame)) e T h1 h'->Q () { s with heap:=h' }):
  wpAny M A (noteFrame (.ref e) env) (fun _ s2=>wpAny M A (setFlight (.ref e) none) Q E s2) E s:=by
 unfold noteFrame
 simp only[ef]
 refine wpAny_bind (wpAny_field ge de v1 ?_)
 rw[if_pos (show(Value.ref T0 !=Value.none)=true from by simp)]
 refine wpAny_bind (wpAny_field gT dT t3 ?_)
 rw[if_neg (show ¬((Value.none==rawInt L)=true) from by simp[rawInt])]
 refine wpAny_bind (wpAny_setField gT dT (Array.getElem?_eq_some_iff.mp t3).1 ?_)
 have oth:∀b,b≠T0->(s.heap.update T0 (Obj.mapFields (·.setIfInBounds 3 Value.none))).get? b=s.heap.get? b:=fun b hb=>Heap.get?_update_other _ _ (Ne.symm hb)
 have there:=Heap.get?_update_self (Obj.mapFields (·.setIfInBounds 3 Value.none)) gT (Obj.isFreed_of_fields (Obj.data_mapFields dT _))
 have nr:∀b o,s.heap.get? b=some o->(∀us,o.data≠.fields us)->b≠T0:=fun b o hb hn z=>by
  rw[z,gT] at hb
  cases hb
  exact hn ts dT
 exact zwd (s:={ s with heap:=s.heap.update T0 (Obj.mapFields (·.setIfInBounds 3 Value.none)) }) fr (ff.of_keeps fun b o hb hn=>⟨o,(oth b (nr b o hb hn)).trans hb,rfl⟩) ef ((oth e (Ne.symm ne)).trans ge) de (Array.getElem?_eq_some_iff.mp v1).1 fun h' T lb=>q _ h' T oth ⟨_,there⟩ lb
theorem zil {e T:Addr}{oe oT:Obj}{vs ts:Array Value}{Q:Unit->Shared->Prop}(ge:s.heap.get? e=some oe)(de:oe.data=.fields vs)(v1:vs[1]?=some (.ref T))(gT:s.heap.get? T=some oT)(dT:oT.data=.fields ts)(t3:ts[3]?=some .none)
  (q:∀h',(∀b,b≠T->h'.get? b=s.heap.get? b)->(∃oT' ts',h'.get? T=some oT'/\oT'.data=.fields ts'/\ts'[3]?=some .none)->Q () { s with heap:=h' }):wpAny M A (setFlight (.ref e) none) Q E s:=by
 unfold setFlight
 refine wpAny_bind (wpAny_field ge de v1 ?_)
 rw[if_pos (show(Value.ref T !=Value.none)=true from by simp)]
 have sz:=(Array.getElem?_eq_some_iff.mp t3).1
 refine wpAny_setField gT dT sz (q _ (fun b hb=>Heap.get?_update_other _ _ (Ne.symm hb)) ⟨_,_,Heap.get?_update_self _ gT (Obj.isFreed_of_fields (Obj.data_mapFields dT _)),Obj.data_mapFields dT _,?_⟩)
 simp[sz]
end
abbrev ExK:=St->Addr->Option Addr->Hp->Prop
def Fr0 (X:Cx)(pins:zT2)(h0:Heap):Prop:=(∀b,h0.get? b=none->X.s₀.heap.get? b=none\/b∈X.ex)/\∀p∈X.pn++pins,h0.get? p.1=some p.2
theorem Inv.fr0 {X:Cx}{pins:zT2}{σ:St}{H:Hp}{s:Shared}(I:Inv X pins σ H s):Fr0 X pins s.heap:=by
 refine⟨fun b hb=>?_,fun p hp=>(I.pin p hp).1⟩
 by_cases hx:b∈X.ex
 ·exact .inr hx
 ·refine .inl ?_
  cases q:X.s₀.heap.get? b with
  |none=>rfl
  |some o=>
   obtain⟨o',z⟩:=I.base.there b o q hx
   rw[hb] at z
   cases z
def XF (X:Cx)(pins:zT2)(Ex:ExK)(e:Value)(s':Shared):Prop:=∃(h0:Heap)(a C:Addr)(dd:Option Addr)(σ':St)(H':Hp),e=.ref a/\Inv X pins σ' H' s'/\Fly h0 s'.heap H' a C dd/\Fr0 X pins h0/\Ex σ' C dd H'
abbrev TX:=St->Hp->VK->ExK->Prop
def PEX (X:Cx)(e:Expr)(t:TX):Prop:=∀(pins:zT2)(s:Shared)(σ:St)(H:Hp)(Q:VK)(Ex:ExK),Inv X pins σ H s->t σ H Q Ex->wpAny (model X.prog X.w) X.A (eval e X.env) (EP X pins σ Q) (XF X pins Ex) s
section
variable {X:Cx}{k:Nat}{f C:Addr}{fd:FuncData}{ps:List Str}{sp:Sp}{dvs:List V}{ds:List Value}{x m:Str}{p pos apos:Pos}{e o:Expr}{es:List Expr}{ta:TE}{t:TA}
theorem zHj {pins:zT2}{σ:St}{H:Hp}{s:Shared}{Q:VK}{Ex:ExK}{us:List Value}{vs:List V}(F:FnOk X.prog X.w X.K X.mg X.base (CX1 X.prog X.w) k f fd ps sp)(hr:Room k X.A)(hb:Binds X.K fd ps ds)(hd:Vals dvs ds)
  (I:Inv X pins σ H s)(r:Vals vs us)(h:sp (vs++dvs) H Q (fun cls dd H'=>∃C,cls=.ref C/\Ex σ C dd H')):wpAny (model X.prog X.w) X.A (call (.ref f) us) (EP X pins σ Q) (XF X pins Ex) s:=by
 have r2:Vals (vs++dvs) (us++ds):=r.append hd
 have hl:(us++ds).length=ps.length:=by rw[<- r2.length];exact F.len _ _ _ _ h
 refine wpAny_call (codeAny_mono (F.run X.A X.stack s H ⟨us,[]⟩ (us++ds) (vs++dvs) Q _ hr I.zyo (hb s us I.kIn hl) r2 h) fun r s' hq=>?_)
 cases r with
 |error e=>
  obtain⟨a,C,dd,H2,rfl,hos,hgen,un,hok,fl,C',hC,hE⟩:=hq
  cases hC
  obtain⟨hh,g,d,t,os'⟩:=s'
  obtain rfl:os'=s.os:=hos
  exact⟨s.heap,a,C,dd,σ,H2,rfl,I.call (h':=hh) (g':=g) (d':=d) (t':=t) (ch:=[]) un hok hgen (fun b z=>absurd z (by simp)),fl,I.fr0,hE⟩
 |ok fl=>
  cases fl with
  |ret u=>exact I.after hq
  |next=>exact False.elim hq
  |brk=>exact False.elim hq
  |cont=>exact False.elim hq
theorem zff (F:FnOk X.prog X.w X.K X.mg X.base (CX1 X.prog X.w) k f fd ps sp)(hr:Room k X.A)(hg:Gl X x)(hm:X.mg x=some (.ref f))(hk:W.keepIn X.K (.ref f)=true)(hb:Binds X.K fd ps ds)(hd:Vals dvs ds)
  (ha:PA X.nox (e::es) t)(hdb:(x==("__debug__":Str))=false:=by decide)(he:starEach (e::es) X.env=(false,eval e X.env)::starEach es X.env:=by rfl)(hpl:(backTo pos (starEach es X.env)).any (·.1)=false:=by rfl):
  PEX X (.Call (.Name x p) (e::es) [] pos) (fun σ H Q Ex=>t σ H fun vs H1=>sp (vs++dvs) H1 Q fun cls dd H'=>∃C,cls=.ref C/\Ex σ C dd H'):=by
 intro pins s σ H Q Ex I h
 refine wpAny_Call_Name_kw (zib I hg hm ?_ hdb)
 refine W.callWith_K (h₀:=X.base) I.ok.mod.kin hk (wpAny_mono (ha pos pins s σ H _ (I.zwo _) h) (fun us s1 ⟨vs,H1,I1,r,q⟩=>⟨I1.kIn,?_⟩) fun _ _ z=>z.elim) he hpl
 exact zHj F hr hb hd I1.zio r q
abbrev TSX:=Ends->St->Hp->ExK->Prop
def PSX (X:Cx)(st:Stmt)(t:TSX):Prop:=∀(pins:zT2)(s:Shared)(σ:St)(H:Hp)(D:Ends)(Ex:ExK),Inv X pins σ H s->t D σ H Ex->wpAny (model X.prog X.w) X.A (exec st X.env) (SP X pins D) (XF X pins Ex) s
def PSsX (X:Cx)(st:List Stmt)(t:TSX):Prop:=∀(pins:zT2)(s:Shared)(σ:St)(H:Hp)(D:Ends)(Ex:ExK),Inv X pins σ H s->t D σ H Ex->wpAny (model X.prog X.w) X.A (execs st X.env) (SP X pins D) (XF X pins Ex) s
def zjl (t:TX):TSX:=fun D σ H Ex=>t σ H (fun _ H1=>D.nx σ H1) Ex
theorem zXh {te:TX}(he:PEX X e te)(hs:swapsWith e none pos.line X.env=pure false:=by rfl):PSX X (.Expr e pos) (zjl te):=by
 intro pins s σ H D Ex I h
 exact wpAny_Expr_any (thn (he pins s σ H _ Ex I h) fun v s1 ⟨x,H1,I1,r1,q1⟩=>⟨σ,H1,I1,q1⟩) I.quiet hs
def zSm (t:TX):TSX:=fun D σ H Ex=>t σ H D.rt Ex
theorem zIj {te:TX}(he:PEX X e te):PSX X (.Return (some e) pos) (zSm te):=by
 intro pins s σ H D Ex I h
 exact wpAny_Return_some (thn (he pins s σ H _ Ex I h) fun v s1 ⟨x,H1,I1,r1,q1⟩=>⟨x,σ,H1,I1,r1,q1⟩)
theorem zgf {st:Stmt}{t:TSX}(h:PSX X st t):PSsX X [st] t:=by
 intro pins s σ H D Ex I hw
 refine wpAny_execs_cons (thn (h pins s σ H D Ex I hw) fun f s1 q=>?_)
 cases f with
 |next=>exact wpAny_execs_nil q
 |brk=>exact q
 |cont=>exact q
 |ret u=>exact q
end
section
variable {X:Cx}{pins:zT2}{σ:St}{H H':Hp}{s:Shared}{h0 h':Heap}{ch:List Addr}
theorem Inv.zno {t':Nat}(I:Inv X pins σ H s)(f:Fr0 X pins h0)(hc:∀b∈ch,h0.get? b=none/\∃o vs,s.heap.get? b=some o/\o.data=.fields vs)
  (keep:∀b o,b∉ch->b∉frs X.stack->s.heap.get? b=some o->h'.get? b=some o)(slot:∀b o,b∉ch->s.heap.get? b=some o->∃sl,h'.get? b=some { o with slots:=sl })
  (free:∀b o,b∉ch->s.heap.get? b=some o->H b=none->H' b=none) (tups:∀b xs,H b=some (.tup xs)->H' b=some (.tup xs)) (frzs:∀b o u,H b=some (.frz o u)->H' b=some (.frz o u))
  (tbls:∀b ps,H b=some (.tbl ps)->∃more,H' b=some (.tbl (ps++more))) (hok:HOk X.prog X.w H' h'):Inv X pins σ H' { s with heap:=h',toks:=t' }:=by
 have nL:∀b∈ch,b≠X.env.locals:=fun b hb z=>by
  obtain⟨_,o,vs,ho,hd⟩:=hc b hb
  obtain⟨m,⟨o',es,ep,ho',hd',_⟩,_⟩:=I.loc
  rw[z,ho'] at ho
  cases ho
  rw[hd'] at hd
  cases hd
 have nC:∀b∈ch,∀x c,X.env.cells.lookup x=some c->c≠b:=fun b hb x c e z=>by
  obtain⟨_,o,vs,ho,hd⟩:=hc b hb
  obtain⟨v,o',ho',hd'⟩:=I.cell x c e
  rw[z,ho] at ho'
  cases ho'
  rw[hd] at hd'
  cases hd'
 have nF:∀b∈ch,b∉X.fs:=fun b hb z=>by
  obtain⟨_,o,vs,ho,hd⟩:=hc b hb
  obtain⟨_,o',ho',hn⟩:=I.funs.mem z
  rw[ho] at ho'
  cases ho'
  exact hn vs hd
 have n0:∀b∈ch,X.s₀.heap.get? b=none\/b∈X.ex:=fun b hb=>f.1 b (hc b hb).1
 have nP:∀b∈ch,∀p∈X.pn++pins,p.1≠b:=fun b hb p hp z=>by
  have e:=f.2 p hp
  rw[z,(hc b hb).1] at e
  cases e
 have old:∀b o,X.s₀.heap.get? b=some o->b∉X.ex->b∉ch++X.ex:=fun b o e hx hm=>by
  rcases List.mem_append.mp hm with z|z
  ·rcases n0 b z with q|q
   ·rw[e] at q
    cases q
   ·exact hx q
  ·exact hx z
 have ok':Cx.Ok { X with ex:=ch++X.ex }:=⟨I.ok.mod,I.ok.kind,I.ok.glob,I.ok.blt,I.ok.above,I.ok.inj,I.ok.has,I.ok.cab,I.ok.hd,I.ok.frames,I.ok.stk,
  fun b hb=>(List.mem_append.mp hb).elim (fun z=>⟨nL b z,nC b z⟩) (I.ok.exf b),I.ok.bs,I.ok.bsz,fun b o e=>old b o (I.ok.bs b o e).1 (I.ok.noex b o e),fun b hb=>(List.mem_append.mp hb).elim (nF b) (I.ok.exfs b),I.ok.funs,I.ok.frf⟩
 have I':Inv { X with ex:=ch++X.ex } pins σ H s:=⟨ok',I.os,I.bare,⟨fun b o e n hb hx=>I.base.keep b o e n hb fun z=>hx (List.mem_append_right _ z),fun b o e n hb hx=>I.base.slot b o e n hb fun z=>hx (List.mem_append_right _ z),
  fun b o e n hx=>I.base.free b o e n fun z=>hx (List.mem_append_right _ z),fun b o e hx=>I.base.there b o e fun z=>hx (List.mem_append_right _ z),I.base.tups,I.base.frzs,I.base.tbls⟩,I.loc,I.cell,I.free,I.freeC,I.pin,I.hok,I.len⟩
 obtain⟨m,⟨o,es,ep,ho,r⟩,_⟩:=id I.loc
 obtain⟨sl,hL⟩:=slot X.env.locals o (fun z=>nL _ z rfl) ho
 have J:=I'.step (g':=s.gens) (d':=s.drawn) (t':=t') (h':=h') (H':=H') (ch:=ch) (fun b hb=>⟨.inl (List.mem_append_left _ hb),nL b hb,nC b hb,nP b hb⟩)
  (fun b o hL hb hc e n=>keep b o hc (fun z=>(List.mem_cons.mp (I.zho b z)).elim hL hb) e) (fun b o _ _ hc e n=>slot b o hc e) free (fun b o hc e=>(slot b o hc e).elim fun sl z=>⟨_,z⟩) tups frzs tbls (fun m' hm=>by
   obtain⟨o',es',ep',ho',r'⟩:=hm
   rw[ho] at ho'
   cases ho'
   exact⟨_,es',ep',hL,r'⟩) hok I.bare
 exact⟨I.ok,J.os,J.bare,⟨fun b o e n hb hx=>J.base.keep b o e n hb (old b o e hx),fun b o e n hb hx=>J.base.slot b o e n hb (old b o e hx),fun b o e n hx=>J.base.free b o e n (old b o e hx),fun b o e hx=>J.base.there b o e (old b o e hx),
  J.base.tups,J.base.frzs,J.base.tbls⟩,J.loc,J.cell,J.free,J.freeC,J.pin,J.hok,J.len⟩
theorem zxd {M:Model}{A:Around}{E:zE1}{i:Nat}{x:Str}{pos:Pos}{Q:Unit->Shared->Prop}(I:Inv X pins σ H s)(hN:X.N.Nodup)(hi:X.N[i]?=some x)(hk:X.env.scope.names.lookup x=some .local)
  (h:∀s',Inv X pins (σ.set i none) H s'->Q () s'):wpAny M A (do bindName X.env x .none;unbindBehindTheSuite X.env x pos) Q E s:=by
 obtain⟨m,hn,hl⟩:=id I.loc
 have hcls:(X.env.scope.kind==.class||(X.env.scope.kind==.module&&X.env.locals !=X.env.globals))=false:=by rw[I.ok.kind];rfl
 have hiσ:i<σ.length:=by rw[I.len];exact(List.getElem?_eq_some_iff.mp hi).1
 have ne0:∀b o,X.s₀.heap.get? b=some o->b≠X.env.locals:=fun b o e=>Nat.ne_of_lt (Nat.lt_of_lt_of_le (Heap.lt_size e) I.ok.above)
 refine wpAny_nameGoes_keeps hk hn hcls fun h' v hn' hs=>?_
 refine h _ ⟨I.ok,I.os,I.bare,⟨fun b o e n hb hx=>(hs.2 b (ne0 b o e)).trans (I.base.keep b o e n hb hx),fun b o e n hb hx=>?_,I.base.free,fun b o e hx=>?_,I.base.tups,I.base.frzs,I.base.tbls⟩,⟨_,hn',fun j y w e1 e2 e3=>?_⟩,fun y c e=>?_,I.free,I.freeC,fun p hp=>?_,fun b u e=>?_,by simpa using I.len⟩
 ·obtain⟨sl,e1⟩:=I.base.slot b o e n hb hx
  exact⟨sl,(hs.2 b (ne0 b o e)).trans e1⟩
 ·obtain⟨o',e1⟩:=I.base.there b o e hx
  exact⟨o',(hs.2 b (ne0 b o e)).trans e1⟩
 ·by_cases hj:j=i
  ·subst hj
   rw[List.getElem?_set_self hiσ] at e2
   cases e2
  ·rw[List.getElem?_set_ne (Ne.symm hj)] at e2
   obtain⟨u',r',q⟩:=hl j y w e1 e2 e3
   refine⟨u',r',?_⟩
   rcases q with⟨k,e⟩|⟨k,c,e,z⟩
   ·refine .inl ⟨k,?_⟩
    have:y≠x:=fun e=>hj (zgd hN e1 (e▸hi))
    simp[this,e]
   ·exact .inr ⟨k,c,e,z.sameBut hs (I.cne y c e)⟩
 ·obtain⟨w',z⟩:=I.cell y c e
  exact⟨w',z.sameBut hs (I.cne y c e)⟩
 ·obtain⟨e,n,ne,nf,d⟩:=I.pin p hp
  exact⟨(hs.2 p.1 ne).trans e,n,ne,nf,d⟩
 ·refine(I.hok b u e).zto (fun c w' hc q=>(hs.2 c ?_).trans q) (fun _ q=>q) fun _ _ q=>q
  rintro rfl
  rcases hc with rfl|hc
  ·rw[I.free] at e
   cases e
  ·rw[I.free] at hc
   cases hc
end
def ExcAt (a C:Addr)(dd:Option Addr)(h:Heap):Prop:=∃oe vs,h.get? a=some oe/\oe.cls=.ref C/\oe.dict=dd/\oe.data=.fields vs
abbrev Cx.hand (X:Cx)(a:Addr):Cx:={ X with A:=X.A.mark (some (.ref a)),calm:=false,xe:=fun _ _=>False }
section
variable {X:Cx}{pins:zT2}{σ:St}{H:Hp}{s:Shared}{a:Addr}
theorem Inv.hand (I:Inv X pins σ H s)(a:Addr):Inv (X.hand a) pins σ H s:=
 ⟨⟨I.ok.mod,I.ok.kind,I.ok.glob,I.ok.blt,I.ok.above,I.ok.inj,I.ok.has,I.ok.cab,fun z=>Bool.noConfusion z,I.ok.frames,I.ok.stk,I.ok.exf,I.ok.bs,I.ok.bsz,I.ok.noex,I.ok.exfs,I.ok.funs,I.ok.frf⟩,I.os,I.bare,I.base,I.loc,I.cell,I.free,I.freeC,I.pin,I.hok,I.len⟩
theorem Inv.zko (ok:X.Ok)(I:Inv (X.hand a) pins σ H s):Inv X pins σ H s:=⟨ok,I.os,I.bare,I.base,I.loc,I.cell,I.free,I.freeC,I.pin,I.hok,I.len⟩
def zqb (K:W.Frag)(C:Addr)(D:Value):Bool:=W.kitCls K (.ref C) D==some true&&W.subIn K D (.type "BaseException")==some true
theorem zhf {A:Around}{E:zE1}{K:W.Frag}{prog:Program}{w:World}{C:Addr}{dd:Option Addr}{D:Value}{Q:Bool->Shared->Prop}(X:K.In s.heap)(x:ExcAt a C dd s.heap)(hq:zqb K C D=true)(k:Q true s):
  wpAny (model prog w) A (excMatches (.ref a) D) Q E s:=by
 obtain⟨h,g,d,t,os⟩:=s
 obtain⟨oe,vs,ge,ce,_,_⟩:=x
 unfold zqb at hq
 rw[Bool.and_eq_true] at hq
 obtain⟨h1,h2⟩:=hq
 obtain⟨L3,L5,L1⟩:=W.kit_cls (M:=model prog w) X (beq_iff_eq.mp h1)
 have L2:=W.looks_subIn (M:=model prog w) X (beq_iff_eq.mp h2)
 have L4:W.Looks (model prog w) h (typeOf (.ref a)) (.ref C):=ce▸(W.Looks.ld ge).andThen .now
 have L0:W.Looks (model prog w) h (isSubtype (.type "type") (.type "tuple")) false:=W.Looks.of_pure tc_notTuple
 have LI:W.Looks (model prog w) h (isInstance D (.type "tuple")) false:=L3.andThen L0
 have LX:W.Looks (model prog w) h (isExcClass D) true:=L5.andThen (by simpa using L2)
 unfold excMatches
 refine wpAny_bind (LI.at ?_)
 simp only[Bool.false_eq_true,if_false]
 refine wpAny_bind (wpAny_pure ?_)
 simp only[List.forIn_cons,List.forIn_nil]
 refine wpAny_bind (wpAny_bind (wpAny_bind (LX.at ?_)))
 simp only[Bool.not_true,Bool.false_eq_true,if_false]
 refine wpAny_pure (wpAny_pure ?_)
 refine wpAny_bind (L4.at ?_)
 refine wpAny_bind (wpAny_bind (wpAny_bind (L1.at ?_)))
 simp only[if_true]
 refine wpAny_pure (wpAny_pure ?_)
 exact wpAny_pure k
end
def Means (X:Cx)(x:Str)(u:Value):Prop:=Gl X x/\(x==("__debug__":Str))=false/\(X.mg x=some u\/X.mg x=none/\bootBuiltins x=some u/\x≠"__name__")
theorem ztc {X:Cx}{E:zE1}{pins:zT2}{s:Shared}{σ:St}{H:Hp}{x:Str}{u:Value}{pos:Pos}{Q:zE1}(I:Inv X pins σ H s)(m:Means X x u)(h:Q u s):wpAny (model X.prog X.w) X.A (eval (.Name x pos) X.env) Q E s:=by
 obtain⟨hg,hd,hm|⟨hm,hv,hn⟩⟩:=m
 ·exact zib I hg hm h hd
 ·exact zCb I hg hm hv h hn hd
def zgb (K:W.Frag)(C:Addr):Bool:=W.findIn K (.ref C) "__getattribute__"==some (some (.builtin "BaseException.__getattribute__"))&&W.findIn K (.ref C) "__getattr__"==some none
 &&W.findIn K (.ref C) "__class__"==some (some (.builtin "object.__class__"))&&W.specialIn K (.builtin "object.__class__") "__get__"==some (some (.builtin "getset_descriptor.__get__"))
 &&W.takesIn K (.builtin "object.__class__")==some true&&W.mroIn K C (.type "object")==some true&&W.mroIn K C (.type "BaseException")==some true&&(W.clsIn K C).isSome
section
variable {prog:Program}{w:World}{A:Around}{E:zE1}{s:Shared}{K:W.Frag}{a C:Addr}{ox:Obj}{od:Option Obj}
theorem zYh (hq:zgb K C=true):W.findObj K C od "__class__"=some (.bind (.builtin "getset_descriptor.__get__") (.builtin "object.__class__")):=by
 unfold zgb at hq
 simp only[Bool.and_eq_true,beq_iff_eq] at hq
 obtain⟨⟨⟨⟨⟨⟨⟨_,_⟩,h3⟩,h4⟩,h5⟩,_⟩,_⟩,h8⟩:=hq
 obtain⟨cd,hc⟩:=Option.isSome_iff_exists.mp h8
 unfold W.findObj
 rw[hc,Option.bind_some,h3,Option.bind_some]
 simp[h4,h5]
theorem zif {nameV:Value}{Q:Unit->Shared->Prop}(LI:W.Looks (model prog w) s.heap (isInstance (.ref a) (.type "BaseException")) true)(k:Q () s):wpAny (model prog w) A (checkBuiltinCall "BaseException.__getattribute__" ⟨[.ref a,nameV],[]⟩) Q E s:=by
 obtain⟨hh,g,d,t,os⟩:=s
 have hk:builtinKind "BaseException.__getattribute__"=some .slot:=by decide +kernel
 have hsplit:splitId "BaseException.__getattribute__"=some ("BaseException","__getattribute__"):=by decide +kernel
 have ha:=F.args_bexc_ga (.ref a) nameV
 simp only[checkBuiltinCall,hk,hsplit]
 refine wpAny_bind (LI.at ?_)
 repeat (first|assumption|wp_step)
theorem zJj {tk:Tok}{P:zE1}{g b:Value}(L0:W.Looks (model prog w) s.heap (typeOf (.ref a)) (.ref C))(L3:W.Looks (model prog w) s.heap (Builtin.ObjectAttr.find (.ref a) (.ref C) "__class__") (.bind g b))(h:wpAny (model prog w) A (call g [b,.ref a,.ref C]) P E s):
  wpAny (model prog w) A (Builtin.«object.__getattribute__» ⟨[.ref a,.str "__class__" tk],[]⟩) (fun fin s'=>match fin with | .done (.ret v)=>P v s'|_=>False) E s:=by
 obtain⟨hh,gg,d,t,os⟩:=s
 unfold Builtin.«object.__getattribute__»
 refine wpAny_bind (wpAny_pure (a:=(Value.ref a,[Value.str "__class__" tk])) ?_)
 refine wpAny_bind (wpAny_pure (a:=("__class__":Str)) ?_)
 refine wpAny_bind (L0.at (wpAny_bind (L3.at ?_)))
 show wpAny _ _ (holding [b] (call g [b,.ref a,.ref C]) >>= ret) _ _ _
 exact wpAny_bind (wpAny_holding (wpAny_mono h (fun v s' z=>wpAny_pure z) fun _ _ z=>z))
theorem zne {Q:Option Value->Shared->Prop}(hq:zgb K C=true)(X:K.In s.heap)(I:W.InstAt s.heap a ox C od)(h:Q (some (.ref C)) { s with toks:=s.toks+1 }):wpAny (model prog w) A (getAttr? (.ref a) "__class__") Q E s:=by
 have hf:=zYh (od:=od) hq
 unfold zgb at hq
 simp only[Bool.and_eq_true,beq_iff_eq] at hq
 obtain⟨⟨⟨⟨⟨⟨⟨h1,h2⟩,h3⟩,h4⟩,h5⟩,h6⟩,h7⟩,h8⟩:=hq
 obtain⟨hh,g,d,t,os⟩:=s
 have L0:=I.type (M:=model prog w)
 have L1:=W.looks_findIn (M:=model prog w) X h1
 have L2:=W.looks_findIn (M:=model prog w) X h2
 have L3:=W.looks_find (M:=model prog w) X I hf
 have L4:=W.looks_mroIn (M:=model prog w) X h7
 have LI:W.Looks (model prog w) hh (isInstance (.ref a) (.type "BaseException")) true:=L0.andThen L4
 have f3:=F.attr_ValueError.ga.bind (.ref a)
 have hk:builtinKind "BaseException.__getattribute__"=some .slot:=by decide +kernel
 have hsplit:splitId "BaseException.__getattribute__"=some ("BaseException","__getattribute__"):=by decide +kernel
 have hx2:(Value.builtin "BaseException.__getattribute__"==Value.builtin "object.__getattribute__")=false:=by decide +kernel
 unfold getAttr? getAttrBy? getAttrBy
 refine wpAny_bind (wpAny_mkText (wpAny_bind (wpAny_attempt (wpAny_holding (wpAny_bind (L0.at (wpAny_bind (L1.at ?_))))))))
 simp only[hx2,Bool.and_false,Bool.false_eq_true,if_false]
 unfold getAttrByItsOwn hookBefore
 simp only[onTheHeap,if_true]
 refine wpAny_bind (L2.at ?_)
 refine wpAny_bind (wpAny_attempt (wpAny_holding ?_))
 unfold callGetattribute boundAndCalled
 simp only[Bool.false_and,Bool.false_eq_true,if_false]
 rw[f3]
 refine wpAny_bind (wpAny_pure ?_)
 refine wpAny_call (codeAny_call_builtin F.attr_ValueError.ga.plain F.entry_bexc_ga (zif (s:=⟨hh,g,d,t+1,os⟩) LI ?_))
 refine wpAny_mono (zJj (s:=⟨hh,g,d,t+1,os⟩) (P:=fun v s'=>v=.ref C/\s'=⟨hh,g,d,t+1,os⟩) (E:=fun _ _=>False) L0 L3 (wpAny_call (W.class_get (s:=⟨hh,g,d,t+1,os⟩) (ox:=ox) (od:=od) X I h6 ⟨rfl,rfl⟩))) (fun fin s' z=>?_) fun _ _ z=>z.elim
 rcases fin with(_|_|_|_)|_<;>first|(obtain⟨rfl,rfl⟩:=z;exact W.handed_on rfl (wpAny_pure h))|exact z.elim
end
def clsV:V->Value
 |.ref D=>.ref D
 |.ty T=>.type T
 |_=>.none
def zaa (a C:Addr)(dd:Option Addr)(h:Heap):Prop:=∃oe vs,h.get? a=some oe/\oe.cls=.ref C/\oe.dict=dd/\oe.data=.fields vs/\vs[1]?=some .none
abbrev bmV0:List Value:=[.type "ValueError",.type "Exception",.type "BaseException",.type "object"]
def zKj:List Value->Bool
 |.ref _::r=>zKj r
 |l=>l==bmV0
theorem zpc (self:Value):∀{l:List Value},zKj l=true->PySem.refuseLoop self "__setattr__" l=pure ()
 |.ref c::r,e=>by
  rw[PySem.refuseLoop_ref]
  exact zpc self (l:=r) e
 | [],e=>by cases e
 |.type n::r,e=>by
  have h:(Value.type n::r)=bmV0:=beq_iff_eq.mp e
  rw[h]
  exact PySem.F.store_ValueError.passes self
 |.none::r,e=>by cases beq_iff_eq.mp (show((Value.none::r)==bmV0)=true from e)
 |.bool _::r,e=>by cases beq_iff_eq.mp (show((Value.bool _::r)==bmV0)=true from e)
 |.int _ _::r,e=>by cases beq_iff_eq.mp (show((Value.int _ _::r)==bmV0)=true from e)
 |.float _ _::r,e=>by cases beq_iff_eq.mp (show((Value.float _ _::r)==bmV0)=true from e)
 |.str _ _::r,e=>by cases beq_iff_eq.mp (show((Value.str _ _::r)==bmV0)=true from e)
 |.bytes _ _::r,e=>by cases beq_iff_eq.mp (show((Value.bytes _ _::r)==bmV0)=true from e)
 |.builtin _::r,e=>by cases beq_iff_eq.mp (show((Value.builtin _::r)==bmV0)=true from e)
def zFa (K:W.Frag)(C:Addr)(f:Str):Bool:=W.findIn K (.ref C) "__setattr__"==some (some (.builtin "object.__setattr__"))&&(W.clsIn K C).any (fun cd=>zKj cd.mro&&cd.hasDict)
 &&W.findIn K (.ref C) f==some none&&W.mroIn K C (.type "object")==some true
section
variable {prog:Program}{w:World}{A:Around}{E:zE1}{s:Shared}{K:W.Frag}{a C:Addr}{f:Str}{v:Value}
theorem zQg {Q:Unit->Shared->Prop}(hq:zFa K C f=true)(X:K.In s.heap)(x:zaa a C none s.heap)
  (h:∀h' tk,zaa a C (some s.heap.objs.size) h'->h'.Ns1 s.heap.objs.size (fun y=>if y=f then some v else none)->(∀b o,b≠a->s.heap.get? b=some o->h'.get? b=some o)->Q () { s with heap:=h',toks:=tk }):
  wpAny (model prog w) A (setAttr (.ref a) f v) Q E s:=by
 obtain⟨oe,vs,ge,ce,de,da,v1⟩:=x
 have I:W.InstAt s.heap a oe C none:=⟨ge,ce,by unfold W.notCls;rw[da],by rw[de];trivial⟩
 unfold zFa at hq
 simp only[Bool.and_eq_true,beq_iff_eq] at hq
 obtain⟨⟨⟨h1,h2⟩,h3⟩,h4⟩:=hq
 obtain⟨cd,hc,hm⟩:=W.any_some h2
 rw[Bool.and_eq_true] at hm
 obtain⟨hm,hd⟩:=hm
 have SF:=PySem.F.store_object
 refine W.set_plain X I h1 ?_
 obtain⟨hh,g,d,t,os⟩:=s
 have sub:W.Looks (model prog w) hh (isInstance (.ref a) (.type "object")) true:=I.type.andThen (W.looks_mroIn X h4)
 refine codeAny_call_builtin SF.slot.plain SF.entry (@W.check_slot (model prog w) _ _ ⟨hh,g,d,t+1,os⟩ "object.__setattr__" "object" "__setattr__" (.ref a) [.str f t,v] [] _ SF.kind SF.split sub (SF.args (.ref a) (.str f t) v) ?_)
 have hmr:W.Looks (model prog w) hh (mroOf (.ref C)) cd.mro:=(W.looks_clsIn X hc).andThen .now
 rw[W.osa_eq,PySem.refuse_eq]
 refine wpAny_bind (wpAny_bind (I.type.at (wpAny_bind (hmr.at ?_))))
 rw[zpc _ hm]
 refine wpAny_pure (wpAny_bind (I.type.at (wpAny_bind ((W.looks_findIn X h3).at (wpAny_bind (wpAny_pure (a:=none) ?_))))))
 show wpAny _ _ (Builtin.ObjectAttr.storeInOwnDict (.ref a) (.ref C) (.str f t) f v false) _ _ _
 obtain⟨oc,odi,oda,osl⟩:=oe
 dsimp only at ce de da
 subst ce de da
 refine wpAny_bind (wpAny_pure (wpAny_bind (wpAny_bind (wpAny_loadPart ge (wpAny_bind ((W.looks_clsIn X hc).at ?_))))))
 rw[hd]
 have hx1:(hh.push { cls:=.type "dict",data:=.dict #[] }).get? a=some ⟨.ref C,none,.fields vs,osl⟩:=Heap.get?_push_of_some _ ge
 have hxs:a≠hh.objs.size:=Nat.ne_of_lt (Heap.lt_size ge)
 refine wpAny_bind (wpAny_alloc' ?_)
 refine wpAny_bind (wpAny_update' hx1 ?_)
 refine wpAny_pure (a:=some hh.objs.size) ?_
 have hgd:((hh.push { cls:=.type "dict",data:=.dict #[] }).update a fun o=>{ cls:=o.cls,dict:=some hh.objs.size,data:=o.data,slots:=o.slots }).get? hh.objs.size=some { cls:=.type "dict",data:=.dict #[] }:=
  (Heap.get?_update_ne _ _ _ _ hxs.symm).trans (Heap.get?_push_at rfl rfl)
 have hnd:((hh.push { cls:=.type "dict",data:=.dict #[] }).update a fun o=>{ cls:=o.cls,dict:=some hh.objs.size,data:=o.data,slots:=o.slots }).Ns hh.objs.size (fun _=>none):=
  ⟨_,#[],_,hgd,rfl,fun e he=>absurd he (by simp),fun _=>rfl⟩
 show wpAny _ _ (Builtin.ObjectAttr.storeInDict hh.objs.size (.str f t) f v) _ _ _
 unfold Builtin.ObjectAttr.storeInDict Builtin.ObjectAttr.newKeyGuard
 refine wpAny_bind (wpAny_pure (wpAny_bind (wpAny_nsSet1 (Heap.Ns1.of_empty hnd) fun h' hn' hs=>?_)))
 obtain⟨oD,esD,epD,hoD,hdD,hcD⟩:=hn'.count (PySem.Within.cons f v PySem.Within.nil)
 refine wpAny_bind (wpAny_lookBehind hoD (by rw[hdD];exact pastItsLine_dict (Nat.le_trans hcD (by rw[List.length_cons,List.length_nil,sizeLine_eq];omega))) ?_)
 refine wpAny_pure (h h' _ ⟨⟨.ref C,some hh.objs.size,.fields vs,osl⟩,vs,?_,rfl,rfl,rfl,v1⟩ hn' fun b o hb e=>?_)
 ·exact(hs.2 a hxs).trans (Heap.get?_update_self _ hx1 rfl)
 ·exact(hs.2 b (Nat.ne_of_lt (Heap.lt_size e))).trans ((Heap.get?_update_ne _ _ _ _ hb).trans (Heap.get?_push_of_some _ e))
end
theorem zRg {X:Cx}{pins:zT2}{σ:St}{H:Hp}{s:Shared}{A:Around}{E:zE1}{a C:Addr}{f:Str}{y:V}{u:Value}{Q:Unit->Shared->Prop}(I:Inv X pins σ H s)(ha:H a=some (.ext (zaa a C none)))(hq:zFa X.K C f=true)(ry:RelV y u)
  (h:∀d s',H d=none->d≠a->Inv X pins σ (upd (upd H a (.ext (zaa a C (some d)))) d (.xd [(f,y)])) s'->Q () s'):wpAny (model X.prog X.w) A (setAttr (.ref a) f u) Q E s:=by
 have x:zaa a C none s.heap:=(show zqa X.prog X.w H s.heap a (.ext (zaa a C none)) from I.hok a _ ha).1
 have fresh:H s.heap.objs.size=none:=I.hok.fresh (Nat.le_refl _)
 have nda:s.heap.objs.size≠a:=fun z=>by rw[z,ha] at fresh;cases fresh
 refine zQg hq I.kIn x fun h' tk x' n' kp=>h s.heap.objs.size _ fresh nda ?_
 have there':∀b o,s.heap.get? b=some o->∃o',h'.get? b=some o':=fun b o e=>by
  by_cases hb:b=a
  ·obtain⟨oe,_,ge,_⟩:=x'
   exact⟨oe,by rw[hb];exact ge⟩
  ·exact⟨o,kp b o hb e⟩
 have nb:∀b o,s.heap.get? b=some o->b≠s.heap.objs.size:=fun b o e=>Nat.ne_of_lt (Heap.lt_size e)
 have upK:∀b o,H b=some o->b≠a->upd (upd H a (.ext (zaa a C (some s.heap.objs.size)))) s.heap.objs.size (.xd [(f,y)]) b=some o:=fun b o e hb=>by
  rw[zy (zJ e fresh),zy hb]
  exact e
 have nx:∀{b:Addr}{o:HO},H b=some o->(∀φ,o≠.ext φ)->b≠a:=fun {b o} e n z=>by
  rw[z,ha] at e
  cases e
  exact n _ rfl
 have nfree:∀{b:Addr},H b=none->b≠a:=fun {b} e z=>by
  rw[z,ha] at e
  cases e
 refine I.step (g':=s.gens) (d':=s.drawn) (ch:=[]) (fun _ z=>nomatch z) (fun b o _ _ _ e n=>kp b o (nfree n) e) (fun b o _ _ _ e n=>⟨o.slots,kp b o (nfree n) e⟩) (fun b o _ e n=>?_) (fun b o _ e=>there' b o e)
  (fun b xs e=>upK b _ e (nx e fun _ z=>by cases z)) (fun b o u e=>upK b _ e (nx e fun _ z=>by cases z)) (fun b ps e=>⟨#[],by rw[upK b _ e (nx e fun _ z=>by cases z)];simp⟩) (fun m hm=>?_) (fun b o e=>?_) I.bare
 ·rw[zy (nb b o e),zy (nfree n)]
  exact n
 ·obtain⟨o,es,ep,ho,r⟩:=hm
  exact⟨o,es,ep,kp _ o (nfree I.free) ho,r⟩
 ·by_cases hd:b=s.heap.objs.size
  ·subst hd
   rw[zc] at e
   cases e
   refine⟨_,n',fun g=>?_⟩
   by_cases hg:g=f
   ·subst hg
    simp only[List.lookup,beq_self_eq_true,if_true]
    exact ry
   ·have hb:(g==f)=false:=beq_eq_false_iff_ne.mpr hg
    simp only[List.lookup,hb,if_neg hg]
    trivial
  ·rw[zy hd] at e
   by_cases hb:b=a
   ·subst hb
    rw[zc] at e
    cases e
    obtain⟨oe,vs,ge,r⟩:=id x'
    exact⟨x',⟨_,ge⟩,fun k1 k2 ⟨o,v,e1,r⟩ k=>⟨o,v,k _ e1,r⟩⟩
   ·rw[zy hb] at e
    refine(I.hok b o e).zto (fun c w' hc q=>kp c w' (fun z=>?_) q) (fun c z=>upK c _ z (nx z fun _ z=>by cases z)) fun c xs z=>upK c _ z (nx z fun _ z=>by cases z)
    subst z
    rcases hc with z|z
    ·exact hb z.symm
    ·rw[ha] at z
     cases z
def zTm (K:W.Frag)(ta tv:TE)(f:Str):TS:=fun D σ H=>tv σ H fun y H1=>ta σ H1 fun x H2=>∃a C,x=.ref a/\H2 a=some (.ext (zaa a C none))/\zFa K C f=true/\∀d,H2 d=none->d≠a->D.nx σ (upd (upd H2 a (.ext (zaa a C (some d)))) d (.xd [(f,y)]))
theorem zyd {X:Cx}{o value:Expr}{f:Str}{ta tv:TE}{pos pos':Pos}(ha:PE X o ta)(hv:PE X value tv)(hs:swapsWith value (some (.Attribute o f pos')) pos.line X.env=pure false):PS X (.Assign [.Attribute o f pos'] value pos) (zTm X.K ta tv f):=by
 intro pins s σ H D I h
 refine plainObj_wpAny_Assign_Attribute (thn (hv pins s σ H _ I h) fun u s1 ⟨y,H1,I1,ry,q⟩=>thn (ha pins s1 σ H1 _ I1 q) fun ov s2 ⟨x,H2,I2,rx,a,C,ex,ea,c,q2⟩=>?_) hs
 subst ex
 obtain rfl:ov=Value.ref a:=rx
 exact zRg I2 ea c ry fun d s3 hd hn I3=>⟨σ,_,I3,q2 d hd hn⟩
section
variable {prog:Program}{w:World}{A:Around}{E:zE1}{h:Heap}{g:Array GenState}{d:Drawn}{t:Nat}{os:OsState}
variable {nm q:Str}{C N:Addr}{bs bm bmB:List Value}{hdct:Bool}{sn:List Str}{sub:List Value}{ab:Bool}{col:Option Bool}{dd:Option Addr}{k0 k1 k2 k3 k5:Option Value}{B newId initId:String}
theorem zKc (F:ExcBaseFacts B newId initId bmB)(T:OwnTail h bmB bm){mN:zT3}{rest:List Value}{fI:Addr}{oI:Obj}{Q:Fin->Shared->Prop}
  (hC:h.get? C=some (excClassObj nm q C N bs bm hdct sn sub ab col dd k0 k1 k2 k3 k5 newId))(hn:h.Ns N mN)(hi:mN "__init__"=some (.ref fI))(hfI:h.get? fI=some oI)(hfc:oI.cls=.type "function")
  (hq:∀h' e,Heap.MadeExcOf h h' e (.ref C) rest->wpAny (model prog w) A (call (.ref fI) (.ref e::rest)) (fun r s'=>r=.none/\Q (.done (.ret (.ref e))) s') E ⟨h',g,d,t,os⟩)(hrest:rest.length<=sizeLine):
  wpAny (model prog w) A (Builtin.«type.__call__» ⟨.ref C::rest,[]⟩) Q E ⟨h,g,d,t,os⟩:=by
 repeat (first|with_reducible refine wpAny_loadPart_at hC ?_|with_reducible refine wpAny_madeBy_exc hC ?_|wp_step)
 refine codeAny_call_builtin_code (Code.quiet_builtin _ F.quiet) (wpAny_check_new_subT F T hC ?_)
 refine codeAny_exc_new_subT F T hC ?_ hrest
 show wpAny _ _ _ _ _ _
 have up:∀b o,h.get? b=some o->((h.push { cls:=.type "tuple",data:=.seq rest.toArray }).push { cls:=.ref C,data:=.fields #[.ref h.objs.size,.none,.none,.none,.bool false,.none] }).get? b=some o:=fun b o e=>Heap.get?_push_of_some _ (Heap.get?_push_of_some _ e)
 have hC1:=up _ _ hC
 have hfI1:=up _ _ hfI
 have hn1:((h.push { cls:=.type "tuple",data:=.seq rest.toArray }).push { cls:=.ref C,data:=.fields #[.ref h.objs.size,.none,.none,.none,.bool false,.none] }).Ns N mN:=
  let ⟨o,es,ep,e,r⟩:=hn;⟨o,es,ep,up _ _ e,r⟩
 have hget:((h.push { cls:=.type "tuple",data:=.seq rest.toArray }).push { cls:=.ref C,data:=.fields #[.ref h.objs.size,.none,.none,.none,.bool false,.none] }).get? (h.objs.size+1)=some
   { cls:=.ref C,data:=.fields #[.ref h.objs.size,.none,.none,.none,.bool false,.none] }:=by heap_get
 have hcC:(Value.ref C::bm).contains (.ref C)=true:=by simp
 have T1:=T.keeps up
 unfold isInstance
 repeat (first|with_reducible refine wpAny_loadPart_at hget ?_|(with_reducible refine wpAny_isSubtype_exc hC1 ?_;rw[hcC])|wp_step)
 show wpAny _ _ (typeLookup (.ref C) _) _ _ _
 refine wpAny_typeLookup_tail hC1 hn1 T1 F.mroIs F.init.lookup ?_
 rw[hi]
 refine wpAny_holding (wpAny_bind ?_)
 unfold bindSpecial
 refine wpAny_bind (wpAny_typeOf (T:="function") ⟨_,hfI1,hfc⟩ ?_)
 rw[if_pos (by decide)]
 refine wpAny_pure (wpAny_bind (wpAny_mono (hq _ (h.objs.size+1) ⟨up,Heap.get?_none_of_le (Nat.le_succ _),h.objs.size,hget,Heap.get?_none_of_le (Nat.le_refl _),?_⟩) (fun r s' hr=>?_) fun _ _ x=>x))
 ·exact Heap.get?_push_of_some _ (Heap.get?_push_at rfl rfl)
 ·obtain⟨rfl,hQ⟩:=hr
  wp_walk
  exact hQ
theorem zMf (F:ExcBaseFacts B newId initId bmB)(T:OwnTail h bmB bm){mN:zT3}{rest:List Value}{fI:Addr}{oI:Obj}{Q:zE1}
  (hC:h.get? C=some (excClassObj nm q C N bs bm hdct sn sub ab col dd k0 k1 k2 k3 k5 newId))(hn:h.Ns N mN)(hi:mN "__init__"=some (.ref fI))(hfI:h.get? fI=some oI)(hfc:oI.cls=.type "function")
  (hq:∀h' e,Heap.MadeExcOf h h' e (.ref C) rest→
   wpAny (model prog w) (A.under (.builtin "type.__call__" ⟨.ref C::rest,[]⟩)) (call (.ref fI) (.ref e::rest)) (fun r s'=>r=.none/\Q (.ref e) s') E ⟨h',g,d,t,os⟩) (hrest:rest.length<=sizeLine):
  wpAny (model prog w) A (call (.ref C) rest) Q E ⟨h,g,d,t,os⟩:=by
 have f1:=tc_lookup
 have f2:=tc_bind (.ref C)
 have hT:(⟨h,g,d,t,os⟩:Shared).TypeIs (.ref C) "type":=⟨_,hC,rfl⟩
 refine wpAny_call (codeAny_of_tree ?_)
 show wpAny _ _ (callAny (.ref C) _) _ _ _
 repeat (any_goals (first|assumption|with_reducible refine wpAny_loadPart_at hC ?_|wp_step))
 refine⟨rfl,?_⟩
 refine codeAny_call_builtin_at (Code.quiet_builtin _ (by decide +kernel)) entry_typeCall (wpAny_check_type_call_sub hC (zKc F T hC hn hi hfI hfc (fun h' e hm=>?_) hrest))
 exact hq h' e hm
end
def zLc (K:W.Frag)(C fI:Addr):Bool:=match K.lookup C with
 |some ⟨.type "type",_,.cls cd,sl⟩=>(match cd.mro,sl.toList with
  |.ref C'::bm,[_,_,_,_,some (.builtin n),_]=>C'==C&&n=="ValueError.__new__"&&!cd.hasDel&&W.tailIn K bmV0 bm&&W.nsOkIn K cd.ns&&W.nsIn K cd.ns "__init__"==some (some (.ref fI))
  |_,_=>false)
 |_=>false
theorem zZh {K:W.Frag}{h:Heap}{N:Addr}{m:zT3}{n:Str}{v:Value}(X:K.In h)(G:h.Ns N m)(e:W.nsIn K N n=some (some v)):m n=some v:=by
 obtain⟨o,es,ep,ho,hd,_,hf⟩:=G
 unfold W.nsIn at e
 split at e
 ·rename_i c d es' n' sl q
  have:=X _ _ q
  rw[ho] at this
  cases this
  cases hd
  split at e
  ·rename_i en he
   cases e
   rw[<- hf]
   unfold nsFind findBy
   rw[<- Array.find?_toList,he]
   rfl
  ·split at e<;>cases e
 ·cases e
theorem zkl {K:W.Frag}{h:Heap}{C fI:Addr}(X:K.In h)(hq:zLc K C fI=true):
  ∃bm N nm q bs hdct sn sub ab col dd k0 k1 k2 k3 k5 mN,h.get? C=some (excClassObj nm q C N bs bm hdct sn sub ab col dd k0 k1 k2 k3 k5 "ValueError.__new__")/\h.Ns N mN/\mN "__init__"=some (.ref fI)/\OwnTail h bmV0 bm:=by
 unfold zLc at hq
 split at hq
 ·rename_i dd cd sl ho
  split at hq
  ·rename_i C' bm k0 k1 k2 k3 n k5 hm hs
   simp only[Bool.and_eq_true,beq_iff_eq,Bool.not_eq_true'] at hq
   obtain⟨⟨⟨⟨⟨e1,e2⟩,hdel⟩,ht⟩,hok⟩,hni⟩:=hq
   subst e1 e2
   obtain⟨nm,bs,mro,ns,qn,hd,sn,sub,ab,col,del⟩:=cd
   dsimp only at hm hdel hok hni
   subst hm hdel
   have hsl:sl=#[k0,k1,k2,k3,some (.builtin "ValueError.__new__"),k5]:=Array.toList_inj.mp hs
   subst hsl
   exact⟨bm,ns,nm,qn,bs,hd,sn,sub,ab,col,dd,k0,k1,k2,k3,k5,_,X _ _ ho,.of_isNs (W.isNs_of_in X hok),zZh X (.of_isNs (W.isNs_of_in X hok)) hni,W.tail_of_in X ht⟩
  ·cases hq
 ·cases hq
structure MkX (K:W.Frag)(C fI:Addr):Prop where
 ex:zLc K C fI=true
 fn:W.typeIn K (.ref fI)=some (.type "function")
 kp:W.keepIn K (.ref C)=true
section
variable {X:Cx}{CX:CXT}{k:Nat}{f C:Addr}{fd:FuncData}{ps:List Str}{sp:Sp}{dvs:List V}{ds:List Value}{E:XK}{x:Str}{p pos:Pos}{e:Expr}{es:List Expr}{t:TA}
theorem zSg {pins:zT2}{σ:St}{H:Hp}{s:Shared}{Q:VK}{us:List Value}{vs:List V}(M:MkX X.K C f)(F:FnOk X.prog X.w X.K X.mg X.base CX k f fd ps sp)(hr:Room (k+1) X.A)(hb:Binds X.K fd ps ds)(hd:Vals dvs ds)
  (hx:Passes CX X E)(I:Inv X pins σ H s)(r:Vals vs us)(hz:vs.length<=sizeLine)
  (h:∀a,H a=none->sp (.ref a::(vs++dvs)) (upd H a (.ext (zaa a C none))) (fun v H2=>v=.non/\Q (.ref a) H2) E):
  wpAny (model X.prog X.w) X.A (call (.ref C) us) (EP X pins σ Q) X.xe s:=by
 obtain⟨bm,N,nm,q,bs,hdct,sn,sub,ab,col,dd,k0,k1,k2,k3,k5,mN,hC,hN,hi,T⟩:=zkl I.kIn M.ex
 obtain⟨oI,hl,hfc⟩:=Option.map_eq_some_iff.mp (show(X.K.lookup f).map (·.cls)=some (.type "function") from M.fn)
 have hfI:=I.kIn _ _ hl
 obtain⟨hh,g,d,tk,os⟩:=s
 refine zMf PySem.F.excBase_ValueError T hC hN hi hfI hfc (fun h' a mk=>?_) (by rw[<- r.length];exact hz)
 obtain⟨tt,g1,g2,g3⟩:=mk.there
 have fresh:H a=none:=by
  cases q:H a with
  |none=>rfl
  |some o=>
   obtain⟨ob,z⟩:=(I.hok a o q).there
   have z':hh.get? a=some ob:=z
   rw[mk.new] at z'
   cases z'
 have upK:∀b o,H b=some o->upd H a (.ext (zaa a C none)) b=some o:=fun b o e=>(zy (zJ e fresh)).trans e
 have I2:Inv X pins σ (upd H a (.ext (zaa a C none))) ⟨h',g,d,tk,os⟩:=I.zno (t':=tk) (ch:=[]) I.fr0 (fun b z=>absurd z (by simp)) (fun b o _ _ z=>mk.keeps b o z) (fun b o _ z=>⟨o.slots,mk.keeps b o z⟩)
  (fun b o _ z n=>(zy fun z'=>by rw[z',mk.new] at z;cases z).trans n) (fun b xs z=>upK b _ z) (fun b o u z=>upK b _ z) (fun b ps z=>⟨#[],by rw[upK b _ z];simp⟩)
  (fun b o z=>by
   by_cases hb:b=a
   ·subst hb
    rw[zc] at z
    cases z
    exact⟨⟨_,_,g1,rfl,rfl,rfl,rfl⟩,⟨_,g1⟩,fun k1 k2 ⟨o,v,e1,r⟩ k=>⟨o,v,k _ e1,r⟩⟩
   ·rw[zy hb] at z
    exact(I.hok b o z).zto (fun c u _ hc=>mk.keeps c u hc) (fun c z=>upK c _ z) fun c xs z=>upK c _ z)
 have hq:=h a fresh
 have r2:Vals (V.ref a::(vs++dvs)) (Value.ref a::(us++ds)):=.cons rfl (r.append hd)
 have hl2:(Value.ref a::us++ds).length=ps.length:=by
  have e:=r2.length
  rw[F.len _ _ _ _ hq] at e
  exact e.symm
 refine wpAny_call (codeAny_mono (F.run _ X.stack _ _ ⟨Value.ref a::us,[]⟩ (Value.ref a::(us++ds)) _ _ E (hr.make C us []) (I2.zyo.make C us []) (hb _ (Value.ref a::us) I2.kIn hl2) r2 hq) fun r s' hq'=>?_)
 cases r with
 |error e=>exact hx pins σ _ _ e s' I2 hq'
 |ok fl=>
  cases fl with
  |ret u=>
   obtain⟨v,H',I3,rv,ev,q3⟩:=I2.after hq'
   subst ev
   exact⟨rv,⟨V.ref a,H',I3,rfl,q3⟩⟩
  |next=>exact False.elim hq'
  |brk=>exact False.elim hq'
  |cont=>exact False.elim hq'
def zll (C:Addr)(sp:Sp)(dvs:List V)(E:XK)(t:TA):TE:=fun σ H Q=>t σ H fun vs H1=>vs.length<=sizeLine/\∀a,H1 a=none->sp (.ref a::(vs++dvs)) (upd H1 a (.ext (zaa a C none))) (fun v H2=>v=.non/\Q (.ref a) H2) E
theorem zXb (M:MkX X.K C f)(F:FnOk X.prog X.w X.K X.mg X.base CX k f fd ps sp)(hr:Room (k+1) X.A)(hg:Gl X x)(hm:X.mg x=some (.ref C))(hb:Binds X.K fd ps ds)(hd:Vals dvs ds)(hx:Passes CX X E)
  (ha:PA X (e::es) t)(hdb:(x==("__debug__":Str))=false:=by decide)(he:starEach (e::es) X.env=(false,eval e X.env)::starEach es X.env:=by rfl)(hpl:(backTo pos (starEach es X.env)).any (·.1)=false:=by rfl):
  PE X (.Call (.Name x p) (e::es) [] pos) (zll C sp dvs E t):=by
 intro pins s σ H Q I h
 refine wpAny_Call_Name_kw (zib I hg hm ?_ hdb)
 refine W.callWith_K (h₀:=X.base) I.ok.mod.kin M.kp (thn (ha pos pins s σ H _ I h) fun us s1 ⟨vs,H1,I1,r,z,q⟩=>⟨I1.kIn,?_⟩) he hpl
 exact zSg M F hr hb hd hx I1 r z q
end
def untr (H:Hp)(a:Addr):Hp:=fun b=>if b=a then none else H b
theorem zoe {H:Hp}{a:Addr}:untr H a a=none:=if_pos rfl
theorem zVa {H:Hp}{a b:Addr}(h:b≠a):untr H a b=H b:=if_neg h
def zcb (K:W.Frag)(C:Addr):Bool:=W.mroIn K C (.type "BaseException")==some true&&W.typeIn K (.ref C)==some (.type "type")
def zTg (X:Cx)(EX:Addr->Option Addr->Hp->Prop):Prop:=∀(pins:zT2)(σ:St)(H:Hp)(s:Shared)(a C:Addr)(dd:Option Addr),Inv X pins σ H s->H a=some (.ext (zaa a C dd))->X.H₀ a=none->EX C dd (untr H a)->X.xe (.ref a) s
def zml (K:W.Frag)(H0:Hp)(te:TE)(EX:Addr->Option Addr->Hp->Prop):TS:=fun _ σ H=>te σ H fun v H'=>∃a C dd,v=.ref a/\H' a=some (.ext (zaa a C dd))/\H0 a=none/\zcb K C=true/\EX C dd (untr H' a)
theorem zrb {X:Cx}{ex:Expr}{te:TE}{pos:Pos}{EX:Addr->Option Addr->Hp->Prop}(hc:X.calm=true)(ht:zTg X EX)(he:PE X ex te):PS X (.Raise (some ex) none pos) (zml X.K X.H₀ te EX):=by
 intro pins s σ H D I h
 rw[arm_exec_Raise]
 refine wpAny_bind (wpAny_standAt ?_)
 unfold raiseStmt
 show wpAny _ _ ((do let v ← eval ex X.env;standAt pos;pure v) >>= _) _ _ _
 refine wpAny_bind (wpAny_bind (thn (he pins s σ H _ I h) fun u s1 ⟨v,H1,I1,rv,a,C,dd,ev,ha,h0,hz,hE⟩=>?_))
 subst ev
 obtain rfl:u=Value.ref a:=rv
 refine wpAny_bind (wpAny_standAt (wpAny_pure ?_))
 obtain⟨oe,vs,ge,ce,de,da,v1⟩:=(show zqa X.prog X.w H1 s1.heap a (.ext (zaa a C dd)) from I1.hok a _ ha).1
 unfold zcb at hz
 rw[Bool.and_eq_true] at hz
 have hd:=I.ok.hd hc
 have KX:=I1.kIn
 have hT:=ht pins σ H1 s1 a C dd I1 ha h0 hE
 obtain⟨hh,g,d,t,os⟩:=s1
 have L0:W.Looks (model X.prog X.w) hh (typeOf (.ref a)) (.ref C):=ce▸(W.Looks.ld ge).andThen .now
 have L1:=W.looks_mroIn (M:=model X.prog X.w) KX (beq_iff_eq.mp hz.1)
 have L2':=W.looks_typeIn (M:=model X.prog X.w) KX (beq_iff_eq.mp hz.2)
 have LI:W.Looks (model X.prog X.w) hh (isInstance (.ref a) (.type "BaseException")) true:=L0.andThen L1
 have LT:W.Looks (model X.prog X.w) hh (isType (.ref a)) false:=by
  intro A' Q' E' s' k q
  unfold isType loadHead
  refine wpAny_bind (wpAny_loadPart (k _ _ ge) (wpAny_pure ?_))
  rw[da]
  exact q
 have LX:W.Looks (model X.prog X.w) hh (isExcClass (.ref a)) false:=LT.andThen (by simp only[Bool.false_eq_true,if_false];exact .now)
 have LF:∀c,W.Looks (model X.prog X.w) hh (excFromValue (.ref a) c) (.ref a):=fun c=>LX.andThen (by simp only[Bool.false_eq_true,if_false];exact LI.andThen (by simp only[if_true];exact .now))
 have LR:W.Looks (model X.prog X.w) hh (raisedInstance (.ref a)) (.ref a):=L0.andThen (L2'.andThen (by rw[if_pos (by decide)];exact .now))
 refine wpAny_bind (wpAny_pure ?_)
 refine wpAny_bind (wpAny_holding ((LF _).at ?_))
 refine wpAny_bind (LT.at ?_)
 simp only[Bool.false_eq_true,if_false]
 refine wpAny_bind (LR.at ?_)
 refine wpAny_bind ?_
 unfold setFlight
 refine wpAny_bind (wpAny_field ge da v1 ?_)
 rw[if_neg (by decide)]
 exact wpAny_pure (wpAny_raiseNew_none hd hT)
theorem zYa {P:Program}{w:World}{K:W.Frag}{mg:zT3}{base:Heap}{N:List Str}{qual:Str}{scope:Scope}{f:Addr}{cd:Value}{A:Around}{outer:List Env}{s:Shared}{H:Hp}{E:XK}:
  zTg (cxOf (CX1 P w) P w K mg base N qual scope f cd A outer s H E) (fun C dd H'=>E (.ref C) dd H'):=by
 intro pins σ H1 s1 a C dd I ha h0 hE
 obtain⟨oe,vs,ge,ce,de,da,v1⟩:=(show zqa P w H1 s1.heap a (.ext (zaa a C dd)) from I.hok a _ ha).1
 have fr:(A.deeper (envOfC qual scope s.heap.objs.size f cd)).frames=some (envOfC qual scope s.heap.objs.size f cd::outer):=I.ok.frames
 have fE:∀b∈(envOfC qual scope s.heap.objs.size f cd::outer).filterMap (·.frame),H1 b=none:=I.zco
 have newA:s.heap.get? a=none:=by
  cases q:s.heap.get? a with
  |none=>rfl
  |some o=>
   have z:=I.base.free a o q h0 (by show a∉([]:List Addr);simp)
   rw[ha] at z
   cases z
 have old1:∀b,s1.heap.get? b=none->s.heap.get? b=none:=fun b hb=>by
  cases q:s.heap.get? b with
  |none=>rfl
  |some o=>
   obtain⟨o',z⟩:=I.base.there b o q (by show b∉([]:List Addr);simp)
   rw[hb] at z
   cases z
 have unt:∀b,s1.heap.get? b=none->H1 b=none:=fun b hb=>by
  cases q:H1 b with
  |none=>rfl
  |some o=>
   obtain⟨ob,z⟩:=(I.hok b o q).there
   rw[hb] at z
   cases z
 refine zDe (s:=s1) fr I.stack rfl ge da v1 fun h'' T lb=>?_
 have na:∀b o,s.heap.get? b=some o->b≠a:=fun b o hb z=>by
  rw[z,newA] at hb
  cases hb
 have nL:∀b o,s.heap.get? b=some o->b∉frs outer->b∉(envOfC qual scope s.heap.objs.size f cd::outer).filterMap (·.frame):=fun b o hb hf hm=>by
  rcases List.mem_cons.mp (show b∈s.heap.objs.size::frs outer from hm) with z|z
  ·exact absurd (Heap.lt_size hb) (by rw[z];exact Nat.lt_irrefl _)
  ·exact hf z
 have nx:∀{b:Addr}{o:HO},H1 b=some o->(∀φ,o≠.ext φ)->untr H1 a b=some o:=fun {b o} e n=>(zVa fun z=>by
  rw[z,ha] at e
  cases e
  exact n _ rfl).trans e
 refine⟨a,C,dd,untr H1 a,rfl,I.os,I.bare,⟨fun b o hb hn hf hx=>?_,fun b o hb hn hf hx=>?_,fun b o hb hn hx=>?_,fun b o hb hx=>?_,fun b xs e=>nx (I.base.tups b xs e) fun _ z=>(by cases z),fun b o u e=>nx (I.base.frzs b o u e) fun _ z=>(by cases z),fun b ps e=>?_⟩,fun b o hb=>?_,⟨newA,zoe,?_⟩,hE⟩
 ·have q:=I.base.keep b o hb hn hf hx
  exact lb.keep b o (na b o hb) (nL b o hb hf) q
 ·obtain⟨sl,q⟩:=I.base.slot b o hb hn hf hx
  obtain⟨sl2,q2⟩:=lb.slot b _ (na b o hb) q
  exact⟨sl2,q2⟩
 ·rw[zVa (na b o hb)]
  exact I.base.free b o hb hn hx
 ·obtain⟨o',q⟩:=I.base.there b o hb hx
  obtain⟨sl,q2⟩:=lb.slot b o' (na b o hb) q
  exact⟨_,q2⟩
 ·obtain⟨more,q⟩:=I.base.tbls b ps e
  exact⟨more,nx q fun _ z=>by cases z⟩
 ·by_cases hba:b=a
  ·rw[hba,zoe] at hb
   cases hb
  ·rw[zVa hba] at hb
   refine(I.hok b o hb).zto (fun c u z hc=>?_) (fun c z=>nx z fun _ z=>by cases z) fun c xs z=>nx z fun _ z=>by cases z
   have hca:c≠a:=fun q=>by
    rcases z with z|z
    ·exact hba (z.symm.trans q)
    ·rw[q,ha] at z
     cases z
   refine lb.keep c u hca (fun hm=>?_) hc
   have:=fE c hm
   rcases z with z|z
   ·rw[z,hb] at this
    cases this
   ·rw[z] at this
    cases this
 ·obtain⟨oe',q1,q2,q3,q4⟩:=lb.exc _ _ ge da
  obtain⟨oT,ts,t1,t2,t3⟩:=lb.tr
  have hTa:T≠a:=fun z=>by
   have:=lb.new
   rw[z,ge] at this
   cases this
  refine⟨oe',_,T,oT,ts,q1,q2.trans ce,q3.trans de,q4,?_,hTa,old1 T lb.new,(zVa hTa).trans (unt T lb.new),t1,t2,t3⟩
  have:=(Array.getElem?_eq_some_iff.mp v1).1
  simp[this]
def zIb (K:W.Frag)(C:Addr)(f:Str):Bool:=W.findIn K (.ref C) "__getattribute__"==some (some (.builtin "BaseException.__getattribute__"))&&W.findIn K (.ref C) "__getattr__"==some none
 &&W.findIn K (.ref C) f==some none&&W.hasDictIn K C&&W.mroIn K C (.type "BaseException")==some true
section
variable {prog:Program}{w:World}{A:Around}{E:zE1}{s:Shared}{K:W.Frag}{a C:Addr}{ox od:Obj}{f:Str}{v:Value}
theorem zai {tk:Tok}{P:zE1}(L0:W.Looks (model prog w) s.heap (typeOf (.ref a)) (.ref C))(L3:W.Looks (model prog w) s.heap (Builtin.ObjectAttr.find (.ref a) (.ref C) f) (.value v))(h:P v s):
  wpAny (model prog w) A (Builtin.«object.__getattribute__» ⟨[.ref a,.str f tk],[]⟩) (fun fin s'=>match fin with | .done (.ret v)=>P v s'|_=>False) E s:=by
 obtain⟨hh,gg,d,t,os⟩:=s
 unfold Builtin.«object.__getattribute__»
 refine wpAny_bind (wpAny_pure (a:=(Value.ref a,[Value.str f tk])) ?_)
 refine wpAny_bind (wpAny_pure (a:=f) ?_)
 refine wpAny_bind (L0.at (wpAny_bind (L3.at ?_)))
 exact wpAny_pure h
theorem zbi {expr:Bool}{Q:zE1}(hq:zIb K C f=true)(X:K.In s.heap)(I:W.InstAt s.heap a ox C (some od))(hl:W.lookIn f od=some (some v))(hv:W.handedIn v=true)(h:Q v { s with toks:=s.toks+1 }):wpAny (model prog w) A (getAttr (.ref a) f expr) Q E s:=by
 unfold zIb at hq
 simp only[Bool.and_eq_true,beq_iff_eq] at hq
 obtain⟨⟨⟨⟨h1,h2⟩,h3⟩,h4⟩,h7⟩:=hq
 obtain⟨hh,g,d,t,os⟩:=s
 have L0:=I.type (M:=model prog w)
 have L1:=W.looks_findIn (M:=model prog w) X h1
 have L2:=W.looks_findIn (M:=model prog w) X h2
 have L3:=W.looks_find (M:=model prog w) X I (W.findObj_own h4 h3 rfl hl)
 have L4:=W.looks_mroIn (M:=model prog w) X h7
 have LI:W.Looks (model prog w) hh (isInstance (.ref a) (.type "BaseException")) true:=L0.andThen L4
 have f3:=F.attr_ValueError.ga.bind (.ref a)
 have hx2:(Value.builtin "BaseException.__getattribute__"==Value.builtin "object.__getattribute__")=false:=by decide +kernel
 unfold getAttr getAttrBy
 refine wpAny_bind (wpAny_mkText (wpAny_holding (wpAny_bind (L0.at (wpAny_bind (L1.at ?_))))))
 simp only[hx2,Bool.and_false,Bool.false_eq_true,if_false]
 unfold getAttrByItsOwn hookBefore
 simp only[onTheHeap,if_true]
 refine wpAny_bind (L2.at ?_)
 refine wpAny_bind (wpAny_attempt (wpAny_holding ?_))
 unfold callGetattribute boundAndCalled
 have hx0:(expr&&onTheHeap (Value.builtin "BaseException.__getattribute__"))=false:=by cases expr<;>rfl
 rw[if_neg (by rw[hx0];decide),f3]
 refine wpAny_bind (wpAny_pure ?_)
 refine wpAny_call (codeAny_call_builtin F.attr_ValueError.ga.plain F.entry_bexc_ga (zif (s:=⟨hh,g,d,t+1,os⟩) LI ?_))
 refine wpAny_mono (zai (s:=⟨hh,g,d,t+1,os⟩) (P:=fun u s'=>u=v/\s'=⟨hh,g,d,t+1,os⟩) (E:=fun _ _=>False) L0 L3 ⟨rfl,rfl⟩) (fun fin s' z=>?_) fun _ _ z=>z.elim
 rcases fin with(_|_|_|_)|_<;>first|(obtain⟨rfl,rfl⟩:=z;exact W.handed_on hv h)|exact z.elim
end
def zUm (K:W.Frag)(ta:TE)(f:Str):TE:=fun σ H Q=>ta σ H fun x H1=>∃a C d fs v,x=.ref a/\H1 a=some (.ext (ExcAt a C (some d)))/\H1 d=some (.xd fs)/\fs.lookup f=some v/\zIb K C f=true/\Q v H1
theorem zEe {X:Cx}{e:Expr}{f:Str}{ta:TE}{pos:Pos}(he:PE X e ta)(hb:attributeBase e f X.env (eval e X.env)=eval e X.env):PE X (.Attribute e f pos) (zUm X.K ta f):=by
 intro pins s σ H Q I h
 refine zgg hb (thn (he pins s σ H _ I h) fun u s1 ⟨x,H1,I1,rx,a,C,d,fs,v,ex,ea,ed,l,hq,q⟩=>?_)
 subst ex
 obtain rfl:u=Value.ref a:=rx
 obtain⟨oe,vs,ge,ce,de,da⟩:=(show zqa X.prog X.w H1 s1.heap a (.ext (ExcAt a C (some d))) from I1.hok a _ ea).1
 obtain⟨mA,n,r⟩:=(show zqa X.prog X.w H1 s1.heap d (.xd fs) from I1.hok d _ ed)
 obtain⟨od,ho,hl⟩:=zXd n
 obtain⟨u,hu,ru⟩:=RelO.some_of (v:=v) (o:=mA f) (by rw[<- l];exact r f)
 have J:W.InstAt s1.heap a oe C (some od):=⟨ge,ce,by unfold W.notCls;rw[da],by rw[de];exact ho⟩
 exact zbi hq I1.kIn J (by rw[hl,hu]) (handed_of ru) ⟨v,H1,I1.tok _,ru,q⟩
def zVm (a C:Addr)(dd:Option Addr)(h:Heap):Prop:=ExcAt a C dd h/\∀d,dd=some d->∃o,h.get? d=some o
theorem zUg {K:W.Frag}{a C:Addr}{dd:Option Addr}(hq:zgb K C=true):W.KitX K (.ref a) (.ref C) (zVm a C dd) where
 ty:=fun _ _ _ ⟨⟨oe,vs,ge,ce,_,_⟩,_⟩=>ce▸(W.Looks.ld ge).andThen .now
 it:=fun M h X _=>by
  unfold zgb at hq
  simp only[Bool.and_eq_true,beq_iff_eq] at hq
  have hcD:=hq.2
  unfold W.clsIn at hcD
  split at hcD
  ·rename_i c' d' cd' sl' ho
   intro A' Q' E' s' k q
   unfold isType loadHead
   exact wpAny_bind (wpAny_loadPart (k _ _ (X _ _ ho)) (wpAny_pure q))
  ·cases hcD
 ne:=fun h tp dd its n sl X htp=>by
  unfold zgb at hq
  simp only[Bool.and_eq_true,beq_iff_eq] at hq
  have hcD:=hq.2
  refine Bool.eq_false_iff.mpr fun q=>?_
  have e:C=tp:=Value.ref.inj (beq_iff_eq.mp q)
  subst e
  unfold W.clsIn at hcD
  split at hcD
  ·rename_i c' d' cd' sl' ho
   have z:=(X _ _ ho).symm.trans htp
   cases z
  ·cases hcD
 ca:=fun {_ _ _ _ _ s} X ⟨⟨oe,vs,ge,ce,de,da⟩,hd⟩ k=>by
  cases dd with
  |none=>exact zne hq X (ox:=oe) (od:=none) ⟨ge,ce,by unfold W.notCls;rw[da],by rw[de];trivial⟩ k
  |some d=>
   obtain⟨o,ho⟩:=hd d rfl
   exact zne hq X (ox:=oe) (od:=some o) ⟨ge,ce,by unfold W.notCls;rw[da],by rw[de];exact ho⟩ k
def zWm (K:W.Frag):List V->Hp->VK->Prop:=fun xs H Q=>∃a c C dd b,xs=[.ref a,c]/\H a=some (.ext (ExcAt a C dd))/\(∀d,dd=some d->∃o,H d=some o)/\zgb K C=true/\W.kitOne K (.ref C) (clsV c)=some b/\Q (.bl b) H
theorem zYb {X:Cx}:zSb X (.builtin "isinstance") (zWm X.K):=by
 intro pins s σ H xs us Q I r h
 obtain⟨a,c,C,dd,b,rfl,ha,hd,hq,e,q⟩:=h
 obtain⟨u,v,rfl,rx,ry⟩:=r.two
 cases(show u=Value.ref a from rx)
 have x:ExcAt a C dd s.heap:=(show zqa X.prog X.w H s.heap a (.ext (ExcAt a C dd)) from I.hok a _ ha).1
 have hv:W.kitOne X.K (.ref C) v=some b:=by
  cases c with
  |ref D=>cases(show v=Value.ref D from ry);exact e
  |ty T=>cases(show v=Value.type T from ry);exact e
  |_=>simp[clsV,W.kitOne,W.kitCls] at e
 exact W.kia_one (zUg (dd:=dd) hq) I.kIn ⟨x,fun d z=>by
  obtain⟨o,ho⟩:=hd d z
  exact(I.hok d o ho).there⟩ hv (fun z=>nomatch z) fun tk=>⟨.bl b,H,I.tok tk,rfl,q⟩
structure Held (X:Cx)(pins:zT2)(σ:St)(H:Hp)(s:Shared)(a C:Addr)(dd:Option Addr):Prop where
 inv:Inv X pins σ H s
 at_:H a=some (.ext (ExcAt a C dd))
 tr:∃(h0:Heap)(T:Addr)(oe oT:Obj)(vs ts:Array Value),Fr0 X pins h0/\h0.get? T=none/\H T=none/\s.heap.get? a=some oe/\oe.data=.fields vs/\vs[1]?=some (.ref T)/\s.heap.get? T=some oT/\oT.data=.fields ts/\ts[3]?=some .none
abbrev TH:=Addr->Ends->St->Addr->Option Addr->Hp->Prop
def PH (X:Cx)(hs:List ExceptHandler)(T:TH):Prop:=∀(pins:zT2)(s:Shared)(σ:St)(H:Hp)(D:Ends)(a C:Addr)(dd:Option Addr),Held X pins σ H s a C dd->T a D σ C dd H->wpAny (model X.prog X.w) X.A (handleBy (.ref a) X.env hs) (SP X pins D) X.xe s
def zzd (K:W.Frag)(C:Addr)(D:Value):Bool:=W.kitCls K (.ref C) D==some false&&W.subIn K D (.type "BaseException")==some true
theorem zpe {s:Shared}{a:Addr}{A:Around}{E:zE1}{K:W.Frag}{prog:Program}{w:World}{C:Addr}{dd:Option Addr}{D:Value}{Q:Bool->Shared->Prop}(X:K.In s.heap)(x:ExcAt a C dd s.heap)(hq:zzd K C D=true)(k:Q false s):
  wpAny (model prog w) A (excMatches (.ref a) D) Q E s:=by
 obtain⟨h,g,d,t,os⟩:=s
 obtain⟨oe,vs,ge,ce,_,_⟩:=x
 unfold zzd at hq
 rw[Bool.and_eq_true] at hq
 obtain⟨h1,h2⟩:=hq
 obtain⟨L3,L5,L1⟩:=W.kit_cls (M:=model prog w) X (beq_iff_eq.mp h1)
 have L2:=W.looks_subIn (M:=model prog w) X (beq_iff_eq.mp h2)
 have L4:W.Looks (model prog w) h (typeOf (.ref a)) (.ref C):=ce▸(W.Looks.ld ge).andThen .now
 have L0:W.Looks (model prog w) h (isSubtype (.type "type") (.type "tuple")) false:=W.Looks.of_pure tc_notTuple
 have LI:W.Looks (model prog w) h (isInstance D (.type "tuple")) false:=L3.andThen L0
 have LX:W.Looks (model prog w) h (isExcClass D) true:=L5.andThen (by simpa using L2)
 unfold excMatches
 refine wpAny_bind (LI.at ?_)
 simp only[Bool.false_eq_true,if_false]
 refine wpAny_bind (wpAny_pure ?_)
 simp only[List.forIn_cons,List.forIn_nil]
 refine wpAny_bind (wpAny_bind (wpAny_bind (LX.at ?_)))
 simp only[Bool.not_true,Bool.false_eq_true,if_false]
 refine wpAny_pure (wpAny_pure ?_)
 refine wpAny_bind (L4.at ?_)
 refine wpAny_bind (wpAny_bind (wpAny_bind (L1.at ?_)))
 simp only[Bool.false_eq_true,if_false]
 refine wpAny_pure (wpAny_pure ?_)
 exact wpAny_pure k
theorem Held.exc {X:Cx}{pins:zT2}{σ:St}{H:Hp}{s:Shared}{a C:Addr}{dd:Option Addr}(h:Held X pins σ H s a C dd):ExcAt a C dd s.heap:=(show zqa X.prog X.w H s.heap a (.ext (ExcAt a C dd)) from h.inv.hok a _ h.at_).1
theorem Held.fly {X:Cx}{pins:zT2}{σ:St}{H:Hp}{s:Shared}{a C:Addr}{dd:Option Addr}{A:Around}{M:Model}{E:zE1}{Q:Unit->Shared->Prop}(h:Held X pins σ H s a C dd)(q:∀h',Inv X pins σ H { s with heap:=h' }->Q () { s with heap:=h' }):wpAny M A (setFlight (.ref a) none) Q E s:=by
 obtain⟨h0,T,oe,oT,vs,ts,f0,nT,uT,ge,de,v1,gT,dT,t3⟩:=h.tr
 refine zil ge de v1 gT dT t3 fun h'' k1 k2=>q h'' (h.inv.zno (t':=s.toks) (ch:=[T]) f0 (fun b hb=>by rw[List.mem_singleton.mp hb];exact⟨nT,oT,ts,gT,dT⟩)
  (fun b o hb _ e=>(k1 b fun z=>hb (by simp[z])).trans e) (fun b o hb e=>⟨o.slots,(k1 b fun z=>hb (by simp[z])).trans e⟩) (fun b o _ _ z=>z) (fun _ _ z=>z) (fun _ _ _ z=>z) (fun b ps e=>⟨#[],by rw[e];simp⟩)
  (fun b o e=>by
   refine(h.inv.hok b o e).zto (fun c u z hc=>(k1 c fun q=>?_).trans hc) (fun _ z=>z) fun _ _ z=>z
   subst q
   rcases z with z|z
   ·rw[z,e] at uT
    cases uT
   ·rw[z] at uT
    cases uT))
def hAs (K:W.Frag)(i:Nat)(C':Value)(th:Addr->TS)(T:TH):TH:=fun a D σ C dd H=>(zqb K C C'=true/\th a { nx:=fun σ'' H''=>D.nx (σ''.set i none) H'',rt:=D.rt,bk:=fun σ'' H''=>D.bk (σ''.set i none) H'',ct:=fun σ'' H''=>D.ct (σ''.set i none) H'' } (σ.set i (some (.ref a))) H)\/(zzd K C C'=true/\T a D σ C dd H)
def hNo (K:W.Frag)(C':Value)(th:Addr->TS)(T:TH):TH:=fun a D σ C dd H=>(zqb K C C'=true/\th a D σ H)\/(zzd K C C'=true/\T a D σ C dd H)
theorem zaj {X:Cx}:PH X [] (fun _ _ _ _ _ _=>False):=fun _ _ _ _ _ _ _ _ _ h=>h.elim
theorem zXm {X:Cx}{i:Nat}{x n:Str}{C':Value}{suite:List Stmt}{b₀:Stmt}{th:Addr->TS}{np hpos:Pos}{hs:List ExceptHandler}{T:TH}(hN:X.N.Nodup)(hi:X.N[i]?=some n)(hk:X.env.scope.names.lookup n=some .local)(hm:Means X x C')
  (hsu:∀a,PSs (X.hand a) (b₀::suite) (th a))(hr:PH X hs T):PH X (.ExceptHandler (some (.Name x np)) (some n) (b₀::suite) hpos::hs) (hAs X.K i C' th T):=by
 intro pins s σ H D a C dd h ht
 refine wpAny_handleBy_cons (codeAny_handlers_test ?_) (by intro q;cases q)
 rcases ht with⟨tk,ht⟩|⟨tk,ht⟩
 ·refine ztc (X:=X.hand a) (h.inv.hand a) hm (zhf h.inv.kIn h.exc tk (codeAny_handlers_suite_as ?_))
  refine h.fly fun h'' J3=>?_
  refine zhd (X:=X.hand a) (J3.hand a) hN hi (.inl hk) (v:=.ref a) rfl (fun s4 J4=>?_) (.inr hk)
  refine wpAny_mono (hsu a pins s4 _ _ _ J4 ht) (fun f s5 q=>?_) fun _ _ z=>z.elim
  cases f with
  |next=>obtain⟨σ5,H5,J5,q5⟩:=q;exact zxd (J5.zko h.inv.ok) hN hi hk fun s6 J6=>⟨_,_,J6,q5⟩
  |brk=>obtain⟨σ5,H5,J5,q5⟩:=q;exact zxd (J5.zko h.inv.ok) hN hi hk fun s6 J6=>⟨_,_,J6,q5⟩
  |cont=>obtain⟨σ5,H5,J5,q5⟩:=q;exact zxd (J5.zko h.inv.ok) hN hi hk fun s6 J6=>⟨_,_,J6,q5⟩
  |ret u=>obtain⟨v,σ5,H5,J5,r5,q5⟩:=q;exact zxd (J5.zko h.inv.ok) hN hi hk fun s6 J6=>⟨v,_,_,J6,r5,q5⟩
 ·exact ztc (X:=X.hand a) (h.inv.hand a) hm (zpe h.inv.kIn h.exc tk (hr pins s σ H D a C dd h ht))
theorem zYm {X:Cx}{x:Str}{C':Value}{suite:List Stmt}{b₀:Stmt}{th:Addr->TS}{np hpos:Pos}{hs:List ExceptHandler}{T:TH}(hm:Means X x C')
  (hsu:∀a,PSs (X.hand a) (b₀::suite) (th a))(hr:PH X hs T):PH X (.ExceptHandler (some (.Name x np)) none (b₀::suite) hpos::hs) (hNo X.K C' th T):=by
 intro pins s σ H D a C dd h ht
 refine wpAny_handleBy_cons (codeAny_handlers_test ?_) (by intro q;cases q)
 rcases ht with⟨tk,ht⟩|⟨tk,ht⟩
 ·refine ztc (X:=X.hand a) (h.inv.hand a) hm (zhf h.inv.kIn h.exc tk (codeAny_handlers_suite ?_))
  refine h.fly fun h'' J3=>?_
  refine wpAny_mono (hsu a pins _ _ _ _ (J3.hand a) ht) (fun f s5 q=>?_) fun _ _ z=>z.elim
  cases f with
  |next=>obtain⟨σ5,H5,J5,q5⟩:=q;exact⟨_,_,J5.zko h.inv.ok,q5⟩
  |brk=>obtain⟨σ5,H5,J5,q5⟩:=q;exact⟨_,_,J5.zko h.inv.ok,q5⟩
  |cont=>obtain⟨σ5,H5,J5,q5⟩:=q;exact⟨_,_,J5.zko h.inv.ok,q5⟩
  |ret u=>obtain⟨v,σ5,H5,J5,r5,q5⟩:=q;exact⟨v,_,_,J5.zko h.inv.ok,r5,q5⟩
 ·exact ztc (X:=X.hand a) (h.inv.hand a) hm (zpe h.inv.kIn h.exc tk (hr pins s σ H D a C dd h ht))
def zZm (tb:TSX)(T:TH):TS:=fun D σ H=>tb D σ H fun σ' C dd H'=>∀a,H' a=none->T a D σ' C dd (upd H' a (.ext (ExcAt a C dd)))
theorem zVg {X:Cx}{body:List Stmt}{h₀:ExceptHandler}{hs:List ExceptHandler}{tb:TSX}{T:TH}{pos:Pos}(hst:X.stack=X.env::X.outer/\X.env.frame=some X.env.locals)(hb:PSsX X body tb)(hh:PH X (h₀::hs) T):
  PS X (.Try body (h₀::hs) [] [] pos) (zZm tb T):=by
 intro pins s σ H D I h
 refine wpAny_Try_except (wpAny_mono (hb pins s σ H D _ I h) (fun f s1 q=>?_) fun e s1 q=>?_)
 ·cases f with
  |next=>exact wpAny_execs_nil q
  |brk=>exact q
  |cont=>exact q
  |ret u=>exact q
 ·obtain⟨h0,a,C,dd,σ',H',rfl,J,⟨n1,n2,oe,vs,T0,oT,ts,g1,g2,gd,g3,g4,g5,g6,g7,g8,g9,g10⟩,fr0,ht⟩:=q
  refine zPg (base:=X.base) (outer:=X.outer) (by rw[J.ok.frames,hst.1]) (by rw[<- hst.1];exact J.stack) hst.2 g1 g3 g4 g8 g9 g10 g5 fun h1 h' T o1 o2 lb=>?_
  rw[<- hst.1] at lb
  have hTT:T≠T0:=fun z=>by
   obtain⟨o,q⟩:=o2
   rw[<- z,lb.new] at q
   cases q
  have hT:s1.heap.get? T=none:=(o1 T hTT).symm.trans lb.new
  have hTa:T≠a:=fun z=>by
   rw[z,g1] at hT
   cases hT
  have uT:H' T=none:=by
   cases q:H' T with
   |none=>rfl
   |some o=>
    obtain⟨ob,z⟩:=(J.hok T o q).there
    rw[hT] at z
    cases z
  obtain⟨oe',q1,q2,q3,q4⟩:=lb.exc oe vs ((o1 a (Ne.symm g5)).trans g1) g3
  obtain⟨oT',ts',t1,t2,t3⟩:=lb.tr
  have x2:ExcAt a C dd h':=⟨oe',_,q1,q2.trans g2,q3.trans gd,q4⟩
  have hne:∀{b:Addr}{o:HO},H' b=some o->b≠a:=fun {b o} e z=>by
   rw[z,n2] at e
   cases e
  have hne0:∀{b:Addr}{o:HO},H' b=some o->b≠T0:=fun {b o} e z=>by
   rw[z,g7] at e
   cases e
  have upK:∀b o,H' b=some o->upd H' a (.ext (ExcAt a C dd)) b=some o:=fun b o e=>(zy (hne e)).trans e
  have J2:Inv X pins σ' (upd H' a (.ext (ExcAt a C dd))) { s1 with heap:=h' }:=J.zno (t':=s1.toks) (ch:=[a,T0]) fr0
   (fun b hb=>by
    rcases List.mem_cons.mp hb with z|z
    ·rw[z];exact⟨n1,oe,vs,g1,g3⟩
    ·rw[List.mem_singleton.mp z];exact⟨g6,oT,ts,g8,g9⟩)
   (fun b o hb hf e=>lb.keep b o (fun z=>hb (by simp[z])) hf ((o1 b fun z=>hb (by simp[z])).trans e))
   (fun b o hb e=>lb.slot b o (fun z=>hb (by simp[z])) ((o1 b fun z=>hb (by simp[z])).trans e))
   (fun b o hb e z=>(zy fun z=>hb (by simp[z])).trans z) (fun b xs e=>upK b _ e) (fun b o u e=>upK b _ e) (fun b ps e=>⟨#[],by rw[upK b _ e];simp⟩)
   (fun b o e=>by
    by_cases hb:b=a
    ·subst hb
     rw[zc] at e
     cases e
     exact⟨x2,⟨_,q1⟩,fun k1 k2 ⟨o,v,e1,r⟩ k=>⟨o,v,k _ e1,r⟩⟩
    ·rw[zy hb] at e
     refine(J.hok b o e).zto (fun c u z hc=>?_) (fun c z=>upK c _ z) fun c xs z=>upK c _ z
     have hc2:∃o,H' c=some o:=z.elim (fun z=>⟨o,by rw[z];exact e⟩) fun z=>⟨_,z⟩
     obtain⟨o2,hc2⟩:=hc2
     refine lb.keep c u (hne hc2) (fun hm=>?_) ((o1 c (hne0 hc2)).trans hc)
     have:=J.zco c hm
     rw[hc2] at this
     cases this)
  exact hh pins _ σ' _ D a C dd ⟨J2,zc,s1.heap,T,oe',oT',_,ts',J.fr0,hT,(zy hTa).trans uT,q1,q4,(by have:=(Array.getElem?_eq_some_iff.mp g4).1;simp[this]),t1,t2,t3⟩ (ht a n2)
section
variable {prog:Program}{w:World}{A:Around}{E:zE1}{s:Shared}
variable {z TI TO i1 i2 l1 l2:Addr}{J1 J2:Nat->Heap->Prop}{C1 C2:Array Value->Heap->Prop}{k1 k2:Nat}{xs ys:Array Value}{x y a b:Value}
theorem zNf {Q:Fin->Shared->Prop}(hh:A.handled=none)(D:ZipApart z TI TO i1 i2 l1 l2)(S1:Src prog w i1 l1 J1 C1)(S2:Src prog w i2 l2 J2 C2)(gz:IsZip s.heap z TI TO .none)(gI:IsPair s.heap TI (.ref i1) (.ref i2))(gO:IsPair s.heap TO a b)
  (j1:J1 k1 s.heap)(j2:J2 k2 s.heap)(c1:C1 xs s.heap)(c2:C2 ys s.heap)(hx:xs[k1]?=some x)(hy:ys[k2]?=none)
  (q:∀h' e,(∀c o,c≠z->c≠TO->c≠i1->c≠i2->s.heap.get? c=some o->h'.get? c=some o)->(∃o,h'.get? e=some o/\o.cls=.type "StopIteration")->E (.ref e) { s with heap:=h' }):
  wpAny (model prog w) A (Builtin.«zip.__next__» ⟨[.ref z],[]⟩) Q E s:=by
 show wpAny _ _ (field (.ref z) 2 >>= _) _ _ s
 refine wpAny_bind (wpAny_field gz rfl (x:=.bool false) rfl ?_)
 show wpAny _ _ (field (.ref z) 3 >>= _) _ _ s
 refine wpAny_bind (wpAny_field gz rfl (x:=.ref TI) rfl (wpAny_bind (wpAny_seqItems gI rfl ?_)))
 show wpAny _ _ (Builtin.SmallTypes.ownedTupleIsFree (.ref z) >>= _) _ _ s
 refine wpAny_bind ?_
 unfold Builtin.SmallTypes.ownedTupleIsFree
 refine wpAny_bind (wpAny_field gz rfl (x:=.none) rfl (wpAny_pure ?_))
 simp only[if_true]
 refine wpAny_bind (wpAny_rule (wpAny_bind (wpAny_field gz rfl (x:=.ref TO) rfl ?_)))
 refine wpAny_bind (wpAny_setField_rec gz (by simp) fun hA zA sA=>?_)
 replace zA:IsZip hA z TI TO .ellipsis:=zA
 refine wpAny_bind ?_
 simp only[List.zipIdx_cons,List.zipIdx_nil,List.forIn_cons,List.forIn_nil]
 refine wpAny_bind (wpAny_bind (wpAny_onRaise ?_))
 show wpAny _ _ (Builtin.SmallTypes.nextOf (.ref i1) >>= _) _ _ (_)
 refine wpAny_bind (S1.item A _ _ k1 xs x _ (S1.keep _ _ _ j1 fun o e=>sA.extBut _ _ D.i1z e) (S1.seq _ _ _ c1 fun o e=>sA.extBut _ _ D.l1z e) hx fun hB jB sB=>wpAny_pure ?_)
 have oB:IsPair hB TO a b:=sB.extBut _ _ D.TOi1 (sA.extBut _ _ D.TOz gO)
 refine wpAny_bind (wpAny_seqItems oB rfl (wpAny_bind (wpAny_updateSeq_pair oB fun hC oC sC=>?_)))
 replace oC:IsPair hC TO x b:=oC
 refine wpAny_bind (wpAny_letGo (wpAny_pure (wpAny_bind (wpAny_bind (wpAny_onRaise ?_)))))
 show wpAny _ _ (Builtin.SmallTypes.nextOf (.ref i2) >>= _) _ _ (_)
 have up2:∀c o,c≠z->c≠i1->c≠TO->s.heap.get? c=some o->hC.get? c=some o:=fun c o n1 n2 n3 e=>sC.extBut _ _ n3 (sB.extBut _ _ n2 (sA.extBut _ _ n1 e))
 refine wpAny_bind (S2.stop A _ _ k2 ys _ hh (S2.keep _ _ _ j2 fun o e=>up2 _ o D.i2z D.i12.symm D.TOi2.symm e) (S2.seq _ _ _ c2 fun o e=>up2 _ o D.l2z D.l2i1 D.l2TO e) hy fun hD e sD he=>?_)
 obtain⟨oe,ge,ce⟩:=he
 have zD:IsZip hD z TI TO .ellipsis:=sD _ _ D.i2z.symm (sC.extBut _ _ D.TOz.symm (sB.extBut _ _ D.i1z.symm zA))
 have ne:e≠z:=fun u=>by subst u;rw[zD] at ge;cases ge;simp at ce
 exact wpAny_setField_rec zD (by simp) fun hE _ sE=>q hE e (fun c o n1 n2 n3 n4 u=>sE.extBut _ _ n1 (sD _ _ n4 (up2 c o n1 n3 n2 u))) ⟨oe,sE.extBut _ _ ne ge,ce⟩
theorem zWg {Q:Option Value->Shared->Prop}(hh:A.handled=none)(D:ZipApart z TI TO i1 i2 l1 l2)(S1:Src prog w i1 l1 J1 C1)(S2:Src prog w i2 l2 J2 C2)(gz:IsZip s.heap z TI TO .none)(gI:IsPair s.heap TI (.ref i1) (.ref i2))(gO:IsPair s.heap TO a b)
  (j1:J1 k1 s.heap)(j2:J2 k2 s.heap)(c1:C1 xs s.heap)(c2:C2 ys s.heap)(hx:xs[k1]?=some x)(hy:ys[k2]?=none)
  (q:∀h',(∀c o,c≠z->c≠TO->c≠i1->c≠i2->s.heap.get? c=some o->h'.get? c=some o)->Q none { s with heap:=h' }):wpAny (model prog w) A (pyNext (.ref z)) Q E s:=by
 have tZ:s.TypeIs (.ref z) "zip":=⟨_,gz,rfl⟩
 unfold pyNext
 refine wpAny_bind (wpAny_attempt (wpAny_callSpecial?_slot (name:=Str.ofString "__next__") tZ PySem.F.slot_zip_next (wpAny_call_entry PySem.F.slot_zip_next tZ PySem.F.entry_zip_next (zNf (A:=A.in1) hh D S1 S2 gz gI gO j1 j2 c1 c2 hx hy fun h' e hk he=>?_) (PySem.F.args_zip_next_1 _))))
 obtain⟨o,ho,hc⟩:=he
 exact wpAny_bind (wpAny_isInstance (T:="StopIteration") (b:=true) ⟨o,ho,hc⟩ isSubtype_stop (wpAny_pure (q _ hk)))
end
def Itu (K:W.Frag)(t u:Bool)(a b:Addr):It:=
 ⟨(Itg K t u a b).go,(Itg K t u a b).yld,fun i H=>∃xs ys,SqX K t H a xs/\SqX K u H b ys/\(xs.length<=i\/ys.length<=i)⟩
theorem zXg {P:Program}{w:World}{K:W.Frag}{elts:List Expr}{k:Nat}{pos:Pos}(t u:Bool)(a b z TI TO i1 i2:Addr)(N:ZipApart z TI TO i1 i2 a b):
  Turn P w K (.Tuple elts k pos) (Itu K t u a b) [z,TI,TO,i1,i2] z (fun i h=>IsZip h z TI TO .none/\IsPair h TI (.ref i1) (.ref i2)/\(∃c d,IsPair h TO c d)/\jX t i1 a i h/\jX u i2 b i h) where
 mem:=(zXa (P:=P) (w:=w) (K:=K) (elts:=elts) (k:=k) (pos:=pos) t u a b z TI TO i1 i2 N).mem
 obj:=(zXa (P:=P) (w:=w) (K:=K) (elts:=elts) (k:=k) (pos:=pos) t u a b z TI TO i1 i2 N).obj
 keep:=(zXa (P:=P) (w:=w) (K:=K) (elts:=elts) (k:=k) (pos:=pos) t u a b z TI TO i1 i2 N).keep
 item:=(zXa (P:=P) (w:=w) (K:=K) (elts:=elts) (k:=k) (pos:=pos) t u a b z TI TO i1 i2 N).item
 done:=by
  intro X hP hw hK hc i pins s σ H E I hf st hg
  obtain⟨xs,ys,hq,hq',hx⟩:=hg
  by_cases h1:xs.length<=i
  ·exact(zXa (P:=P) (w:=w) (K:=K) (elts:=elts) (k:=k) (pos:=pos) t u a b z TI TO i1 i2 N).done X hP hw hK hc i pins s σ H E I hf st ⟨xs,hq,h1⟩
  have h2:ys.length<=i:=hx.resolve_left h1
  subst hP hw hK
  obtain⟨its,rv,p,_⟩:=I.zCo hq
  obtain⟨jts,rv',p',_⟩:=I.zCo hq'
  have hl:=rv.length
  have hl':=rv'.length
  obtain⟨g1,g2,⟨c,d,g3⟩,g4,g5⟩:=st
  have hi:i<its.length:=by omega
  refine zWg (xs:=its.toArray) (ys:=jts.toArray) (x:=its[i]) (I.ok.hd hc) N (zfc t i1 a) (zfc u i2 b) g1 g2 g3 g4 g5 p p' (by simp[hi]) (by simp;omega) fun h' hk=>?_
  exact⟨rfl,I.zgo (t':=s.toks) (ch:=[z,TI,TO,i1,i2]) hf fun e o he q=>by
   simp only[List.mem_cons,List.not_mem_nil,or_false,not_or] at he
   exact hk e o he.1 he.2.2.1 he.2.2.2.1 he.2.2.2.2 q⟩
 self:=fun A i s Q E st h=>wpAny_pyIter_zip st.1 h
def zan (K:W.Frag)(t u:Bool)(ta:TA):TI:=fun σ H R=>ta σ H fun vs H1=>∃a b,vs=[.ref a,.ref b]/\(∃xs,SqX K t H1 a xs)/\(∃ys,SqX K u H1 b ys)/\R (Itu K t u a b) H1
theorem zLj (t u:Bool){X:Cx}{elts:List Expr}{k:Nat}{tpos:Pos}{a b:Expr}{ta:TA}{p pos:Pos}(hg:Gl X "zip")(hm:X.mg "zip"=none)(ha:PA X [a,b] ta)(hs:starEach [a,b] X.env=(false,eval a X.env)::starEach [b] X.env:=by rfl)(hpl:(backTo pos (starEach [b] X.env)).any (·.1)=false:=by rfl):
  PI X (.Tuple elts k tpos) (.Call (.Name "zip" p) [a,b] [] pos) (zan X.K t u ta):=by
 intro pins s σ H R I h
 refine Call_ (zCb I hg hm boot_zip (PyProof.Rows.callWith_type1 (thn (ha pos pins s σ H _ I h) fun us s1 ⟨vs,H1,I1,r1,q1⟩=>?_) hs hpl))
 obtain⟨l,m,e,⟨xs,hq⟩,⟨ys,hq'⟩,q⟩:=q1
 subst e
 obtain⟨v,v',rfl,ru,ru'⟩:=vals2 r1
 cases ru
 cases ru'
 obtain⟨its,rv,pt,hz⟩:=I1.zCo hq
 obtain⟨jts,rv',pt',hz'⟩:=I1.zCo hq'
 refine zme (tX t) (tX u) (zvd pt) (zvd (zMg pt' _)) fun h' c1 c2 c3 c4 c5 c7=>?_
 refine wpAny_pyIter_zip c1 ?_
 have I2:=I1.kept (h':=h') (t':=s1.toks) c7
 refine⟨s1.heap.objs.size+4,[s1.heap.objs.size+4,s1.heap.objs.size+2,s1.heap.objs.size+3,s1.heap.objs.size,s1.heap.objs.size+1],_,Itu X.K t u l m,H1,rfl,I2,zXg t u l m _ _ _ _ _ ?_,⟨c1,c2,⟨_,_,c3⟩,zef c4,zef c5⟩,fun c hc'=>?_,q⟩
 ·exact zke _ _ _ (zVh pt) (zVh pt')
 ·have hle:s1.heap.objs.size<=c:=by
   simp only[List.mem_cons,List.not_mem_nil,or_false] at hc'
   rcases hc' with rfl|rfl|rfl|rfl|rfl<;>omega
  exact I1.zxo hle (I1.hok.fresh hle)
theorem zci {K:W.Frag}{t u:Bool}{a b:Addr}{xs ys:List V}{n:Nat}{g:TG}{tb:TS}{D:Ends}{σ:St}{H:Hp}(hn:n=min xs.length ys.length)(Pv:Nat->St->Hp->Prop)(h0:Pv 0 σ H)(hl:∀i σ H,i<=n->Pv i σ H->SqX K t H a xs/\SqX K u H b ys)
  (hs:∀i x y σ H p,xs[i]?=some x->ys[i]?=some y->Pv i σ H->H p=none->g (.ref p) σ (upd H p (.tup [x,y])) fun σ2 H2=>tb { D with nx:=Pv (i+1),ct:=Pv (i+1),bk:=D.nx } σ2 H2)(hd:∀σ H,Pv n σ H->D.nx σ H):
  ∃W:Nat->Nat->St->Hp->Prop,(∃m,W 0 m σ H)/\∀i m σ H,W i m σ H→
   ((Itu K t u a b).stop i H/\D.nx σ H)\/((Itu K t u a b).go i H/\∃N:St->Hp->Prop,(∀σ' H',N σ' H'->∃m',m'<m/\W (i+1) m' σ' H')/\∀x H',(Itu K t u a b).yld i H x H'->g x σ H' fun σ2 H2=>tb { D with nx:=N,ct:=N,bk:=D.nx } σ2 H2):=by
 refine⟨fun i m σ H=>m=n-i/\i<=n/\Pv i σ H,⟨n,by simp,Nat.zero_le _,h0⟩,?_⟩
 rintro i m σ H ⟨rfl,hi,p⟩
 obtain⟨q,q'⟩:=hl i σ H hi p
 by_cases hlt:i<n
 ·have h1:i<xs.length:=by omega
  have h2:i<ys.length:=by omega
  refine .inr ⟨⟨xs,ys,xs[i],ys[i],q,q',by simp[h1],by simp[h2]⟩,Pv (i+1),fun σ' H' p'=>⟨n-(i+1),by omega,rfl,hlt,p'⟩,fun x H' y=>?_⟩
  obtain⟨c,x1,y1,e1,e2,e3,e4,e5⟩:=y
  subst e1 e3
  exact hs i x1 y1 σ H c (e4 xs q) (e5 ys q') p e2
 ·have e:i=n:=by omega
  subst e
  exact .inl ⟨⟨xs,ys,q,q',by omega⟩,hd σ H p⟩
end L2
namespace SL
open PySem L2
theorem zJb {c:Bool}{A B:Prop}(h:c=true)(a:A):if c=true then A else B:=by
 rw[if_pos h]
 exact a
theorem zZb {c:Bool}{A B:Prop}(h:c=false)(b:B):if c=true then A else B:=by
 rw[h]
 exact iteF b
theorem zza {n:Nat}{z:Str}(h:Tx n z)(hn:n<=1000):z.length<=sizeLine:=Nat.le_of_lt (zv (Nat.le_trans h.1 hn))
theorem zLa (z:Str):z.cps.toList.length=z.length:=by
 rw[Array.length_toList]
 rfl
theorem at0 {z:Str}(h:1<=z.length):atI z.cps.toList 0=some (hd z):=by
 have e:=zLa z
 unfold hd
 cases g:z.cps.toList with
 |nil=>
  rw[g] at e
  have:z.length=0:=e.symm
  omega
 |cons c r=>
  exact zY (j:=0) rfl
structure TS (mg:zT3):Prop where
 len:mg "len"=none
 all:mg "all"=none
 fig:∃u,mg "FIGURES"=some u/\RelV (.str FIG) u
 sma:∃u,mg "SMALL_LETTERS"=some u/\RelV (.str SMA) u
 nam:∃u,mg "NAME_SIGNS"=some u/\RelV (.str NAM) u
 mar:∃u,mg "MARK_SIGNS"=some u/\RelV (.str MAR) u
 mf:∃u,mg "MOST_FIGURES"=some u/\RelV (.int 9) u
 ms:∃u,mg "MOST_SIGNS"=some u/\RelV (.int 12) u
 mi:∃u,mg "MOST_ITEMS"=some u/\RelV (.int 4) u
def spMo:Sp:=fun vs H Q _=>∃(S z:Str),vs=[.str S,.str z]/\Tx 1000 z/\∀H',Same H H'->Q (.bl (zW S z)) H'
def spTk (p:Str->Bool):Sp:=fun vs H Q _=>∃(v:V)(z:Str),vs=[v,.str z]/\Tx 1000 z/\∀H',Same H H'->Q (.bl (p z)) H'
def spWo (x:Str):Sp:=fun vs H Q _=>∃v:V,vs=[v]/\Q (.str x) H
def spIi:Sp:=fun vs H Q _=>∃z:Str,vs=[.str z]/\Tx 1000 z/\∀H',Same H H'->Q (.bl (zP z)) H'
section
variable {P:Program}{w:World}{K:W.Frag}{mg:zT3}{base:Heap}
theorem scMo:FnScope ["signs","text"] ["signs","text"] (zb sMo):=.of (by decide +kernel)
def znl:Scope:=⟨.function,[(".0",.local),("sign",.local),("signs",.free)],false,false,[]⟩
theorem scM:BlkScope (zb sMo) ["signs","text"] ["sign"] ["signs"] [0] znl:=.of (by decide +kernel)
theorem zMj (F:Fun K "made_of" "made_of" sMo f fd)(T:TS mg):FnOk P w K mg base CX0 1 f fd ["signs","text"] spMo:=by
 refine F.ok scMo (fun vs H Q E h=>?_) (fun cdv A outer s H vs Q E hr h=>?_)
 ·obtain⟨S,z,rfl,_⟩:=h
  rfl
 ·obtain⟨S,z,rfl,tz,k⟩:=h
  refine⟨_,zf (zp (zq (zpb rfl) (by rfl) T.all boot_all (za (zWa scM rfl rfl rfl (zvg (pv 1)) (fun fp C s1 H1=>zC (i:=0) scM.nd rfl (Or.inl rfl)) (fun fp C s1 H1=>zla)
   (fun fp C s1 H1=>zQ zUd (pv 0) (pv 1) (by with_unfolding_all rfl))) zd))),?_⟩
  refine⟨_,rfl,z,1000,rfl,tz,fun D hD=>?_⟩
  refine zXi (z:=z) (fun i ys H2=>ys=((z.cps.toList.take i).map (hasC S)).map V.bl/\Same H H2/\H2 D=some (.lst ys)) (zza tz (by decide)) ⟨rfl,(Same.refl H).zao hD,zc⟩
   (fun i ys H2 h=>by rw[h.1,List.length_map,List.length_map,List.length_take];exact Nat.min_le_left _ _) ?_ ?_
  ·rintro i ys H2 c N M hc ⟨rfl,s2,hD2⟩ hN hM
   refine⟨_,rfl,_,rfl,_,_,rfl,rfl,?_⟩
   rw[StrLaws.found_one]
   refine hN _ H2 hD2 ⟨?_,s2.zao hD,zc⟩
   have hc':z.cps.toList[i]?=some c:=by simpa using hc
   rw[List.take_add_one,hc',List.map_append,List.map_append]
   rfl
  ·rintro ys H2 ⟨rfl,s2,hD2⟩
   refine⟨D,_,rfl,SqL.of hD2,?_⟩
   rw[<- zLa,List.take_length,List.all_map]
   exact k H2 s2
theorem scNt:FnScope ["self","text"] ["self","text"] (zb sNt):=.of (by decide +kernel)
theorem zbn (F:Fun K "takes" "Number.takes" sNt f fd)(T:TS mg)(FM:Fun K "made_of" "made_of" sMo fM fdM)(bM:Binds K fdM ["signs","text"] [])(gM:mg "made_of"=some (.ref fM)):FnOk P w K mg base CX0 2 f fd ["self","text"] (spTk isNum):=by
 have GM:FnOk P w K mg base CX0 1 fM fdM ["signs","text"] spMo:=zMj FM T
 refine F.ok scNt (fun vs H Q E h=>?_) (fun cdv A outer s H vs Q E hr h=>?_)
 ·obtain⟨v,z,rfl,_⟩:=h
  rfl
 ·obtain⟨v,z,rfl,tz,k⟩:=h
  obtain⟨u1,g1,r1⟩:=T.mf
  obtain⟨u2,g2,r2⟩:=T.fig
  refine⟨_,ze (zM (zEb (zmd zRc zRc zg (zq zca (by rfl) T.len PySem.boot_len (za (pv 1) zd)) (zra (v:=.int 9) (by rfl) g1 r1))) (zf (zp zHb)) zt)
   (zf (zp (zQb (zi GM hr rfl gM FM.kp bM .nil zw (za (zra (v:=.str FIG) (by rfl) g2 r2) (za (pv 1) zd))) (zjb (znj (zQ zV (pv 1) zx (zu _)) (zjb (zQ zTd (zU zkb (pv 1) zg (fun _ _=>rfl)) zx (zu _)))))))),?_⟩
  refine⟨_,rfl,z,rfl,zza tz (by decide),_,_,rfl,rfl,_,rfl,?_⟩
  have out:∀c:Bool,c=false->isNum z=c->Q (.bl false) H:=fun c hc e=>by
   have q:=k H (Same.refl H)
   rw[e,hc] at q
   exact q
  by_cases h1:1<=z.length
  ·refine zJb (decide_eq_true (by omega)) ?_
   refine⟨_,_,rfl,rfl,_,rfl,?_⟩
   by_cases h2:z.length<=9
   ·refine zZb (by rw[decide_eq_true (by omega)];rfl) ?_
    refine⟨_,rfl,FIG,z,rfl,tz,fun H1 s1=>⟨_,rfl,?_⟩⟩
    have ek:isNum z=(zW FIG z&&(decide (z=Str.ofString "0")||!decide ((⟨#[hd z]⟩:Str)=Str.ofString "0"))):=by
     unfold isNum
     rw[decide_eq_true ⟨h1,h2⟩,Bool.true_and]
    have q:=k H1 s1
    rw[ek] at q
    cases hm:zW FIG z with
    |false=>
     rw[hm] at q
     exact iteF q
    |true=>
     rw[hm,Bool.true_and] at q
     refine iteT ⟨_,rfl,rfl,_,rfl,?_⟩
     by_cases hz:z=Str.ofString "0"
     ·rw[decide_eq_true hz,Bool.true_or] at q
      exact zJb (decide_eq_true (by rw[hz])) q
     ·rw[decide_eq_false hz,Bool.false_or] at q
      refine zZb (decide_eq_false (fun y=>hz (by injection y))) ?_
      refine⟨_,rfl,_,_,hd z,rfl,rfl,zza tz (by decide),at0 h1,rfl,?_⟩
      have e2:decide (V.str (⟨#[hd z]⟩:Str)=V.str (Str.ofString "0"))=decide ((⟨#[hd z]⟩:Str)=Str.ofString "0"):=decide_eq_decide.mpr ⟨fun y=>by injection y,fun y=>by rw[y]⟩
      rw[e2]
      exact q
   ·refine zJb (by rw[decide_eq_false (by omega)];rfl) ?_
    refine out _ rfl ?_
    unfold isNum
    rw[decide_eq_false (fun y=>h2 y.2)]
    rfl
  ·refine zZb (decide_eq_false (by omega)) ⟨_,rfl,iteT ?_⟩
   refine out _ rfl ?_
   unfold isNum
   rw[decide_eq_false (fun y=>h1 y.1)]
   rfl
theorem scAt:FnScope ["self","text"] ["self","text"] (zb sAt):=.of (by decide +kernel)
theorem zcn (F:Fun K "takes" "Name.takes" sAt f fd)(T:TS mg)(FM:Fun K "made_of" "made_of" sMo fM fdM)(bM:Binds K fdM ["signs","text"] [])(gM:mg "made_of"=some (.ref fM)):FnOk P w K mg base CX0 2 f fd ["self","text"] (spTk isName):=by
 have GM:FnOk P w K mg base CX0 1 fM fdM ["signs","text"] spMo:=zMj FM T
 refine F.ok scAt (fun vs H Q E h=>?_) (fun cdv A outer s H vs Q E hr h=>?_)
 ·obtain⟨v,z,rfl,_⟩:=h
  rfl
 ·obtain⟨v,z,rfl,tz,k⟩:=h
  obtain⟨u1,g1,r1⟩:=T.ms
  obtain⟨u2,g2,r2⟩:=T.sma
  obtain⟨u3,g3,r3⟩:=T.nam
  refine⟨_,ze (zM (zEb (zmd zRc zRc zg (zq zca (by rfl) T.len PySem.boot_len (za (pv 1) zd)) (zra (v:=.int 12) (by rfl) g1 r1))) (zf (zp zHb)) zt)
   (zf (zp (zQb (zQ zUd (zU zkb (pv 1) zg (fun _ _=>rfl)) (zra (v:=.str SMA) (by rfl) g2 r2) (by with_unfolding_all rfl)) (zjb (zi GM hr rfl gM FM.kp bM .nil zw (za (zra (v:=.str NAM) (by rfl) g3 r3) (za (pv 1) zd))))))),?_⟩
  refine⟨_,rfl,z,rfl,zza tz (by decide),_,_,rfl,rfl,_,rfl,?_⟩
  have out:∀c:Bool,c=false->isName z=c->Q (.bl false) H:=fun c hc e=>by
   have q:=k H (Same.refl H)
   rw[e,hc] at q
   exact q
  by_cases h1:1<=z.length
  ·refine zJb (decide_eq_true (by omega)) ?_
   refine⟨_,_,rfl,rfl,_,rfl,?_⟩
   by_cases h2:z.length<=12
   ·refine zZb (by rw[decide_eq_true (by omega)];rfl) ?_
    refine⟨_,rfl,_,_,hd z,rfl,rfl,zza tz (by decide),at0 h1,_,_,rfl,rfl,?_⟩
    rw[StrLaws.found_one]
    have ek:isName z=(hasC SMA (hd z)&&zW NAM z):=by
     unfold isName
     rw[decide_eq_true ⟨h1,h2⟩,Bool.true_and]
    have e1:decide (hd z∈SMA.cps.toList)=hasC SMA (hd z):=rfl
    rw[e1]
    refine⟨_,rfl,?_⟩
    cases hm:hasC SMA (hd z) with
    |false=>
     have q:=k H (Same.refl H)
     rw[ek,hm] at q
     exact iteF q
    |true=>
     refine iteT ⟨_,rfl,NAM,z,rfl,tz,fun H1 s1=>?_⟩
     have q:=k H1 s1
     rw[ek,hm,Bool.true_and] at q
     exact q
   ·refine zJb (by rw[decide_eq_false (by omega)];rfl) ?_
    refine out _ rfl ?_
    unfold isName
    rw[decide_eq_false (fun y=>h2 y.2)]
    rfl
  ·refine zZb (decide_eq_false (by omega)) ⟨_,rfl,iteT ?_⟩
   refine out _ rfl ?_
   unfold isName
   rw[decide_eq_false (fun y=>h1 y.1)]
   rfl
end
structure Kd (K:W.Frag)(mg:zT3)(nm:Str)(C ft fw:Addr)(fdt fdw:FuncData):Prop where
 mkn:MkN K C
 g:mg nm=some (.ref C)
 cls:Cls K C
 mt:Meth K C "takes" ft
 bt:Binds K fdt ["self","text"] []
 mw:Meth K C "word" fw
 bw:Binds K fdw ["self"] []
section
variable {P:Program}{w:World}{K:W.Frag}{mg:zT3}{base:Heap}
theorem scIi:FnScope ["text"] ["text"] (zb sIi):=.of (by decide +kernel)
theorem zdn (F:Fun K "is_item" "is_item" sIi f fd)
  (N:Kd K mg "Number" CN ftN fwN fdtN fdwN)(A:Kd K mg "Name" CA ftA fwA fdtA fdwA)
  (GN:FnOk P w K mg base CX0 2 ftN fdtN ["self","text"] (spTk isNum))(GA:FnOk P w K mg base CX0 2 ftA fdtA ["self","text"] (spTk isName)):
  FnOk P w K mg base CX0 3 f fd ["text"] spIi:=by
 refine F.ok scIi (fun vs H Q E h=>?_) (fun cdv A1 outer s H vs Q E hr h=>?_)
 ·obtain⟨z,rfl,_⟩:=h
  rfl
 ·obtain⟨z,rfl,tz,k⟩:=h
  refine⟨_,zf (zp (znj (ztd (CX:=CX0) (zwb N.mkn rfl N.g) hr zw (za (pv 0) zd)) (zjb (ztd (CX:=CX0) (zwb A.mkn rfl A.g) hr zw (za (pv 0) zd))))),?_⟩
  intro x dx h1 h2 h3
  have s0:Same H (upd (upd H dx (.own x)) x (.ins CN dx [])):=((Same.refl H).zao h2).zao h1
  refine⟨x,CN,dx,[],ftN,fdtN,_,_,rfl,zc,rfl,N.cls,N.mt,GN,N.bt,_,rfl,.ref x,z,rfl,tz,fun H1 s1=>⟨_,rfl,?_⟩⟩
  cases e:isNum z with
  |true=>
   have q:=k H1 (s0.trans s1)
   unfold zP at q
   rw[e] at q
   exact iteT q
  |false=>
   refine iteF ?_
   intro x2 dx2 g1 g2 g3
   have s2:Same H1 (upd (upd H1 dx2 (.own x2)) x2 (.ins CA dx2 [])):=((Same.refl H1).zao g2).zao g1
   refine⟨x2,CA,dx2,[],ftA,fdtA,_,_,rfl,zc,rfl,A.cls,A.mt,GA,A.bt,_,rfl,.ref x2,z,rfl,tz,fun H2 s3=>?_⟩
   have q:=k H2 (((s0.trans s1).trans s2).trans s3)
   unfold zP at q
   rw[e,Bool.false_or] at q
   exact q
theorem scKt:FnScope ["self","text"] ["self","text"] (zb sKt):=.of (by decide +kernel)
theorem zen (F:Fun K "takes" "Mark.takes" sKt f fd)(T:TS mg)(FM:Fun K "made_of" "made_of" sMo fM fdM)(bM:Binds K fdM ["signs","text"] [])(gM:mg "made_of"=some (.ref fM))
  (FI:Fun K "is_item" "is_item" sIi fI fdI)(bI:Binds K fdI ["text"] [])(gI:mg "is_item"=some (.ref fI))(GI:FnOk P w K mg base CX0 3 fI fdI ["text"] spIi):FnOk P w K mg base CX0 4 f fd ["self","text"] (spTk zya):=by
 have GM:FnOk P w K mg base CX0 1 fM fdM ["signs","text"] spMo:=zMj FM T
 refine F.ok scKt (fun vs H Q E h=>?_) (fun cdv A outer s H vs Q E hr h=>?_)
 ·obtain⟨v,z,rfl,_⟩:=h
  rfl
 ·obtain⟨v,z,rfl,tz,k⟩:=h
  have hr1:Room 1 _:=hr.mono (by decide)
  obtain⟨u1,g1,r1⟩:=T.ms
  obtain⟨u2,g2,r2⟩:=T.mar
  refine⟨_,ze (zM (zEb (zmd zRc zRc zg (zq zca (by rfl) T.len PySem.boot_len (za (pv 1) zd)) (zra (v:=.int 12) (by rfl) g1 r1))) (zf (zp zHb)) zt)
   (zf (zp (zQb (zi GM hr1 rfl gM FM.kp bM .nil zw (za (zra (v:=.str MAR) (by rfl) g2 r2) (za (pv 1) zd))) (zjb (zQi (zi GI hr rfl gI FI.kp bI .nil zw (za (pv 1) zd))))))),?_⟩
  refine⟨_,rfl,z,rfl,zza tz (by decide),_,_,rfl,rfl,_,rfl,?_⟩
  have out:∀c:Bool,c=false->zya z=c->Q (.bl false) H:=fun c hc e=>by
   have q:=k H (Same.refl H)
   rw[e,hc] at q
   exact q
  by_cases h1:1<=z.length
  ·refine zJb (decide_eq_true (by omega)) ?_
   refine⟨_,_,rfl,rfl,_,rfl,?_⟩
   by_cases h2:z.length<=12
   ·refine zZb (by rw[decide_eq_true (by omega)];rfl) ?_
    refine⟨_,rfl,MAR,z,rfl,tz,fun H1 s1=>⟨_,rfl,?_⟩⟩
    have ek:zya z=(zW MAR z&&!zP z):=by
     unfold zya
     rw[decide_eq_true ⟨h1,h2⟩,Bool.true_and]
    cases hm:zW MAR z with
    |false=>
     have q:=k H1 s1
     rw[ek,hm] at q
     exact iteF q
    |true=>
     refine iteT ⟨_,rfl,z,rfl,tz,fun H2 s2=>⟨_,rfl,?_⟩⟩
     have q:=k H2 (s1.trans s2)
     rw[ek,hm,Bool.true_and] at q
     exact q
   ·refine zJb (by rw[decide_eq_false (by omega)];rfl) ?_
    refine out _ rfl ?_
    unfold zya
    rw[decide_eq_false (fun y=>h2 y.2)]
    rfl
  ·refine zZb (decide_eq_false (by omega)) ⟨_,rfl,iteT ?_⟩
   refine out _ rfl ?_
   unfold zya
   rw[decide_eq_false (fun y=>h1 y.1)]
   rfl
end
theorem zFe (c:Nat):∀(l:List Nat)(s:List Str×Str)(n:Nat),(∀x∈l,x<128)->(∀p∈s.1,Tx n p)->Tx n s.2->(∀p∈(l.foldl (zna c) s).1,Tx (n+l.length) p)/\Tx (n+l.length) (l.foldl (zna c) s).2
 | [],s,n,_,h1,h2=>⟨h1,h2⟩
 |x::l,s,n,h,h1,h2=>by
  rw[List.foldl_cons,List.length_cons,show n+(l.length+1)=(n+1)+l.length by omega]
  refine zFe c l _ (n+1) (fun y hy=>h y (List.mem_cons_of_mem _ hy)) ?_ ?_
  ·unfold zna
   split
   ·intro p hp
    rcases List.mem_append.mp hp with hp|hp
    ·exact(h1 p hp).mono (Nat.le_succ _)
    ·rw[List.mem_singleton] at hp
     subst hp
     exact h2.mono (Nat.le_succ _)
   ·exact fun p hp=>(h1 p hp).mono (Nat.le_succ _)
  ·unfold zna
   split
   ·exact⟨Nat.zero_le _,fun y hy=>by cases hy⟩
   ·exact h2.app (Tx.one (h x (List.mem_cons_self ..)))
theorem zYg {n:Nat}{z:Str}(c:Nat)(h:Tx n z):∀p∈spl c z.cps.toList,Tx n p:=by
 have q:=zFe c z.cps.toList ([],Str.empty) 0 h.2 (fun p hp=>by cases hp) ⟨Nat.zero_le _,fun y hy=>by cases hy⟩
 have e:0+z.cps.toList.length<=n:=by
  rw[zLa]
  have:=h.1
  omega
 intro p hp
 unfold spl at hp
 rcases List.mem_append.mp hp with hp|hp
 ·exact(q.1 p hp).mono e
 ·rw[List.mem_singleton] at hp
  subst hp
  exact q.2.mono e
section
variable {P:Program}{w:World}{K:W.Frag}{mg:zT3}{base:Heap}
theorem scIt:FnScope ["self","text","pieces"] ["self","text"] (zb sIt):=.of (by decide +kernel)
def zol:Scope:=⟨.function,[(".0",.local),("piece",.local),("is_item",.globalImplicit)],false,false,[]⟩
theorem scI:BlkScope (zb sIt) ["self","text","pieces"] ["piece"] [] [] zol:=.of (by decide +kernel)
theorem zfn (F:Fun K "takes" "Items.takes" sIt f fd)(T:TS mg)
  (FI:Fun K "is_item" "is_item" sIi fI fdI)(bI:Binds K fdI ["text"] [])(gI:mg "is_item"=some (.ref fI))(GI:FnOk P w K mg base CX0 3 fI fdI ["text"] spIi):FnOk P w K mg base CX0 4 f fd ["self","text"] (spTk isList):=by
 refine F.ok scIt (fun vs H Q E h=>?_) (fun cdv A outer s H vs Q E hr h=>?_)
 ·obtain⟨v,z,rfl,_⟩:=h
  rfl
 ·obtain⟨v,z,rfl,tz,k⟩:=h
  obtain⟨u1,g1,r1⟩:=T.mi
  refine⟨_,ze (zM (zEb (PW.pt (zRd (zba (zQa PySem.F.plainAttrs_str PySem.F.slot_str_startswith PySem.F.type_str_startswith zyg (pv 1) (za zx zd))) (zjd (zba (zQa PySem.F.plainAttrs_str PySem.F.slot_str_endswith PySem.F.type_str_endswith zBj (pv 1) (za zx zd))))))) (zf (zp zHb)) zt)
   (ze (zM (zr zV (pv 1) zx (zu _)) (zf (zp zHb)) zt)
   (ze (zH (i:=2) scIt.nd rfl (Or.inl rfl) (zQa PySem.F.plainAttrs_str PySem.F.slot_str_split PySem.F.type_str_split zVb (zab zcf (pv 1) (zUa zg) (zUa (zAf zVc zg))) (za zx zd)))
   (zf (zp (zQb (zQ zRc (zq zo (by rfl) T.len PySem.boot_len (za (pv 2) zd)) (zra (v:=.int 4) (by rfl) g1 r1) (zu _))
    (zjb (zq (zpb rfl) (by rfl) T.all boot_all (za (zWa scI rfl rfl rfl (zja (pv 2)) (fun fp C s1 H1=>zC (i:=0) scI.nd rfl (Or.inl rfl)) (fun fp C s1 H1=>zla)
     (fun fp C s1 H1=>zi GI hr rfl gI FI.kp bI .nil zw (za (pv 0) zd))) zd)))))))),?_⟩
  have fal:isList z=false->Q (.bl false) H:=fun e=>by
   have q:=k H (Same.refl H)
   rw[e] at q
   exact q
  refine⟨_,rfl,rfl,z,_,rfl,rfl,_,rfl,?_⟩
  cases e1:Txt.startswith z (Str.ofString "[") with
  |false=>
   refine iteF (iteT (fal ?_))
   unfold isList
   rw[e1]
   rfl
  |true=>
   refine iteT ⟨_,rfl,rfl,z,_,rfl,rfl,_,rfl,?_⟩
   cases e2:Txt.endswith z (Str.ofString "]") with
   |false=>
    refine iteT (fal ?_)
    unfold isList
    rw[e1,e2]
    rfl
   |true=>
    refine iteF ⟨_,rfl,rfl,_,rfl,?_⟩
    by_cases hz:z=Str.ofString "[]"
    ·refine zJb (decide_eq_true (by rw[hz])) ?_
     have q:=k H (Same.refl H)
     have e:isList z=true:=by
      unfold isList
      rw[e1,e2,decide_eq_true hz]
      rfl
     rw[e] at q
     exact q
    ·refine zZb (decide_eq_false (fun y=>hz (by injection y))) ?_
     have tz':Tx 1000 (Txt.slice z (some 1) (some (-1))):=tz.slice _ _
     have l1:=split_len (Txt.slice z (some 1) (some (-1))) (Str.ofString ",")
     have l2:=zob (Txt.slice z (some 1) (some (-1))) (Str.ofString ",")
     have l3:=tz'.1
     have big:1002<=sizeLine:=by decide
     refine⟨_,rfl,_,rfl,_,rfl,_,rfl,z,rfl,zza tz (by decide),rfl,_,_,rfl,rfl,rfl,zza tz' (by decide),by omega,by omega,fun p hp=>?_⟩
     have tl:∀y∈Txt.split (Txt.slice z (some 1) (some (-1))) (Str.ofString ","),Tx 1000 y:=fun y hy=>by
      rw[show Str.ofString ","=(⟨#[44]⟩:Str) from rfl,zKa _ (by decide)] at hy
      exact zYg 44 tz' y hy
     have ek:isList z=(decide ((Txt.split (Txt.slice z (some 1) (some (-1))) (Str.ofString ",")).length<=4)&&(Txt.split (Txt.slice z (some 1) (some (-1))) (Str.ofString ",")).all zP):=by
      unfold isList
      rw[e1,e2,decide_eq_false hz]
      rfl
     generalize hL:Txt.split (Txt.slice z (some 1) (some (-1))) (Str.ofString ",")=L at hp l1 tl ek ⊢
     have s0:Same H (upd H p (.lst (L.map V.str))):=(Same.refl H).zao hp
     refine⟨_,rfl,p,_,rfl,.inl (SqL.of zc),_,_,rfl,rfl,_,rfl,?_⟩
     by_cases h4:L.length<=4
     ·refine zJb (decide_eq_true (by rw[List.length_map];omega)) ?_
      refine⟨_,rfl,p,rfl,⟨_,SqL.of zc⟩,fun D hD=>?_⟩
      refine zAa (K:=K) (a:=p) (xs:=L.map V.str) (fun i ys H2=>ys=((L.take i).map zP).map V.bl/\Same (upd H p (.lst (L.map V.str))) H2/\H2 D=some (.lst ys)) (by rw[List.length_map];omega) ⟨rfl,(Same.refl _).zao hD,zc⟩
       (fun i ys H2 h=>by rw[h.1,List.length_map,List.length_map,List.length_take];exact Nat.min_le_left _ _) (fun i ys H2 h=>SqL.of (h.2.1 _ _ zc)) ?_ ?_
      ·rintro i ys H2 x N M hx ⟨rfl,s2,hD2⟩ hN hM
       rw[List.getElem?_map] at hx
       cases el:L[i]? with
       |none=>rw[el] at hx;cases hx
       |some y=>
        rw[el] at hx
        cases hx
        refine⟨_,rfl,y,rfl,tl y (List.mem_of_getElem? el),fun H3 s3=>hN _ H3 (s3 _ _ hD2) ⟨?_,(s2.trans s3).zao hD,zc⟩⟩
        rw[List.take_add_one,el,List.map_append,List.map_append]
        rfl
      ·rintro ys H2 ⟨rfl,s2,hD2⟩
       refine⟨D,_,rfl,SqL.of hD2,?_⟩
       have q:=k H2 (s0.trans s2)
       rw[ek,decide_eq_true h4,Bool.true_and] at q
       rw[List.length_map,List.take_length,List.all_map]
       exact q
     ·refine zZb (decide_eq_false (by rw[List.length_map];omega)) ?_
      have q:=k _ s0
      rw[ek,decide_eq_false h4] at q
      exact q
end
def SoAt (H:Hp)(C p:Addr):Prop:=∃dx,H p=some (.ins C dx [])
theorem SoAt.same {H H':Hp}{C p:Addr}(h:SoAt H C p)(s:Same H H'):SoAt H' C p:=by
 obtain⟨dx,h⟩:=h
 exact⟨dx,s _ _ h⟩
def zdi (z:Str):Nat->Option So
 |0=>zGa z
 |1=>if isName z then some .nam else if isList z then some .lis else if zya z then some .mar else none
 |2=>if isList z then some .lis else if zya z then some .mar else none
 |3=>if zya z then some .mar else none
 |_=>none
def spAl (C1 C2 C3 C4:Addr):Sp:=fun vs H Q _=>vs=[]/\∀(a x1 x2 x3 x4:Addr) H',Same H H'->SoAt H' C1 x1->SoAt H' C2 x2->SoAt H' C3 x3->SoAt H' C4 x4->H' a=some (.tup [.ref x1,.ref x2,.ref x3,.ref x4])->Q (.ref a) H'
def spSo:Sp:=fun vs H Q _=>∃z:Str,vs=[.str z]/\Tx 1000 z/\∀H',Same H H'->Q (vS (zGa z)) H'
structure SK (P:Program)(w:World)(K:W.Frag)(mg:zT3)(base:Heap)(C:Addr)(p:Str->Bool)(x:Str):Prop where
 cls:Cls K C
 tk:∃f fd,Meth K C "takes" f/\Binds K fd ["self","text"] []/\FnOk P w K mg base CX0 4 f fd ["self","text"] (spTk p)
 wd:∃f fd,Meth K C "word" f/\Binds K fd ["self"] []/\FnOk P w K mg base CX0 4 f fd ["self"] (spWo x)
section
variable {P:Program}{w:World}{K:W.Frag}{mg:zT3}{base:Heap}
theorem zei {n q:Str}{st:Stmt}{x:Str}{p1 p2:Pos}{k0:Nat}(F:Fun K n q st f fd)(sc:FnScope ["self"] ["self"] (zb st))(hb:zj st=[.Return (some (.Constant (.str x) k0 p1)) p2]):FnOk P w K mg base CX0 1 f fd ["self"] (spWo x):=by
 refine F.ok sc (fun vs H Q E h=>?_) (fun cdv A outer s H vs Q E hr h=>?_)
 ·obtain⟨v,rfl,_⟩:=h
  rfl
 ·obtain⟨v,rfl,k⟩:=h
  rw[hb]
  exact⟨_,zf (zp zx),k⟩
theorem scAl:FnScope [] [] (zb sAl):=.of (by decide +kernel)
theorem zgn (F:Fun K "all_sorts" "all_sorts" sAl f fd)
  (N:Kd K mg "Number" C1 t1 w1 ft1 fw1)(A:Kd K mg "Name" C2 t2 w2 ft2 fw2)(I:Kd K mg "Items" C3 t3 w3 ft3 fw3)(M:Kd K mg "Mark" C4 t4 w4 ft4 fw4):FnOk P w K mg base CX0 1 f fd [] (spAl C1 C2 C3 C4):=by
 refine F.ok scAl (fun vs H Q E h=>?_) (fun cdv A1 outer s H vs Q E hr h=>?_)
 ·rw[h.1]
  rfl
 ·obtain⟨rfl,k⟩:=h
  refine⟨_,zf (zp (zua (za (zwb N.mkn rfl N.g) (za (zwb A.mkn rfl A.g) (za (zwb I.mkn rfl I.g) (za (zwb M.mkn rfl M.g) zd)))))),?_⟩
  intro x1 d1 a1 b1 _ x2 d2 a2 b2 _ x3 d3 a3 b3 _ x4 d4 a4 b4 _
  refine⟨(by show 4<=sizeLine;decide),fun p hp=>?_⟩
  have s1:=((Same.refl H).zao (o:=.own x1) b1).zao (o:=.ins C1 d1 []) a1
  have s2:=((Same.refl _).zao (o:=.own x2) b2).zao (o:=.ins C2 d2 []) a2
  have s3:=((Same.refl _).zao (o:=.own x3) b3).zao (o:=.ins C3 d3 []) a3
  have s4:=((Same.refl _).zao (o:=.own x4) b4).zao (o:=.ins C4 d4 []) a4
  have s5:=(Same.refl _).zao (o:=.tup [.ref x1,.ref x2,.ref x3,.ref x4]) hp
  refine k p x1 x2 x3 x4 _ ((((s1.trans s2).trans s3).trans s4).trans s5) ⟨d1,((s2.trans s3).trans (s4.trans s5)) _ _ zc⟩ ⟨d2,(s3.trans (s4.trans s5)) _ _ zc⟩ ⟨d3,(s4.trans s5) _ _ zc⟩ ⟨d4,s5 _ _ zc⟩ zc
theorem scSo:FnScope ["text","sort"] ["text"] (zb sSo):=.of (by decide +kernel)
theorem zhn (F:Fun K "sort_of" "sort_of" sSo f fd)(FA:Fun K "all_sorts" "all_sorts" sAl fA fdA)(bA:Binds K fdA [] [])(gA:mg "all_sorts"=some (.ref fA))(GA:FnOk P w K mg base CX0 1 fA fdA [] (spAl C1 C2 C3 C4))
  (S1:SK P w K mg base C1 isNum (So.str .num))(S2:SK P w K mg base C2 isName (So.str .nam))(S3:SK P w K mg base C3 isList (So.str .lis))(S4:SK P w K mg base C4 zya (So.str .mar)):FnOk P w K mg base CX0 5 f fd ["text"] spSo:=by
 refine F.ok scSo (fun vs H Q E h=>?_) (fun cdv A outer s H vs Q E hr h=>?_)
 ·obtain⟨z,rfl,_⟩:=h
  rfl
 ·obtain⟨z,rfl,tz,k⟩:=h
  have hr1:Room 1 _:=hr.mono (by decide)
  refine⟨_,ze (zta PassesOwn.never rfl (zkc (zKh GA hr1 rfl gA FA.kp bA .nil zw)) (zC (i:=1) scSo.nd rfl (Or.inl rfl))
    (zf (zM (zba (ztd (CX:=CX0) (pv 1) hr zw (za (pv 0) zd))) (zf (zp (zBg (CX:=CX0) (pv 1) hr zw))) zt)))
   (zf (zp zia)),?_⟩
  refine⟨rfl,fun a x1 x2 x3 x4 H1 s1 y1 y2 y3 y4 ha=>?_⟩
  refine⟨a,rfl,⟨_,SqT.of ha⟩,?_⟩
  refine zcg (xs:=[.ref x1,.ref x2,.ref x3,.ref x4]) (fun i σ H2=>(∃v,σ=[some (.str z),v])/\Same H1 H2/\zGa z=zdi z i) ⟨⟨none,rfl⟩,Same.refl _,rfl⟩ (fun i σ H2 _ h=>SqT.of (h.2.1 _ _ ha)) ?_ ?_
  ·rintro i x σ H2 hx ⟨⟨v,rfl⟩,s2,er⟩
   have row:∃(C y:Addr)(p:Str->Bool)(o:So),x=.ref y/\SoAt H2 C y/\SK P w K mg base C p o.str/\(p z=true->zdi z i=some o)/\(p z=false->zdi z i=zdi z (i+1)):=by
    rcases i with _|_|_|_|i
    ·cases hx
     exact⟨C1,x1,isNum,.num,rfl,y1.same s2,S1,fun e=>if_pos e,fun e=>if_neg (by rw[e];nofun)⟩
    ·cases hx
     exact⟨C2,x2,isName,.nam,rfl,y2.same s2,S2,fun e=>if_pos e,fun e=>if_neg (by rw[e];nofun)⟩
    ·cases hx
     exact⟨C3,x3,isList,.lis,rfl,y3.same s2,S3,fun e=>if_pos e,fun e=>if_neg (by rw[e];nofun)⟩
    ·cases hx
     exact⟨C4,x4,zya,.mar,rfl,y4.same s2,S4,fun e=>if_pos e,fun e=>if_neg (by rw[e];nofun)⟩
    ·cases hx
   obtain⟨C,y,p,o,rfl,⟨dx,hy⟩,S,hT,hF⟩:=row
   obtain⟨ft,fdt,mt,bt,ot⟩:=S.tk
   obtain⟨fw,fdw,mw,bw,ow⟩:=S.wd
   refine⟨_,rfl,y,C,dx,[],ft,fdt,_,_,rfl,hy,rfl,S.cls,mt,ot,bt,_,rfl,.ref y,z,rfl,tz,fun H3 s3=>⟨_,rfl,?_⟩⟩
   cases e:p z with
   |true=>
    refine iteT ⟨_,rfl,y,C,dx,[],fw,fdw,_,_,rfl,s3 _ _ hy,rfl,S.cls,mw,ow,bw,.ref y,rfl,?_⟩
    have q:=k H3 ((s1.trans s2).trans s3)
    rw[er,hT e] at q
    exact q
   |false=>exact iteF ⟨⟨_,rfl⟩,s2.trans s3,er.trans (hF e)⟩
  ·rintro σ H2 ⟨⟨v,rfl⟩,s2,er⟩
   have q:=k H2 (s1.trans s2)
   rw[er] at q
   exact q
theorem scNw:FnScope ["self"] ["self"] (zb sNw):=.of (by decide +kernel)
theorem scAw:FnScope ["self"] ["self"] (zb sAw):=.of (by decide +kernel)
theorem scIw:FnScope ["self"] ["self"] (zb sIw):=.of (by decide +kernel)
theorem scKw:FnScope ["self"] ["self"] (zb sKw):=.of (by decide +kernel)
theorem zfi {C1 C2 C3 C4 t1 w1 t2 w2 t3 w3 t4 w4 fMo fIi fAl fSo:Addr}{ft1 fw1 ft2 fw2 ft3 fw3 ft4 fw4 fdMo fdIi fdAl fdSo:FuncData}(T:TS mg)
  (N:Kd K mg "Number" C1 t1 w1 ft1 fw1)(A:Kd K mg "Name" C2 t2 w2 ft2 fw2)(I:Kd K mg "Items" C3 t3 w3 ft3 fw3)(M:Kd K mg "Mark" C4 t4 w4 ft4 fw4)
  (F1:Fun K "takes" "Number.takes" sNt t1 ft1)(G1:Fun K "word" "Number.word" sNw w1 fw1)(F2:Fun K "takes" "Name.takes" sAt t2 ft2)(G2:Fun K "word" "Name.word" sAw w2 fw2)
  (F3:Fun K "takes" "Items.takes" sIt t3 ft3)(G3:Fun K "word" "Items.word" sIw w3 fw3)(F4:Fun K "takes" "Mark.takes" sKt t4 ft4)(G4:Fun K "word" "Mark.word" sKw w4 fw4)
  (FMo:Fun K "made_of" "made_of" sMo fMo fdMo)(bMo:Binds K fdMo ["signs","text"] [])(gMo:mg "made_of"=some (.ref fMo))
  (FIi:Fun K "is_item" "is_item" sIi fIi fdIi)(bIi:Binds K fdIi ["text"] [])(gIi:mg "is_item"=some (.ref fIi))
  (FAl:Fun K "all_sorts" "all_sorts" sAl fAl fdAl)(bAl:Binds K fdAl [] [])(gAl:mg "all_sorts"=some (.ref fAl))
  (FSo:Fun K "sort_of" "sort_of" sSo fSo fdSo):FnOk P w K mg base CX0 5 fSo fdSo ["text"] spSo:=by
 have k1:FnOk P w K mg base CX0 2 t1 ft1 ["self","text"] (spTk isNum):=zbn F1 T FMo bMo gMo
 have k2:FnOk P w K mg base CX0 2 t2 ft2 ["self","text"] (spTk isName):=zcn F2 T FMo bMo gMo
 have kI:FnOk P w K mg base CX0 3 fIi fdIi ["text"] spIi:=zdn FIi N A k1 k2
 have k3:FnOk P w K mg base CX0 4 t3 ft3 ["self","text"] (spTk isList):=zfn F3 T FIi bIi gIi kI
 have k4:FnOk P w K mg base CX0 4 t4 ft4 ["self","text"] (spTk zya):=zen F4 T FMo bMo gMo FIi bIi gIi kI
 have o1:FnOk P w K mg base CX0 1 w1 fw1 ["self"] (spWo (So.str .num)):=zei G1 scNw rfl
 have o2:FnOk P w K mg base CX0 1 w2 fw2 ["self"] (spWo (So.str .nam)):=zei G2 scAw rfl
 have o3:FnOk P w K mg base CX0 1 w3 fw3 ["self"] (spWo (So.str .lis)):=zei G3 scIw rfl
 have o4:FnOk P w K mg base CX0 1 w4 fw4 ["self"] (spWo (So.str .mar)):=zei G4 scKw rfl
 exact zhn FSo FAl bAl gAl (zgn FAl N A I M)
  ⟨N.cls,⟨t1,ft1,N.mt,N.bt,k1.mono (by decide)⟩,⟨w1,fw1,N.mw,N.bw,o1.mono (by decide)⟩⟩
  ⟨A.cls,⟨t2,ft2,A.mt,A.bt,k2.mono (by decide)⟩,⟨w2,fw2,A.mw,A.bw,o2.mono (by decide)⟩⟩
  ⟨I.cls,⟨t3,ft3,I.mt,I.bt,k3⟩,⟨w3,fw3,I.mw,I.bw,o3.mono (by decide)⟩⟩
  ⟨M.cls,⟨t4,ft4,M.mt,M.bt,k4⟩,⟨w4,fw4,M.mw,M.bw,o4.mono (by decide)⟩⟩
end
def okMark (z:Str):Prop:=1<=z.length/\z.length<=12/\zW MAR z=true
def zhb (xs:List Str):Str:=Str.ofString "["++Str.join (Str.ofString ",") xs++Str.ofString "]"
inductive Wd (z:Str):Prop where
 |mar (h:okMark z)
 |lis (xs:List Str) (h:xs.length<=4) (hi:∀x∈xs,zP x=true) (e:z=zhb xs)
def numS (z:Str):Bool:=zW FIG z&&(decide (z.length<10)&&(decide (z=Str.ofString "0")||!decide ((⟨#[hd z]⟩:Str)=Str.ofString "0")))
def namS (z:Str):Bool:=hasC SMA (hd z)&&(z.cps.toList.filter fun c=>!hasC FIG c).all (hasC SMA)
def lawS (z:Str):So:=if (⟨#[hd z]⟩:Str)=Str.ofString "[" then .lis else if numS z then .num else if namS z then .nam else .mar
theorem app_list (y z:Str):(y++z).cps.toList=y.cps.toList++z.cps.toList:=by
 rw[Str.cps_append,Array.toList_append]
theorem one_inj {c d:Nat}(h:(⟨#[c]⟩:Str)=⟨#[d]⟩):c=d:=by
 injection h with h
 injection h with h
 injection h
theorem zbj (c:Nat):hasC NAM c=(hasC SMA c||hasC FIG c):=by
 have e:NAM.cps.toList=SMA.cps.toList++FIG.cps.toList:=by decide +kernel
 unfold hasC
 rw[e]
 by_cases h1:c∈SMA.cps.toList
 ·rw[decide_eq_true h1,decide_eq_true (List.mem_append_left _ h1)]
  rfl
 ·by_cases h2:c∈FIG.cps.toList
  ·rw[decide_eq_true h2,decide_eq_true (List.mem_append_right _ h2),Bool.or_true]
  ·rw[decide_eq_false h1,decide_eq_false h2,decide_eq_false (fun y=>(List.mem_append.mp y).elim h1 h2)]
   rfl
theorem zNj (l:List Nat):(l.filter fun c=>!hasC FIG c).all (hasC SMA)=l.all (hasC NAM):=by
 induction l with
 |nil=>rfl
 |cons c l ih=>
  rw[List.filter_cons,List.all_cons,zbj]
  cases h:hasC FIG c with
  |true=>
   rw[if_neg (by nofun),ih,Bool.or_true,Bool.true_and]
  |false=>
   rw[if_pos (show(!false)=true from rfl),List.all_cons,ih,Bool.or_false]
theorem hd_mem {z:Str}(h:1<=z.length):hd z∈z.cps.toList:=by
 unfold hd
 have e:=zLa z
 cases g:z.cps.toList with
 |nil=>
  rw[g] at e
  have:z.length=0:=e.symm
  omega
 |cons c r=>exact List.mem_cons_self ..
theorem zZg {S z:Str}(h:1<=z.length)(m:zW S z=true):hd z∈S.cps.toList:=of_decide_eq_true (List.all_eq_true.mp m _ (hd_mem h))
theorem zah {z:Str}{c:Nat}(h:1<=z.length)(s:Txt.startswith z ⟨#[c]⟩=true):hd z=c:=by
 unfold Txt.startswith at s
 have s2:=(Bool.and_eq_true_iff.mp s).2
 have q:=(StrLaws.subAt_one z c 0).mp ⟨by show 0+1<=_;omega,s2⟩
 unfold hd
 cases g:z.cps.toList with
 |nil=>rw[g] at q;cases q
 |cons d r=>
  rw[g] at q
  cases q
  rfl
theorem zbh {z:Str}(h:okMark z):zGa z=some (lawS z):=by
 obtain⟨h1,h2,h3⟩:=h
 have hm:=zZg h1 h3
 have nb:¬(⟨#[hd z]⟩:Str)=Str.ofString "[":=fun e=>by
  have e2:hd z=91:=one_inj e
  rw[e2] at hm
  revert hm
  decide +kernel
 have en:isNum z=numS z:=by
  unfold isNum numS
  by_cases h9:z.length<=9
  ·rw[decide_eq_true ⟨h1,h9⟩,decide_eq_true (show z.length<10 by omega),Bool.true_and,Bool.true_and]
  ·rw[decide_eq_false (fun y=>h9 y.2),decide_eq_false (show ¬z.length<10 by omega),Bool.false_and,Bool.false_and,Bool.and_false]
 have ea:isName z=namS z:=by
  unfold isName namS
  rw[decide_eq_true ⟨h1,h2⟩,Bool.true_and,zNj]
  rfl
 have el:isList z=false:=by
  unfold isList
  cases hs:Txt.startswith z (Str.ofString "[") with
  |false=>rfl
  |true=>
   have q:=zah (c:=91) h1 hs
   exact absurd (by rw[q];rfl) nb
 unfold zGa lawS
 rw[if_neg nb,en,ea,el]
 cases a:numS z with
 |true=>rfl
 |false=>
  cases b:namS z with
  |true=>rfl
  |false=>
   have em:zya z=true:=by
    unfold zya zP
    rw[decide_eq_true ⟨h1,h2⟩,h3,en,ea,a,b]
    rfl
   rw[em]
   rfl
theorem zbd {x:Str}(h:zP x=true):1<=x.length/\x.length<=12/\zW NAM x=true:=by
 unfold zP at h
 rcases Bool.or_eq_true_iff.mp h with h|h
 ·unfold isNum at h
  have a:=of_decide_eq_true (Bool.and_eq_true_iff.mp h).1
  have b:=(Bool.and_eq_true_iff.mp (Bool.and_eq_true_iff.mp h).2).1
  refine⟨a.1,by omega,List.all_eq_true.mpr fun c hc=>?_⟩
  rw[zbj,List.all_eq_true.mp b c hc,Bool.or_true]
 ·unfold isName at h
  have a:=of_decide_eq_true (Bool.and_eq_true_iff.mp h).1
  exact⟨a.1,a.2,(Bool.and_eq_true_iff.mp (Bool.and_eq_true_iff.mp h).2).2⟩
theorem zOf {x:Str}(h:zP x=true):∀c∈x.cps.toList,c≠44:=fun c hc e=>by
 have q:hasC NAM c=true:=List.all_eq_true.mp (zbd h).2.2 c hc
 rw[e] at q
 revert q
 decide +kernel
theorem zgc (c:Nat):∀(l:List Nat)(s:List Str×Str),(∀x∈l,x≠c)->l.foldl (zna c) s=(s.1,s.2++⟨l.toArray⟩)
 | [],s,_=>by
  have e:s.2++(⟨#[]⟩:Str)=s.2:=Str.ext' (by rw[Str.cps_append];exact Array.append_empty)
  rw[show([]:List Nat).toArray=#[] from rfl,e]
  rfl
 |x::l,s,h=>by
  rw[List.foldl_cons,zgc c l _ fun y hy=>h y (List.mem_cons_of_mem _ hy)]
  unfold zna
  rw[if_neg (h x (List.mem_cons_self ..))]
  refine Prod.ext rfl (Str.ext' ?_)
  show((s.2++⟨#[x]⟩)++(⟨l.toArray⟩:Str)).cps=(s.2++(⟨(x::l).toArray⟩:Str)).cps
  rw[Str.cps_append,Str.cps_append,Str.cps_append]
  apply Array.toList_inj.mp
  simp
theorem zAd {c:Nat}:∀(xs:List Str)(d:List Str),xs≠[]->(∀x∈xs,∀k∈x.cps.toList,k≠c)→
  ((Str.join ⟨#[c]⟩ xs).cps.toList.foldl (zna c) (d,Str.empty)).1++[((Str.join ⟨#[c]⟩ xs).cps.toList.foldl (zna c) (d,Str.empty)).2]=d++xs
 | [],d,h,_=>absurd rfl h
 | [x],d,_,hx=>by
  rw[show Str.join ⟨#[c]⟩ [x]=x from rfl,zgc c _ _ (hx x (List.mem_cons_self ..))]
  have e:Str.empty++(⟨x.cps.toList.toArray⟩:Str)=x:=Str.ext' (by rw[Str.cps_append];exact(Array.empty_append).trans (Array.toArray_toList))
  show d++[Str.empty++(⟨x.cps.toList.toArray⟩:Str)]=_
  rw[e]
 |x::y::r,d,_,hx=>by
  have ej:Str.join ⟨#[c]⟩ (x::y::r)=x++⟨#[c]⟩++Str.join ⟨#[c]⟩ (y::r):=rfl
  have e:Str.empty++(⟨x.cps.toList.toArray⟩:Str)=x:=Str.ext' (by rw[Str.cps_append];exact(Array.empty_append).trans (Array.toArray_toList))
  rw[ej,app_list,app_list,List.foldl_append,List.foldl_append,zgc c _ _ (hx x (List.mem_cons_self ..))]
  have e2:([c]:List Nat).foldl (zna c) (d,Str.empty++(⟨x.cps.toList.toArray⟩:Str))=(d++[x],Str.empty):=by
   rw[e]
   exact if_pos rfl
  rw[show(⟨#[c]⟩:Str).cps.toList=[c] from rfl,e2]
  have q:=zAd (c:=c) (y::r) (d++[x]) (by nofun) fun z hz=>hx z (List.mem_cons_of_mem _ hz)
  rw[List.append_assoc] at q
  exact q
theorem zPf {xs:List Str}(h:xs≠[])(hi:∀x∈xs,zP x=true):Txt.split (Str.join (Str.ofString ",") xs) (Str.ofString ",")=xs:=by
 rw[show Str.ofString ","=(⟨#[44]⟩:Str) from rfl,zKa _ (by decide)]
 exact zAd xs [] h fun x hx=>zOf (hi x hx)
theorem zch (x:Str):Txt.slice (Str.ofString "["++x++Str.ofString "]") (some 1) (some (-1))=x:=by
 have hl:(Str.ofString "["++x++Str.ofString "]").length=x.length+2:=by
  rw[Str.length_append,Str.length_append,show(Str.ofString "[").length=1 from rfl,show(Str.ofString "]").length=1 from rfl]
  omega
 have e1:Txt.slice (Str.ofString "["++x++Str.ofString "]") (some 1) (some (-1))=StrLaws.sliceText (Str.ofString "["++x++Str.ofString "]") (some 1) (some (-1)):=rfl
 rw[e1,StrLaws.sliceText_neg_hi _ _ (by decide) (by rw[hl];omega),StrLaws.sliceText_plain ⟨by decide,by rw[hl];omega,by rw[zLa,hl];omega⟩,hl]
 refine Str.ext' (Array.toList_inj.mp ?_)
 rw[app_list,app_list]
 have e2:(-1+((x.length+2:Nat):Int)-1).toNat=x.cps.toList.length:=by rw[zLa];omega
 rw[e2]
 show((([91]++x.cps.toList)++[93]).drop 1).take x.cps.toList.length=x.cps.toList
 rw[List.append_assoc]
 show(x.cps.toList++[93]).take x.cps.toList.length=_
 exact List.take_left' rfl
theorem zpl (xs:List Str):hd (zhb xs)=91:=by
 unfold hd zhb
 rw[app_list,app_list]
 rfl
theorem zdh (xs:List Str):2<=(zhb xs).length:=by
 unfold zhb
 rw[Str.length_append,Str.length_append,show(Str.ofString "[").length=1 from rfl,show(Str.ofString "]").length=1 from rfl]
 omega
theorem zgi {xs:List Str}(h:xs.length<=4)(hi:∀x∈xs,zP x=true):zGa (zhb xs)=some (lawS (zhb xs)):=by
 have l2:=zdh xs
 have eh:=zpl xs
 have en:isNum (zhb xs)=false:=by
  cases q:isNum (zhb xs) with
  |false=>rfl
  |true=>
   unfold isNum at q
   have b:=zZg (by omega) (Bool.and_eq_true_iff.mp (Bool.and_eq_true_iff.mp q).2).1
   rw[eh] at b
   revert b
   decide +kernel
 have ea:isName (zhb xs)=false:=by
  unfold isName
  rw[eh,show hasC SMA 91=false by decide +kernel,Bool.false_and,Bool.and_false]
 have el:isList (zhb xs)=true:=by
  unfold isList
  have e1:Txt.startswith (zhb xs) (Str.ofString "[")=true:=by
   unfold zhb
   rw[W.KAf.starts_left (by rw[Str.length_append];omega)]
   exact W.KT.starts_app _ _
  have e2:Txt.endswith (zhb xs) (Str.ofString "]")=true:=W.KT.ends_app _ _
  rw[e1,e2]
  by_cases hx:xs=[]
  ·rw[hx]
   decide +kernel
  ·have es:Txt.slice (zhb xs) (some 1) (some (-1))=Str.join (Str.ofString ",") xs:=zch _
   rw[es,zPf hx hi,decide_eq_true h,List.all_eq_true.mpr hi,Bool.and_self,Bool.or_true]
   rfl
 unfold zGa lawS
 rw[en,ea,el,eh]
 rfl
theorem Wd.sort {z:Str}(h:Wd z):zGa z=some (lawS z):=by
 cases h with
 |mar h=>exact zbh h
 |lis xs h hi e=>
  rw[e]
  exact zgi h hi
end SL
namespace L2
open PySem PyProof
theorem Same.zoo {H H':Hp}(s:Same H H'){b:PySem.Addr}(h:H' b=none):H b=none:=by
 cases e:H b with
 |none=>rfl
 |some o=>rw[s _ _ e] at h;cases h
theorem FnOk.zpo {P:Program}{w:World}{K:W.Frag}{mg:zT3}{base:Heap}{k:Nat}{f:Addr}{fd:FuncData}{ps:List Str}{sp:Sp}(F:FnOk P w K mg base (CX1 P w) k f fd ps sp):FnOk P w K mg base CX0 k f fd ps (fun vs H Q _=>sp vs H Q E0):=
 ⟨fun vs H Q _ q=>F.len vs H Q E0 q,fun A outer s H args us vs Q E hr he hb hv hs=>codeAny_mono (F.run A outer s H args us vs Q E0 hr he hb hv hs) fun r s' hq=>by
  cases r with
  |error e=>
   obtain⟨a,C,dd,H2,_,_,_,_,_,_,z⟩:=hq
   exact z.elim
  |ok fl=>cases fl<;>exact hq⟩
section
variable {X:Cx}
def zin (i j:Int):Prop:=0<j/\j<2 ^ 64
theorem zhi:OpR X (binaryOp .FloorDiv) (rI zin fun i j=>.int (i / j)):=opI fun i j _ _ _ _ _ hc q=>by
 have h1:(0:Int)<j:=hc.1
 have h2:j<2 ^ 64:=hc.2
 refine PyProof.Rows.floordiv_int (by omega) (by rw[Int.fdiv_eq_ediv_of_nonneg i (by omega)];exact q) (.inl (PyProof.noPylong_of_log2 ?_))
 have h3:j.natAbs<2 ^ 64:=by omega
 have h4:j.natAbs.log2<64:=(Nat.log2_lt (by omega)).mpr h3
 omega
end
end L2
namespace SL
open PySem L2
def spNi (CN:Addr):Sp:=fun vs H Q _=>∃(a:Addr)(x:V),vs=[.ref a,x]/\H a=some (.ext (zaa a CN none))/\∀d,H d=none->d≠a->Q .non (upd (upd H a (.ext (zaa a CN (some d)))) d (.xd [("at",x)]))
theorem zql {K:W.Frag}{CN:Addr}{H:Hp}{E:XK}{x:V}(rz:zcb K CN=true)(kE:∀d H',Same H H'->H' d=some (.xd [("at",x)])->E (.ref CN) (some d) H')(H2:Hp)(E0':XK)(s2:Same H H2):∀a,H2 a=none->spNi CN (.ref a::([x]++[])) (upd H2 a (.ext (zaa a CN none))) (fun v H3=>v=.non/\∃a' C dd,V.ref a=.ref a'/\H3 a'=some (.ext (zaa a' C dd))/\H a'=none/\zcb K C=true/\E (.ref C) dd (untr H3 a')) E0':=by
 intro a ha
 have haH:H a=none:=s2.zoo ha
 refine⟨a,_,rfl,zc,fun d hd hn=>⟨rfl,a,CN,some d,rfl,by rw[zy (Ne.symm hn),zc],haH,rz,?_⟩⟩
 have hd2:H2 d=none:=by rw[zy hn] at hd;exact hd
 refine kE d _ (fun b o e=>?_) ?_
 ·have nb:b≠a:=zJ e haH
  rw[zVa nb,zy (zJ (s2 _ _ e) hd2),zy nb,zy nb]
  exact s2 _ _ e
 ·rw[zVa hn,zc]
theorem zeh {α:Type}(l:List α)(i:Int)(h0:0<=i)(h:i<(l.length:Int)):∃x,x∈l/\atI l i=some x:=by
 have hl:i.toNat<l.length:=by omega
 refine⟨l[i.toNat],List.getElem_mem hl,?_⟩
 have z:((i.toNat:Nat):Int)=i:=by omega
 have q:atI l ((i.toNat:Nat):Int)=some l[i.toNat]:=zY (by simp[hl])
 exact(congrArg (atI l) z).symm.trans q
structure T1 (mg:zT3):Prop where
 len:mg "len"=none
 range:mg "range"=none
 isin:mg "isinstance"=none
 str:mg "str"=none
 bool:mg "bool"=none
 zip:mg "zip"=none
theorem decS (a b:Str):decide (V.str a=V.str b)=decide (a=b):=decide_eq_decide.mpr ⟨fun q=>by injection q,fun q=>by rw[q]⟩
theorem nil_iff (z:Str):z=Str.ofString ""↔z.length=0:=by
 constructor
 ·rintro rfl
  rfl
 ·intro h
  obtain⟨a⟩:=z
  have:a=#[]:=Array.size_eq_zero_iff.mp h
  subst this
  rfl
theorem zii (S:Str)(l:List Nat):eqsV (((l.filter fun c=>!hasC S c).map fun c=>V.str ⟨#[c]⟩)) []=l.all (hasC S):=by
 induction l with
 |nil=>rfl
 |cons c l ih=>
  rw[List.all_cons]
  cases h:hasC S c with
  |true=>
   rw[List.filter_cons_of_neg (by rw[h];nofun),ih]
   rfl
  |false=>
   rw[List.filter_cons_of_pos (by rw[h];rfl)]
   rfl
def spOf:Sp:=fun vs H Q _=>∃(z S:Str),vs=[.str z,.str S]/\Tx 1000 z/\∀H',Same H H'->Q (.bl (zW S z)) H'
def spBo (p:Str->Bool):Sp:=fun vs H Q _=>∃z:Str,vs=[.str z]/\Tx 1000 z/\∀H',Same H H'->Q (.bl (p z)) H'
section
variable {P:Program}{w:World}{K:W.Frag}{mg:zT3}{base:Heap}
theorem scOf:FnScope ["_law_text_here","_law_signs_here"] ["_law_text_here","_law_signs_here"] (zb sOf):=.of (by decide +kernel)
def zOj:Scope:=⟨.function,[(".0",.local),("_law_sign",.local),("_law_signs_here",.free)],false,false,[]⟩
theorem zrl:BlkScope (zb sOf) ["_law_text_here","_law_signs_here"] ["_law_sign"] ["_law_signs_here"] [1] zOj:=.of (by decide +kernel)
theorem zPj (F:Fun K "_law_of" "_law_of" sOf f fd):FnOk P w K mg base CX0 1 f fd ["_law_text_here","_law_signs_here"] spOf:=by
 refine F.ok scOf (fun vs H Q E h=>?_) (fun cdv A outer s H vs Q E hr h=>?_)
 ·obtain⟨z,S,rfl,_⟩:=h
  rfl
 ·obtain⟨z,S,rfl,tz,k⟩:=h
  have hu:_<cLine:=Nat.lt_of_le_of_lt (Nat.le_add_right _ 64) hr.units
  have hzl:=zza tz (by decide)
  refine⟨_,zf (zp (zQ (zcl hu) (zWa zrl rfl rfl rfl (zvg (pv 0)) (fun fp C s1 H1=>zC (i:=0) zrl.nd rfl (Or.inl rfl)) (fun fp C s1 H1=>zIa (zr znc (pv 0) (pv 1) (by with_unfolding_all rfl))) (fun fp C s1 H1=>pv 0)) (zva zd) (zu _))),?_⟩
  refine⟨_,rfl,z,1000,rfl,tz,fun D hD=>?_⟩
  refine zXi (z:=z) (fun j ys H3=>Same H H3/\H3 D=some (.lst ys)/\ys=((z.cps.toList.take j).filter fun c=>!hasC S c).map fun c=>V.str ⟨#[c]⟩) hzl ⟨(Same.refl H).zao hD,zc,by simp⟩ (fun j ys H3 h=>?_) ?_ ?_
  ·rw[h.2.2,List.length_map]
   refine Nat.le_trans (List.length_filter_le _ _) ?_
   rw[List.length_take]
   exact Nat.min_le_left _ _
  ·rintro j ys H3 c N M hc ⟨u1,u2,rfl⟩ hN hM
   have hc':z.cps.toList[j]?=some c:=by simpa using hc
   refine⟨_,rfl,_,rfl,_,_,rfl,rfl,!hasC S c,by rw[StrLaws.found_one];rfl,?_⟩
   cases hf:hasC S c with
   |false=>
    refine iteT ⟨_,rfl,hN _ H3 u2 ⟨u1.zao hD,zc,?_⟩⟩
    rw[List.take_add_one,hc',List.filter_append,List.map_append]
    simp[hf]
   |true=>
    refine iteF (hM H3 ⟨u1,u2,?_⟩)
    rw[List.take_add_one,hc',List.filter_append,List.map_append]
    simp[hf]
  ·rintro ys H3 ⟨u1,u2,rfl⟩
   rw[<- zLa,List.take_length] at u2
   refine⟨(by show 0<=sizeLine;decide),fun l hl=>?_⟩
   have s4:=(Same.refl H3).zao (o:=.lst []) hl
   refine⟨D,l,_,_,rfl,rfl,SqL.of (s4 _ _ u2),SqL.of zc,?_,rfl,?_⟩
   ·rw[List.all_map]
    exact List.all_eq_true.mpr fun _ _=>rfl
   ·rw[zii]
    exact k _ (u1.trans s4)
theorem scIn:FnScope ["_law_text_here"] ["_law_text_here"] (zb sIn):=.of (by decide +kernel)
theorem zjn (F:Fun K "_law_is_number" "_law_is_number" sIn f fd)(T:T1 mg)(FO:Fun K "_law_of" "_law_of" sOf fO fdO)(bO:Binds K fdO ["_law_text_here","_law_signs_here"] [])(gO:mg "_law_of"=some (.ref fO)):FnOk P w K mg base CX0 2 f fd ["_law_text_here"] (spBo isNum):=by
 have GO:FnOk P w K mg base CX0 1 fO fdO ["_law_text_here","_law_signs_here"] spOf:=zPj FO
 refine F.ok scIn (fun vs H Q E h=>?_) (fun cdv A outer s H vs Q E hr h=>?_)
 ·obtain⟨z,rfl,_⟩:=h
  rfl
 ·obtain⟨z,rfl,tz,k⟩:=h
  have hzl:=zza tz (by decide)
  refine⟨_,ze (zM (PW.pt (zPb (zr zV (pv 0) zx (zu _)) (zPb (zr zld (zq zca (by rfl) T.len PySem.boot_len (za (pv 0) zd)) zg (zu _)) (zDb (zEb (zba (zi GO hr rfl gO FO.kp bO .nil zw (za (pv 0) (za zx zd))))))))) (zf (zp zHb)) zt)
   (zf (zp (znj (zQ zV (pv 0) zx (zu _)) (zjb (zQ zTd (zU zkb (pv 0) zg (fun _ _=>rfl)) zx (zu _)))))),?_⟩
  have out:∀H',Same H H'->isNum z=false->Q (.bl false) H':=fun H' s' e=>by
   have q:=k H' s'
   rw[e] at q
   exact q
  refine⟨_,rfl,rfl,decide (z=Str.ofString ""),by rw[decS],?_⟩
  by_cases h0:z.length=0
  ·rw[decide_eq_true ((nil_iff z).mpr h0)]
   refine iteT (iteT (out H (Same.refl H) ?_))
   unfold isNum
   rw[decide_eq_false (by omega)]
   rfl
  rw[decide_eq_false (fun q=>h0 ((nil_iff z).mp q))]
  refine iteF ⟨_,rfl,z,rfl,hzl,_,_,rfl,rfl,_,rfl,?_⟩
  by_cases h9:9<z.length
  ·rw[decide_eq_true (by omega)]
   refine iteT (iteT (out H (Same.refl H) ?_))
   unfold isNum
   rw[decide_eq_false (by omega)]
   rfl
  rw[decide_eq_false (by omega)]
  refine iteF ⟨_,rfl,z,FIG,rfl,tz,fun H1 s1=>⟨_,rfl,?_⟩⟩
  have ek:isNum z=(zW FIG z&&(decide (z=Str.ofString "0")||!decide ((⟨#[hd z]⟩:Str)=Str.ofString "0"))):=by
   unfold isNum
   rw[decide_eq_true ⟨by omega,by omega⟩,Bool.true_and]
  have q:=k H1 s1
  rw[ek] at q
  cases hm:zW FIG z with
  |false=>exact iteT (out H1 s1 (by rw[ek,hm];rfl))
  |true=>
   rw[hm,Bool.true_and] at q
   refine iteF ⟨_,rfl,rfl,_,rfl,?_⟩
   by_cases hz:z=Str.ofString "0"
   ·rw[decide_eq_true hz,Bool.true_or] at q
    exact zJb (decide_eq_true (by rw[hz])) q
   ·rw[decide_eq_false hz,Bool.false_or] at q
    refine zZb (decide_eq_false (fun y=>hz (by injection y))) ?_
    refine⟨_,rfl,_,_,hd z,rfl,rfl,hzl,at0 (by omega),rfl,?_⟩
    rw[decS]
    exact q
theorem scIm:FnScope ["_law_text_here","_law_small"] ["_law_text_here"] (zb sIm):=.of (by decide +kernel)
theorem zkn (F:Fun K "_law_is_name" "_law_is_name" sIm f fd)(T:T1 mg)(FO:Fun K "_law_of" "_law_of" sOf fO fdO)(bO:Binds K fdO ["_law_text_here","_law_signs_here"] [])(gO:mg "_law_of"=some (.ref fO)):FnOk P w K mg base CX0 2 f fd ["_law_text_here"] (spBo isName):=by
 have GO:FnOk P w K mg base CX0 1 fO fdO ["_law_text_here","_law_signs_here"] spOf:=zPj FO
 refine F.ok scIm (fun vs H Q E h=>?_) (fun cdv A outer s H vs Q E hr h=>?_)
 ·obtain⟨z,rfl,_⟩:=h
  rfl
 ·obtain⟨z,rfl,tz,k⟩:=h
  have hzl:=zza tz (by decide)
  refine⟨_,ze (zH (i:=1) scIm.nd rfl (Or.inl rfl) zx)
   (ze (zM (PW.pt (zPb (zr zV (pv 0) zx (zu _)) (zPb (zr zld (zq zca (by rfl) T.len PySem.boot_len (za (pv 0) zd)) zg (zu _)) (zDb (zr znc (zU zkb (pv 0) zg (fun _ _=>rfl)) (pv 1) (by with_unfolding_all rfl)))))) (zf (zp zHb)) zt)
   (zf (zp (zi GO hr rfl gO FO.kp bO .nil zw (za (pv 0) (za (zz zX (pv 1) zx) zd)))))),?_⟩
  have out:∀H',Same H H'->isName z=false->Q (.bl false) H':=fun H' s' e=>by
   have q:=k H' s'
   rw[e] at q
   exact q
  refine⟨_,rfl,rfl,decide (z=Str.ofString ""),by rw[decS],?_⟩
  by_cases h0:z.length=0
  ·rw[decide_eq_true ((nil_iff z).mpr h0)]
   refine iteT (iteT (out H (Same.refl H) ?_))
   unfold isName
   rw[decide_eq_false (by omega)]
   rfl
  rw[decide_eq_false (fun q=>h0 ((nil_iff z).mp q))]
  refine iteF ⟨_,rfl,z,rfl,hzl,_,_,rfl,rfl,_,rfl,?_⟩
  by_cases h9:12<z.length
  ·rw[decide_eq_true (by omega)]
   refine iteT (iteT (out H (Same.refl H) ?_))
   unfold isName
   rw[decide_eq_false (by omega)]
   rfl
  rw[decide_eq_false (by omega)]
  refine iteF ⟨_,rfl,_,_,hd z,rfl,rfl,hzl,at0 (by omega),_,rfl,_,_,rfl,rfl,!hasC SMA (hd z),by rw[StrLaws.found_one];rfl,?_⟩
  have ek:isName z=(hasC SMA (hd z)&&zW NAM z):=by
   unfold isName
   rw[decide_eq_true ⟨by omega,by omega⟩,Bool.true_and]
  cases hm:hasC SMA (hd z) with
  |false=>exact iteT (out H (Same.refl H) (by rw[ek,hm];rfl))
  |true=>
   rw[ek,hm,Bool.true_and] at k
   have en:(Str.ofString "abcdefghijklmnopqrstuvwxyz"++Str.ofString "0123456789":Str)=NAM:=by decide +kernel
   refine iteF ⟨_,rfl,_,rfl,_,_,rfl,rfl,by decide +kernel,z,_,rfl,tz,fun H1 s1=>?_⟩
   rw[en]
   exact k H1 s1
end
end SL
namespace L2
open PySem PySem.Spec PyProof.Rows
theorem zQj {z:Str}{g:TG}{tb:TS}{D:Ends}{σ:St}{H:Hp}(Pv:Nat->St->Hp->Prop)(h0:Pv 0 σ H)
  (hs:∀i c σ H,z.cps[i]?=some c->Pv i σ H->g (.str ⟨#[c]⟩) σ H fun σ2 H2=>tb { D with nx:=Pv (i+1),ct:=Pv (i+1),bk:=D.nx } σ2 H2)(hd:∀σ H,Pv z.length σ H->D.nx σ H):
  ∃W:Nat->Nat->St->Hp->Prop,(∃m,W 0 m σ H)/\∀i m σ H,W i m σ H→
   ((Its z).stop i H/\D.nx σ H)\/((Its z).go i H/\∃N:St->Hp->Prop,(∀σ' H',N σ' H'->∃m',m'<m/\W (i+1) m' σ' H')/\∀x H',(Its z).yld i H x H'->g x σ H' fun σ2 H2=>tb { D with nx:=N,ct:=N,bk:=D.nx } σ2 H2):=by
 refine⟨fun i m σ H=>m=z.length-i/\i<=z.length/\Pv i σ H,⟨z.length,by simp,Nat.zero_le _,h0⟩,?_⟩
 rintro i m σ H ⟨rfl,hi,p⟩
 by_cases hlt:i<z.length
 ·refine .inr ⟨hlt,Pv (i+1),fun σ' H' p'=>⟨z.length-(i+1),by omega,rfl,hlt,p'⟩,fun x H' y=>?_⟩
  obtain⟨e,c,hc,y⟩:=y
  subst e y
  exact hs i c σ _ hc p
 ·have e:i=z.length:=by omega
  subst e
  exact .inl ⟨Nat.le_refl _,hd σ H p⟩
end L2
namespace SL
open PySem L2
def la (z:Str):Nat:=z.cps.toList.getD (z.length-1) 0
theorem zfh (z:Str)(i:Nat)(h:i<z.length):z.cps.toList[i]?=some (z.cps.toList.getD i 0):=by
 have h':i<z.cps.toList.length:=by rw[zLa];exact h
 rw[List.getD,List.getElem?_eq_getElem h']
 rfl
theorem hd_getD (z:Str):hd z=z.cps.toList.getD 0 0:=by
 unfold hd
 cases z.cps.toList<;>rfl
theorem zRj {z:Str}(h:1<=z.length):atI z.cps.toList (-1)=some (la z):=by
 have e:=zLa z
 unfold atI ixN
 rw[if_neg (by omega),if_pos (by omega),e]
 show z.cps.toList[(-1+(z.length:Int)).toNat]?=some (la z)
 have:(-1+(z.length:Int)).toNat=z.length-1:=by omega
 rw[this]
 exact zfh z _ (by omega)
theorem zQf (z:Str)(c:Nat)(h:1<=z.length):Txt.startswith z ⟨#[c]⟩=decide (hd z=c):=by
 have q:=StrLaws.subAt_one z c 0
 rw[zfh z 0 (by omega),<- hd_getD] at q
 rw[Bool.eq_iff_iff,decide_eq_true_iff]
 unfold Txt.startswith
 rw[Bool.and_eq_true_iff,decide_eq_true_iff]
 exact⟨fun y=>by
  have:=q.mp y
  injection this,fun y=>q.mpr (by rw[y])⟩
theorem zji (z:Str)(c:Nat)(h:1<=z.length):Txt.endswith z ⟨#[c]⟩=decide (la z=c):=by
 have q:=StrLaws.subAt_one z c (z.length-1)
 rw[zfh z _ (by omega)] at q
 rw[Bool.eq_iff_iff,decide_eq_true_iff]
 unfold Txt.endswith
 rw[Bool.and_eq_true_iff,decide_eq_true_iff]
 have e1:(⟨#[c]⟩:Str).length=1:=rfl
 rw[e1] at q ⊢
 exact⟨fun y=>by
  have:=q.mp ⟨by omega,y.2⟩
  injection this,fun y=>by
  obtain⟨y1,y2⟩:=q.mpr (congrArg some y)
  exact⟨by omega,y2⟩⟩
def inn (z:Str):Str:=Txt.slice z (some 1) (some (-1))
theorem zRf (z:Str):isList z=(decide (2<=z.length)&&(decide (hd z=91)&&(decide (la z=93)&&(decide (z=Str.ofString "[]")||(decide ((spl 44 (inn z).cps.toList).length<=4)&&(spl 44 (inn z).cps.toList).all zP))))):=by
 have e1:Str.ofString ","=(⟨#[44]⟩:Str):=rfl
 have e2:Str.ofString "["=(⟨#[91]⟩:Str):=rfl
 have e3:Str.ofString "]"=(⟨#[93]⟩:Str):=rfl
 unfold isList
 rw[e1,e2,e3,zKa _ (by decide)]
 by_cases h0:z.length=0
 ·have:Txt.startswith z ⟨#[91]⟩=false:=by
   unfold Txt.startswith
   rw[decide_eq_false (by rw[h0];show ¬(0+1<=0);omega)]
   rfl
  rw[this,decide_eq_false (show ¬2<=z.length by omega)]
  rfl
 ·rw[zQf z 91 (by omega),zji z 93 (by omega)]
  by_cases h2:2<=z.length
  ·rw[decide_eq_true h2,Bool.true_and,<- Bool.and_assoc]
   rfl
  ·have e:la z=hd z:=by
    unfold la
    rw[hd_getD]
    have:z.length-1=0:=by omega
    rw[this]
   rw[decide_eq_false h2,Bool.false_and,e]
   by_cases h:hd z=91
   ·rw[decide_eq_false (show ¬hd z=93 by omega),Bool.and_false,Bool.false_and]
   ·rw[decide_eq_false h,Bool.false_and,Bool.false_and]
theorem zcd (c:Nat):∀(l:List Nat)(s:List Str×Str),(l.foldl (zna c) s).1.length<=s.1.length+l.length
 | [],s=>Nat.le_refl _
 |x::l,s=>by
  rw[List.foldl_cons]
  have q:=zcd c l (zna c s x)
  have r:(zna c s x).1.length<=s.1.length+1:=by
   unfold zna
   split
   ·rw[List.length_append]
    exact Nat.le_refl _
   ·exact Nat.le_succ _
  rw[List.length_cons]
  omega
theorem zgh (c:Nat)(l:List Nat):(spl c l).length<=l.length+1:=by
 unfold spl
 rw[List.length_append]
 have q:=zcd c l ([],Str.empty)
 have q':(zfb c l).1.length<=0+l.length:=q
 have:([(zfb c l).2]:List Str).length=1:=rfl
 omega
theorem zhh (c d:Nat):(V.str ⟨#[c]⟩=V.str ⟨#[d]⟩)↔c=d:=⟨fun q=>by
 injection q with q
 injection q with q
 simpa using q,fun q=>by rw[q]⟩
theorem zsl {α:Type}(xs:List α)(x:α):atI (xs++[x]) (-1)=some x:=by
 unfold atI ixN
 rw[if_neg (by omega),if_pos (by rw[List.length_append,List.length_singleton];omega)]
 show(xs++[x])[(-1+((xs++[x]).length:Int)).toNat]?=some x
 have:(-1+((xs++[x]).length:Int)).toNat=xs.length:=by rw[List.length_append,List.length_singleton];omega
 rw[this]
 simp
theorem ztl {α:Type}(xs:List α)(x:α):ixN (xs++[x]).length (-1)=some xs.length:=by
 unfold ixN
 rw[if_neg (by omega),if_pos (by rw[List.length_append,List.length_singleton];omega)]
 have:(-1+((xs++[x]).length:Int)).toNat=xs.length:=by rw[List.length_append,List.length_singleton];omega
 rw[this]
section
variable {P:Program}{w:World}{K:W.Frag}{mg:zT3}{base:Heap}
theorem scIl:FnScope ["_law_text_here","_law_items","_law_sign","_law_good"] ["_law_text_here"] (zb sIl):=.of (by decide +kernel)
def zSj:Scope:=⟨.function,[(".0",.local),("_law_item",.local),("_law_is_number",.globalImplicit),("_law_is_name",.globalImplicit)],false,false,[]⟩
theorem zul:BlkScope (zb sIl) ["_law_text_here","_law_items","_law_sign","_law_good"] ["_law_item"] [] [] zSj:=.of (by decide +kernel)
theorem zln (F:Fun K "_law_is_list" "_law_is_list" sIl f fd)(T:T1 mg)
  (FN:Fun K "_law_is_number" "_law_is_number" sIn fN fdN)(bN:Binds K fdN ["_law_text_here"] [])(gN:mg "_law_is_number"=some (.ref fN))(GN:FnOk P w K mg base CX0 2 fN fdN ["_law_text_here"] (spBo isNum))
  (FM:Fun K "_law_is_name" "_law_is_name" sIm fM fdM)(bM:Binds K fdM ["_law_text_here"] [])(gM:mg "_law_is_name"=some (.ref fM))(GM:FnOk P w K mg base CX0 2 fM fdM ["_law_text_here"] (spBo isName)):FnOk P w K mg base CX0 3 f fd ["_law_text_here"] (spBo isList):=by
 refine F.ok scIl (fun vs H Q E h=>?_) (fun cdv A outer s H vs Q E hr h=>?_)
 ·obtain⟨z,rfl,_⟩:=h
  rfl
 ·obtain⟨z,rfl,tz,k⟩:=h
  have hzl:=zza tz (by decide)
  refine⟨_,ze (zM (PW.pt (zPb (zr zoj (zq zca (by rfl) T.len PySem.boot_len (za (pv 0) zd)) zg (zu _)) (zPb (zr zTd (zU zkb (pv 0) zg (fun _ _=>rfl)) zx (zu _)) (zDb (zr zTd (zU zkb (pv 0) (zAf zVc zg) (fun _ _=>rfl)) zx (zu _)))))) (zf (zp zHb)) zt)
   (ze (zM (zr zV (pv 0) zx (zu _)) (zf (zp zHb)) zt)
   (ze (zH (i:=1) scIl.nd rfl (Or.inl rfl) (zva (za zx zd)))
   (ze (zta PassesOwn.never rfl (zvg (zab zcf (pv 0) (zUa zg) (zUa (zAf zVc zg)))) (zC (i:=2) scIl.nd rfl (Or.inl rfl))
    (zf (zM (zr zV (pv 2) zx (zu _)) (zf (zHa (zQa PySem.F.plainAttrs_list PySem.F.slot_list_append PySem.F.type_list_append zka (pv 1) (za zx zd))))
     (zf (zUk (zz zX (zU zEa (pv 1) (zAf zVc zg) (fun _ _=>rfl)) (pv 2)) (zTk (pv 1) (zAf zVc zg) set_list))))))
   (ze (zbb (i:=3) zul rfl rfl rfl (zja (pv 1)) (fun fp C s1 H1=>zC (i:=0) zul.nd rfl (Or.inl rfl)) (fun fp C s1 H1=>zIa (PW.pt (zPb (zba (zi GN hr rfl gN FN.kp bN .nil zw (za (pv 0) zd))) (zDb (zba (zi GM hr rfl gM FM.kp bM .nil zw (za (pv 0) zd))))))) (fun fp C s1 H1=>pv 0) scIl.nd rfl rfl rfl)
   (zf (zp (zQb (zQ zRc (zq zo (by rfl) T.len PySem.boot_len (za (pv 1) zd)) zg (zu _)) (zjb (zQ zV (zq zo (by rfl) T.len PySem.boot_len (za (pv 3) zd)) (zq zo (by rfl) T.len PySem.boot_len (za (pv 1) zd)) (zu _)))))))))),?_⟩
  have ek:=zRf z
  have out:isList z=false->Q (.bl false) H:=fun e=>by
   have q:=k H (Same.refl H)
   rw[e] at q
   exact q
  refine⟨_,rfl,z,rfl,hzl,_,_,rfl,rfl,_,rfl,?_⟩
  by_cases h2:2<=z.length
  ·rw[decide_eq_true h2,Bool.true_and] at ek
   rw[decide_eq_false (by omega)]
   refine iteF ⟨_,rfl,_,_,hd z,rfl,rfl,hzl,at0 (by omega),rfl,!decide (hd z=91),by rw[show decide (V.str ⟨#[hd z]⟩=V.str (Str.ofString "["))=decide (hd z=91) from decide_eq_decide.mpr (zhh (hd z) 91)],?_⟩
   by_cases h91:hd z=91
   ·rw[decide_eq_true h91,Bool.true_and] at ek
    rw[decide_eq_true h91]
    refine iteF ⟨_,rfl,_,rfl,_,_,la z,rfl,rfl,hzl,zRj (by omega),rfl,!decide (la z=93),by rw[show decide (V.str ⟨#[la z]⟩=V.str (Str.ofString "]"))=decide (la z=93) from decide_eq_decide.mpr (zhh (la z) 93)],?_⟩
    by_cases h93:la z=93
    ·rw[decide_eq_true h93,Bool.true_and] at ek
     rw[decide_eq_true h93]
     refine iteF ⟨_,rfl,rfl,decide (z=Str.ofString "[]"),by rw[decS],?_⟩
     by_cases hz:z=Str.ofString "[]"
     ·rw[decide_eq_true hz] at ek ⊢
      have q:=k H (Same.refl H)
      rw[ek] at q
      exact iteT q
     rw[decide_eq_false hz,Bool.false_or] at ek
     rw[decide_eq_false hz]
     have tI:Tx 1000 (inn z):=tz.slice _ _
     refine iteF ⟨(by show 1<=sizeLine;decide),fun l hl=>?_⟩
     refine⟨_,rfl,_,rfl,_,rfl,_,rfl,z,rfl,hzl,inn z,1000,rfl,tI,?_⟩
     have hil:(inn z).cps.toList.length<=1000:=by rw[zLa];exact tI.1
     have tx_of:∀i,∀p∈spl 44 ((inn z).cps.toList.take i),Tx 1000 p:=fun i p hp=>by
      have q:=zFe 44 ((inn z).cps.toList.take i) ([],Str.empty) 0 (fun x hx=>tI.2 x (List.mem_of_mem_take hx)) (fun p hp=>by cases hp) ⟨Nat.zero_le _,fun y hy=>by cases hy⟩
      have e:0+((inn z).cps.toList.take i).length<=1000:=by
       rw[List.length_take]
       omega
      unfold spl at hp
      rcases List.mem_append.mp hp with hp|hp
      ·exact(q.1 p hp).mono e
      ·rw[List.mem_singleton] at hp
       subst hp
       exact q.2.mono e
     refine zQj (z:=inn z) (fun i σ H2=>(∃v,σ=[some (.str z),some (.ref l),v,none])/\Same H H2/\H2 l=some (.lst ((spl 44 ((inn z).cps.toList.take i)).map V.str))) ⟨⟨none,rfl⟩,(Same.refl H).zao hl,zc⟩ ?_ ?_
     ·rintro i c σ H2 hc ⟨⟨v,rfl⟩,s2,hL⟩
      have hc':(inn z).cps.toList[i]?=some c:=by simpa using hc
      have tk:(inn z).cps.toList.take (i+1)=(inn z).cps.toList.take i++[c]:=by rw[List.take_add_one,hc'];rfl
      have eS:=zHc 44 ((inn z).cps.toList.take i) c
      have hn:=zgh 44 ((inn z).cps.toList.take i)
      have hn2:((inn z).cps.toList.take i).length<=1000:=by rw[List.length_take];omega
      refine⟨_,rfl,rfl,decide (c=44),by rw[show decide (V.str ⟨#[c]⟩=V.str (Str.ofString ","))=decide (c=44) from decide_eq_decide.mpr (zhh c 44)],?_⟩
      by_cases h44:c=44
      ·rw[decide_eq_true h44]
       refine iteT ⟨_,rfl,.inl ⟨rfl,_,SqL.of hL⟩,l,_,_,rfl,rfl,hL,Nat.lt_of_le_of_lt (by rw[List.length_map];omega) (show 1001<sizeLine by decide),⟨_,rfl⟩,s2.zao hl,?_⟩
       rw[zc,tk]
       unfold spl at hL ⊢
       rw[eS]
       unfold zna
       rw[if_pos h44,show Str.ofString ""=Str.empty from rfl]
       simp only[List.map_append,List.map_cons,List.map_nil]
      ·rw[decide_eq_false h44]
       have eL:(spl 44 ((inn z).cps.toList.take i)).map V.str=(zfb 44 ((inn z).cps.toList.take i)).1.map V.str++[.str (zfb 44 ((inn z).cps.toList.take i)).2]:=by
        unfold spl
        rw[List.map_append]
        rfl
       have t2:=tx_of i (zfb 44 ((inn z).cps.toList.take i)).2 (by unfold spl;simp)
       rw[eL] at hL
       refine iteF ⟨_,rfl,_,rfl,l,_,_,_,rfl,rfl,SqL.of hL,zsl _ _,_,rfl,_,_,rfl,rfl,Nat.le_trans (Nat.add_le_add_right t2.1 _) (show 1000+1<=sizeLine by decide),_,rfl,_,rfl,l,_,_,_,rfl,rfl,hL,ztl _ _,⟨_,rfl⟩,s2.zao hl,?_⟩
       rw[zc,tk]
       unfold spl
       rw[eS]
       unfold zna
       rw[if_neg h44,List.map_append]
       simp
     ·rintro σ H2 ⟨⟨v,rfl⟩,s2,hL⟩
      rw[<- zLa,List.take_length] at hL
      have txA:=tx_of ((inn z).cps.toList.length)
      rw[List.take_length] at txA
      have hn:=zgh 44 (inn z).cps.toList
      generalize hSp:spl 44 (inn z).cps.toList=L at hL txA ek hn
      refine⟨_,rfl,l,rfl,⟨_,SqL.of hL⟩,fun D hD=>?_⟩
      refine zAa (K:=K) (a:=l) (xs:=L.map V.str) (fun i ys H3=>ys=((L.take i).filter zP).map V.str/\Same H2 H3/\H3 D=some (.lst ys)) (Nat.le_trans (by rw[List.length_map];omega) (show 1001<=sizeLine by decide)) ⟨rfl,(Same.refl H2).zao hD,zc⟩ (fun i ys H3 h=>?_) (fun i ys H3 h=>SqL.of (h.2.1 _ _ hL)) ?_ ?_
      ·rw[h.1,List.length_map]
       refine Nat.le_trans (List.length_filter_le _ _) ?_
       rw[List.length_take]
       exact Nat.min_le_left _ _
      ·rintro i ys H3 x N M hx ⟨rfl,s3,hD3⟩ hN hM
       rw[List.getElem?_map] at hx
       cases el:L[i]? with
       |none=>rw[el] at hx;cases hx
       |some y=>
        rw[el] at hx
        cases hx
        have ty:=txA y (List.mem_of_getElem? el)
        have yes:zP y=true->∀H4,Same H3 H4->N (V.str y) H4:=fun hi H4 s4=>hN _ H4 (s4 _ _ hD3) ⟨by rw[List.take_add_one,el,List.filter_append,List.map_append];simp[hi],(s3.trans s4).zao hD,zc⟩
        refine⟨_,rfl,y,rfl,ty,fun H4 s4=>⟨_,rfl,?_⟩⟩
        cases h1:isNum y with
        |true=>exact iteT (iteT ⟨_,rfl,yes (by unfold zP;rw[h1];rfl) H4 s4⟩)
        |false=>
         refine iteF ⟨_,rfl,y,rfl,ty,fun H5 s5=>⟨_,rfl,?_⟩⟩
         cases h3:isName y with
         |true=>exact iteT ⟨_,rfl,yes (by unfold zP;rw[h1,h3];rfl) H5 (s4.trans s5)⟩
         |false=>
          refine iteF (hM H5 ⟨?_,s3.trans (s4.trans s5),(s4.trans s5) _ _ hD3⟩)
          have hi:zP y=false:=by unfold zP;rw[h1,h3];rfl
          rw[List.take_add_one,el,List.filter_append,List.map_append]
          simp[hi]
      ·rintro ys H3 ⟨rfl,s3,hD3⟩
       rw[List.length_map,List.take_length] at hD3
       have q:=k H3 (s2.trans s3)
       rw[ek] at q
       refine⟨_,rfl,l,_,rfl,.inl (SqL.of (s3 _ _ hL)),_,_,rfl,rfl,decide (L.length<=4),by(show V.bl (decide (((L.map V.str).length:Int)<=4))=_);rw[List.length_map,show decide ((L.length:Int)<=4)=decide (L.length<=4) from decide_eq_decide.mpr (by omega)],?_⟩
       by_cases h4:L.length<=4
       ·rw[decide_eq_true h4,Bool.true_and] at q
        rw[decide_eq_true h4]
        refine iteT ⟨_,rfl,D,_,rfl,.inl (SqL.of hD3),_,rfl,l,_,rfl,.inl (SqL.of (s3 _ _ hL)),rfl,?_⟩
        have e:decide (V.int ((((L.filter zP).map V.str).length:Nat):Int)=V.int (((L.map V.str).length:Nat):Int))=L.all zP:=by
         rw[Bool.eq_iff_iff,decide_eq_true_iff,List.length_map,List.length_map,List.all_eq_true,<- List.length_filter_eq_length_iff]
         exact⟨fun y=>by injection y with y;omega,fun y=>by rw[y]⟩
        rw[e]
        exact q
       ·rw[decide_eq_false h4,Bool.false_and] at q
        rw[decide_eq_false h4]
        exact iteF q
    ·rw[decide_eq_false h93,Bool.false_and] at ek
     rw[decide_eq_false h93]
     exact iteT (out ek)
   ·rw[decide_eq_false h91,Bool.false_and] at ek
    rw[decide_eq_false h91]
    exact iteT (iteT (out ek))
  ·rw[decide_eq_false h2,Bool.false_and] at ek
   rw[decide_eq_true (by omega)]
   exact iteT (iteT (out ek))
end
def MAS:Str:=Str.ofString "abcdefghijklmnopqrstuvwxyz0123456789"++Str.ofString "ABCDEFGHIJKLMNOPQRSTUVWXYZ.:-_/="
theorem zTj (c:Nat):hasC MAS c=hasC MAR c:=by
 have h1:MAS.cps.toList.all (fun c=>decide (c∈MAR.cps.toList))=true:=by decide +kernel
 have h2:MAR.cps.toList.all (fun c=>decide (c∈MAS.cps.toList))=true:=by decide +kernel
 rw[List.all_eq_true] at h1 h2
 exact decide_eq_decide.mpr ⟨fun h=>of_decide_eq_true (h1 c h),fun h=>of_decide_eq_true (h2 c h)⟩
theorem zki (z:Str):zW MAS z=zW MAR z:=by
 unfold zW
 congr 1
 funext c
 exact zTj c
section
variable {P:Program}{w:World}{K:W.Frag}{mg:zT3}{base:Heap}
theorem scLs:FnScope ["_law_text_here","_law_small"] ["_law_text_here"] (zb sLs):=.of (by decide +kernel)
theorem zmn (F:Fun K "_law_sort" "_law_sort" sLs f fd)(T:T1 mg)(FO:Fun K "_law_of" "_law_of" sOf fO fdO)(bO:Binds K fdO ["_law_text_here","_law_signs_here"] [])(gO:mg "_law_of"=some (.ref fO))
  (FN:Fun K "_law_is_number" "_law_is_number" sIn fN fdN)(bN:Binds K fdN ["_law_text_here"] [])(gN:mg "_law_is_number"=some (.ref fN))
  (FM:Fun K "_law_is_name" "_law_is_name" sIm fM fdM)(bM:Binds K fdM ["_law_text_here"] [])(gM:mg "_law_is_name"=some (.ref fM))
  (FL:Fun K "_law_is_list" "_law_is_list" sIl fL fdL)(bL:Binds K fdL ["_law_text_here"] [])(gL:mg "_law_is_list"=some (.ref fL)):FnOk P w K mg base CX0 4 f fd ["_law_text_here"] spSo:=by
 have GO:FnOk P w K mg base CX0 1 fO fdO ["_law_text_here","_law_signs_here"] spOf:=zPj FO
 have GN:FnOk P w K mg base CX0 2 fN fdN ["_law_text_here"] (spBo isNum):=zjn FN T FO bO gO
 have GM:FnOk P w K mg base CX0 2 fM fdM ["_law_text_here"] (spBo isName):=zkn FM T FO bO gO
 have GL:FnOk P w K mg base CX0 3 fL fdL ["_law_text_here"] (spBo isList):=zln FL T FN bN gN GN FM bM gM GM
 refine F.ok scLs (fun vs H Q E h=>?_) (fun cdv A outer s H vs Q E hr h=>?_)
 ·obtain⟨z,rfl,_⟩:=h
  rfl
 ·obtain⟨z,rfl,tz,k⟩:=h
  have hzl:=zza tz (by decide)
  have hr1:Room 1 _:=hr.mono (by decide)
  have hr2:Room 2 _:=hr.mono (by decide)
  refine⟨_,ze (zM (zba (zi GN hr2 rfl gN FN.kp bN .nil zw (za (pv 0) zd))) (zf (zp zx)) zt)
   (ze (zM (zba (zi GM hr2 rfl gM FM.kp bM .nil zw (za (pv 0) zd))) (zf (zp zx)) zt)
   (ze (zM (zba (zi GL hr rfl gL FL.kp bL .nil zw (za (pv 0) zd))) (zf (zp zx)) zt)
   (ze (zH (i:=1) scLs.nd rfl (Or.inl rfl) zx)
   (ze (zM (PW.pt (zRd (zr zTd (pv 0) zx (zu _)) (zRd (zr zRc (zq zca (by rfl) T.len PySem.boot_len (za (pv 0) zd)) zg (zu _)) (zjd (zba (zi GO hr1 rfl gO FO.kp bO .nil zw (za (pv 0) (za (zz zX (pv 1) zx) zd)))))))) (zf (zp zx)) zt)
   (zf (zp zia)))))),?_⟩
  unfold zGa at k
  refine⟨_,rfl,z,rfl,tz,fun H1 s1=>⟨_,rfl,?_⟩⟩
  cases h1:isNum z with
  |true=>
   have q:=k H1 s1
   rw[if_pos h1] at q
   exact iteT q
  |false=>
   rw[if_neg (by rw[h1];nofun)] at k
   refine iteF ⟨_,rfl,z,rfl,tz,fun H2 s2=>⟨_,rfl,?_⟩⟩
   cases h2:isName z with
   |true=>
    have q:=k H2 (s1.trans s2)
    rw[if_pos h2] at q
    exact iteT q
   |false=>
    rw[if_neg (by rw[h2];nofun)] at k
    refine iteF ⟨_,rfl,z,rfl,tz,fun H3 s3=>⟨_,rfl,?_⟩⟩
    have t3:=s1.trans (s2.trans s3)
    cases h3:isList z with
    |true=>
     have q:=k H3 t3
     rw[if_pos h3] at q
     exact iteT q
    |false=>
     rw[if_neg (by rw[h3];nofun)] at k
     have em:zya z=(decide (1<=z.length/\z.length<=12)&&zW MAR z):=by
      unfold zya zP
      rw[h1,h2]
      cases zW MAR z<;>rfl
     have out:∀H',Same H H'->zya z=false->Q .non H':=fun H' s' e=>by
      have q:=k H' s'
      rw[if_neg (by rw[e];nofun)] at q
      exact q
     refine iteF ⟨_,rfl,rfl,!decide (z=Str.ofString ""),by rw[decS],?_⟩
     by_cases h0:z.length=0
     ·rw[decide_eq_true ((nil_iff z).mpr h0)]
      exact iteF (iteF (out H3 t3 (by rw[em,decide_eq_false (by omega)];rfl)))
     rw[decide_eq_false (fun q=>h0 ((nil_iff z).mp q))]
     refine iteT ⟨_,rfl,z,rfl,hzl,_,_,rfl,rfl,_,rfl,?_⟩
     by_cases h12:z.length<=12
     ·rw[decide_eq_true (by omega)]
      refine iteT ⟨_,rfl,_,rfl,_,_,rfl,rfl,by decide +kernel,z,MAS,rfl,tz,fun H4 s4=>⟨_,rfl,?_⟩⟩
      rw[zki]
      rw[decide_eq_true ⟨by omega,h12⟩,Bool.true_and] at em
      cases hm:zW MAR z with
      |true=>
       have q:=k H4 (t3.trans s4)
       rw[if_pos (by rw[em,hm])] at q
       exact iteT q
      |false=>exact iteF (out H4 (t3.trans s4) (by rw[em,hm]))
     ·rw[decide_eq_false (by omega)]
      exact iteF (iteF (out H3 t3 (by rw[em,decide_eq_false (by omega)];rfl)))
end
def Tn (n:Nat)(z:Str):Prop:=z.length<=n/\∀c∈z.cps.toList,c<128/\c≠32
theorem Tn.mono {n m:Nat}{z:Str}(h:Tn n z)(k:n<=m):Tn m z:=⟨Nat.le_trans h.1 k,h.2⟩
theorem Tn.app {n m:Nat}{y z:Str}(h:Tn n y)(k:Tn m z):Tn (n+m) (y++z):=by
 refine⟨by rw[Str.length_append];exact Nat.add_le_add h.1 k.1,fun c hc=>?_⟩
 have e:(y++z).cps=y.cps++z.cps:=rfl
 rw[e,Array.toList_append] at hc
 rcases List.mem_append.mp hc with q|q
 ·exact h.2 c q
 ·exact k.2 c q
theorem Tn.one {c:Nat}(h:c<128/\c≠32):Tn 1 (⟨#[c]⟩:Str):=⟨Nat.le_refl _,fun d hd=>by
 have:d=c:=by simpa using hd
 omega⟩
theorem Tn.slice {n:Nat}{z:Str}(h:Tn n z)(lo hi:Option Int):Tn n (Txt.slice z lo hi):=by
 refine⟨Nat.le_trans (Txt.slice_le z lo hi) h.1,fun c hc=>?_⟩
 unfold Txt.slice at hc
 split at hc
 ·exact h.2 c hc
 ·have hc':c∈((Builtin.Str.strSliceIndices lo hi 1 z.length).filterMap (z.cps[·]?)):=by simpa using hc
  obtain⟨j,_,e⟩:=List.mem_filterMap.mp hc'
  exact h.2 c (by
   have:=Array.mem_of_getElem? e
   simpa using this)
theorem zGe (sep:Str){n m:Nat}(hs:Tn m sep):∀{ys:List Str},(∀y∈ys,Tn n y)->Tn (ys.length*(n+m)) (Str.join sep ys)
 | [],_=>⟨Nat.zero_le _,fun c hc=>by
  have:c∈([]:List Nat):=hc
  simp at this⟩
 | [x],h=>by
  have q:Tn n (Str.join sep [x]):=h x List.mem_cons_self
  exact q.mono (by rw[List.length_singleton];omega)
 |x::y::r,h=>by
  have q:=zGe sep hs (ys:=y::r) fun z hz=>h z (List.mem_cons_of_mem _ hz)
  have e:Str.join sep (x::y::r)=x++sep++Str.join sep (y::r):=rfl
  rw[e]
  refine(((h x List.mem_cons_self).app hs).app q).mono ?_
  simp only[List.length_cons,Nat.succ_mul]
  omega
theorem Tn.tx {n:Nat}{z:Str}(h:Tn n z):Tx n z:=⟨h.1,fun c hc=>(h.2 c hc).1⟩
def txB (n:Nat)(z:Str):Bool:=decide (z.length<=n)&&z.cps.toList.all fun c=>decide (c<128/\c≠32)
theorem txK {n:Nat}{z:Str}(h:txB n z=true):Tn n z:=by
 unfold txB at h
 rw[Bool.and_eq_true] at h
 exact⟨of_decide_eq_true h.1,fun c hc=>of_decide_eq_true (List.all_eq_true.mp h.2 c hc)⟩
theorem ifb {c:Bool}{A B:Prop}(h1:A)(h2:B):if c=true then A else B:=by
 cases c with
 |true=>exact iteT h1
 |false=>exact iteF h2
theorem len2 {n m:Nat}{y z:Str}(h:Tn n y)(k:Tn m z)(hn:n+m<=1000):y.length+z.length<=sizeLine:=Nat.le_of_lt (zv (Nat.le_trans (Nat.add_le_add h.1 k.1) hn))
theorem zih {n:Nat}:∀{ys:List Str},(∀y∈ys,Tn n y)->(ys.map (·.length)).sum<=ys.length*n
 | [],_=>Nat.zero_le _
 |y::ys,h=>by
  have q:=zih (ys:=ys) fun z hz=>h z (List.mem_cons_of_mem _ hz)
  have r:=(h y List.mem_cons_self).1
  rw[List.map_cons,List.sum_cons,List.length_cons,Nat.succ_mul]
  omega
theorem zMa {n:Nat}{z:Str}(h:Tn n z)(hn:n<=1000):z.length<=sizeLine:=zza h.tx hn
section
variable {P:Program}{w:World}{K:W.Frag}{mg:zT3}{base:Heap}
theorem scSi:FnScope ["_law_cell","_law_many","_law_signs_here","_law_found","_law_number","_law_k"] ["_law_cell","_law_many","_law_signs_here"] (zb sSi):=.of (by decide +kernel)
theorem scNu:FnScope ["_law_cell","_law_many"] ["_law_cell"] (zb sNu):=.of (by decide +kernel)
theorem scNa:FnScope ["_law_cell","_law_small"] ["_law_cell"] (zb sNa):=.of (by decide +kernel)
theorem scMk:FnScope ["_law_cell","_law_signs_here","_law_many","_law_word_here","_law_at","_law_great"] ["_law_cell"] (zb sMk):=.of (by decide +kernel)
theorem scLi:FnScope ["_law_cell","_law_items","_law_k","_law_part"] ["_law_cell"] (zb sLi):=.of (by decide +kernel)
theorem scWo:FnScope ["_law_cell"] ["_law_cell"] (zb sWo):=.of (by decide +kernel)
end
theorem zwa {S z:Str}(h:zW S z=true):∀c∈z.cps.toList,c∈S.cps.toList:=fun c hc=>of_decide_eq_true (List.all_eq_true.mp h c hc)
theorem zNa {S z:Str}(h:∀c∈z.cps.toList,c∈S.cps.toList):zW S z=true:=List.all_eq_true.mpr fun c hc=>decide_eq_true (h c hc)
theorem zxb {S y z:Str}(h:zW S y=true)(k:zW S z=true):zW S (y++z)=true:=zNa fun c hc=>by
 rw[app_list] at hc
 exact(List.mem_append.mp hc).elim (zwa h c) (zwa k c)
theorem zuc {S:Str}{c:Nat}(h:c∈S.cps.toList):zW S (⟨#[c]⟩:Str)=true:=zNa fun d hd=>by
 have:d=c:=by simpa using hd
 rw[this]
 exact h
theorem zBd {A S z:Str}(hA:zW S A=true)(h:zW A z=true):zW S z=true:=zNa fun c hc=>zwa hA c (zwa h c hc)
theorem zjh:∀c∈MAR.cps.toList,c<128/\c≠32:=by
 have e:MAR.cps.toList.all (fun c=>decide (c<128/\c≠32))=true:=by decide +kernel
 exact fun c hc=>of_decide_eq_true (List.all_eq_true.mp e c hc)
theorem okMark.tn {z:Str}(h:okMark z):Tn 12 z:=⟨h.2.1,fun c hc=>zjh c (zwa h.2.2 c hc)⟩
theorem zUj:zW MAR NAM=true:=by decide +kernel
theorem zMc {x:Str}(h:zP x=true):okMark x:=by
 have q:=zbd h
 exact⟨q.1,q.2.1,zBd zUj q.2.2⟩
theorem Wd.tn {z:Str}(h:Wd z):Tn 60 z:=by
 cases h with
 |mar h=>exact h.tn.mono (by decide)
 |lis xs h hi e=>
  subst e
  have tc:Tn 1 (Str.ofString ","):=txK (by decide +kernel)
  have tl:Tn 1 (Str.ofString "["):=txK (by decide +kernel)
  have tr:Tn 1 (Str.ofString "]"):=txK (by decide +kernel)
  have tj:=(zGe (Str.ofString ",") tc (fun x hx=>(zMc (hi x hx)).tn)).mono (m:=52) (by omega)
  exact((tl.app tj).app tr).mono (by decide)
theorem Wd.item {z:Str}(h:zP z=true):Wd z:=.mar (zMc h)
theorem zcj {z:Str}{lo hi:Option Int}:∀c∈(Txt.slice z lo hi).cps.toList,c∈z.cps.toList:=by
 intro c hc
 unfold Txt.slice at hc
 split at hc
 ·exact hc
 ·have hc':c∈((Builtin.Str.strSliceIndices lo hi 1 z.length).filterMap (z.cps[·]?)):=by simpa using hc
  obtain⟨j,_,e⟩:=List.mem_filterMap.mp hc'
  have:=Array.mem_of_getElem? e
  simpa using this
theorem zkh {z:Str}{a:Int}(h0:0<=a)(h1:a<=(z.length:Int)):(Txt.slice z none (some a)).length=a.toNat:=by
 have hl:z.cps.toList.length=z.length:=by simp[Str.length]
 have e1:Txt.slice z none (some a)=⟨((z.cps.toList.drop 0).take (a-0).toNat).toArray⟩:=StrLaws.sliceText_to ⟨h0,by rw[hl];exact h1⟩
 rw[e1]
 show((z.cps.toList.drop 0).take (a-0).toNat).toArray.size=_
 rw[List.size_toArray,List.length_take,List.length_drop,hl]
 omega
theorem zHe {z:Str}{a:Int}(h0:0<=a)(h1:a<=(z.length:Int)):(Txt.slice z (some a) none).length=z.length-a.toNat:=by
 have hl:z.cps.toList.length=z.length:=by simp[Str.length]
 have e2:Txt.slice z (some a) none=⟨((z.cps.toList.drop a.toNat).take ((z.cps.toList.length:Int)-a).toNat).toArray⟩:=StrLaws.sliceText_from ⟨h0,by rw[hl];exact h1⟩
 rw[e2]
 show((z.cps.toList.drop a.toNat).take ((z.cps.toList.length:Int)-a).toNat).toArray.size=_
 rw[List.size_toArray,List.length_take,List.length_drop,hl]
 omega
theorem zac {S:Str}{i:Int}(h0:0<=i)(h1:i<(S.length:Int)):∃c,c∈S.cps.toList/\atI S.cps.toList i=some c:=by
 have hl:S.cps.toList.length=S.length:=by simp[Str.length]
 exact zeh S.cps.toList i h0 (by rw[hl];exact h1)
def zli:Sp:=fun vs H Q _=>∃(c m:Int)(S:Str),vs=[.int c,.int m,.str S]/\0<=m/\m<=20/\Tn 100 S/\1<=S.length/\∀(y:Str)(H':Hp),y.length=m.toNat->zW S y=true->Same H H'->Q (.str y) H'
def spWx (p:Str->Prop):Sp:=fun vs H Q _=>∃c:Int,vs=[.int c]/\∀(y:Str)(H':Hp),p y->Same H H'->Q (.str y) H'
theorem zlh {S y:Str}{n m:Nat}(t:Tn n S)(h:zW S y=true)(l:y.length<=m):Tn m y:=⟨l,fun c hc=>t.2 c (zwa h c hc)⟩
theorem zvl {d:Nat}{y:Str}(hd9:d∈(Str.ofString "123456789").cps.toList)(hy:zW FIG y=true)(l:y.length<=8):isNum ((⟨#[d]⟩:Str)++y)=true:=by
 have hF:zW FIG (Str.ofString "123456789")=true:=by decide +kernel
 have el:((⟨#[d]⟩:Str)++y).length=1+y.length:=by rw[Str.length_append];rfl
 have eh:hd ((⟨#[d]⟩:Str)++y)=d:=by
  unfold hd
  rw[app_list]
  rfl
 unfold isNum
 rw[decide_eq_true ⟨by omega,by omega⟩,zxb (zuc (zwa hF d hd9)) hy,eh]
 have ne:¬(⟨#[d]⟩:Str)=Str.ofString "0":=fun e=>by
  have e':d=48:=by
   have q:(#[d]:Array Nat)=#[48]:=congrArg Str.cps e
   simpa using q
  subst e'
  revert hd9
  decide +kernel
 rw[decide_eq_false ne]
 simp
theorem zVj {d:Nat}(h:d∈FIG.cps.toList):isNum (⟨#[d]⟩:Str)=true:=by
 have e:FIG.cps.toList.all (fun d=>isNum (⟨#[d]⟩:Str))=true:=by decide +kernel
 exact List.all_eq_true.mp e d h
theorem zWj {d:Nat}{y:Str}(hd:d∈SMA.cps.toList)(hy:zW NAM y=true)(l:y.length<=11):isName ((⟨#[d]⟩:Str)++y)=true:=by
 have hF:zW NAM SMA=true:=by decide +kernel
 have el:((⟨#[d]⟩:Str)++y).length=1+y.length:=by rw[Str.length_append];rfl
 have eh:SL.hd ((⟨#[d]⟩:Str)++y)=d:=by
  unfold SL.hd
  rw[app_list]
  rfl
 unfold isName
 rw[decide_eq_true ⟨by omega,by omega⟩,zxb (zuc (zwa hF d hd)) hy,eh,show hasC SMA d=true from decide_eq_true hd]
 rfl
section
variable {P:Program}{w:World}{K:W.Frag}{mg:zT3}{base:Heap}
theorem zmh (F:Fun K "_law_signs" "_law_signs" sSi f fd)(T:T1 mg):FnOk P w K mg base CX0 1 f fd ["_law_cell","_law_many","_law_signs_here"] zli:=by
 refine F.ok scSi (fun vs H Q E h=>?_) (fun cdv A outer s H vs Q E hr h=>?_)
 ·obtain⟨c,m,S,rfl,_⟩:=h
  rfl
 ·obtain⟨c,m,S,rfl,m0,m1,tS,pS,k⟩:=h
  refine⟨_,ze (zH (i:=3) scSi.nd rfl (Or.inl rfl) zx)
   (ze (zH (i:=4) scSi.nd rfl (Or.inl rfl) (pv 0))
   (ze (zta PassesOwn.never rfl (zZ rfl T.range (za (pv 1) zd)) (zC (i:=5) scSi.nd rfl (Or.inl rfl))
    (ze (zH (i:=4) scSi.nd rfl (Or.inl rfl) (zz zR (zz zTb (zz zSa (zz zSa (zz zR (pv 4) zg) (pv 5)) zg) zg) zg))
    (zf (zH (i:=3) scSi.nd rfl (Or.inl rfl) (zz zX (pv 3) (zU zkb (pv 2) (zz zR (pv 4) (zq zca (by rfl) T.len PySem.boot_len (za (pv 2) zd))) (fun _ _=>rfl)))))))
   (zf (zp (pv 3))))),?_⟩
  refine⟨_,rfl,_,rfl,_,rfl,by omega,by omega,?_⟩
  refine zma (n:=m.toNat) (fun i σ H2=>H2=H/\∃(y:Str)(n:Int)(v:Option V),σ=[some (.int c),some (.int m),some (.str S),some (.str y),some (.int n),v]/\y.length=i/\zW S y=true) ⟨rfl,Str.ofString "",c,none,rfl,rfl,rfl⟩ ?_ ?_
  ·rintro i σ H2 hi ⟨rfl,y,n,v,rfl,ly,my⟩
   refine⟨_,rfl,_,_,rfl,rfl,(by show(0:Int)<2147483647;decide),_,rfl,_,_,rfl,rfl,_,_,rfl,rfl,_,_,rfl,rfl,.inr ⟨by decide,by decide⟩,_,_,rfl,rfl,(by show(0:Int)<2147483647;decide),?_⟩
   refine⟨_,rfl,_,rfl,_,rfl,_,rfl,S,rfl,zMa tS (by decide),_,_,rfl,rfl,(by show(0:Int)<(S.length:Int);omega),?_⟩
   obtain⟨d,hdS,hd⟩:=zac (S:=S) (i:=(n%2147483647+(0+(i:Int))+1)*48271%2147483647%(S.length:Int)) (Int.emod_nonneg _ (by omega)) (Int.emod_lt_of_pos _ (by omega))
   have l2:y.length+(⟨#[d]⟩:Str).length<=sizeLine:=Nat.le_of_lt (zv (by show y.length+1<=1000;omega))
   refine⟨S,_,d,rfl,rfl,zMa tS (by decide),hd,_,_,rfl,rfl,l2,rfl,_,_,_,rfl,by rw[Str.length_append,ly];rfl,zxb my (zuc hdS)⟩
  ·rintro σ H2 ⟨rfl,y,n,v,rfl,ly,my⟩
   exact⟨_,rfl,k y H2 ly my (Same.refl H2)⟩
theorem zwl (F:Fun K "_law_number_word" "_law_number_word" sNu f fd)(T:T1 mg)(FS:Fun K "_law_signs" "_law_signs" sSi fS fdS)(bS:Binds K fdS ["_law_cell","_law_many","_law_signs_here"] [])(gS:mg "_law_signs"=some (.ref fS)):FnOk P w K mg base CX0 2 f fd ["_law_cell"] (spWx fun y=>isNum y=true):=by
 have GS:FnOk P w K mg base CX0 1 fS fdS ["_law_cell","_law_many","_law_signs_here"] zli:=zmh FS T
 refine F.ok scNu (fun vs H Q E h=>?_) (fun cdv A outer s H vs Q E hr h=>?_)
 ·obtain⟨c,rfl,_⟩:=h
  rfl
 ·obtain⟨c,rfl,k⟩:=h
  refine⟨_,ze (zH (i:=1) scNu.nd rfl (Or.inl rfl) (zz zR (pv 0) zg))
   (ze (zM (zr zV (pv 1) zg (zu _)) (zf (zp (zU zkb zx (zz zR (zz zN (pv 0) zg) zg) (fun _ _=>rfl)))) zt)
   (zf (zp (zz zX (zU zkb zx (zz zR (zz zN (pv 0) zg) zg) (fun _ _=>rfl)) (zi GS hr rfl gS FS.kp bS .nil zw (za (zz zN (pv 0) zg) (za (pv 1) (za zx zd)))))))),?_⟩
  have t10:Tn 10 (Str.ofString "0123456789"):=txK (by decide +kernel)
  have t9:Tn 9 (Str.ofString "123456789"):=txK (by decide +kernel)
  refine⟨_,rfl,_,_,rfl,rfl,(by show(0:Int)<9;decide),?_⟩
  refine⟨_,rfl,rfl,_,rfl,?_⟩
  refine ifb ?_ ?_
  ·obtain⟨d,hdS,hd⟩:=zac (S:=Str.ofString "0123456789") (i:=c / 9%10) (by omega) (by show c / 9%10<10;omega)
   exact⟨_,rfl,_,_,rfl,rfl,⟨by decide,by decide⟩,_,_,rfl,rfl,(by show(0:Int)<10;decide),_,_,d,rfl,rfl,zMa t10 (by decide),hd,k _ H (zVj hdS) (Same.refl H)⟩
  ·obtain⟨d,hdS,hd⟩:=zac (S:=Str.ofString "123456789") (i:=c / 9%9) (by omega) (by show c / 9%9<9;omega)
   refine⟨_,rfl,_,_,rfl,rfl,⟨by decide,by decide⟩,_,_,rfl,rfl,(by show(0:Int)<9;decide),_,_,d,rfl,rfl,zMa t9 (by decide),hd,_,rfl,_,_,rfl,rfl,⟨by decide,by decide⟩,_,rfl,_,_,_,rfl,by omega,by omega,t10.mono (by decide),by decide +kernel,fun y H1 ly my s1=>?_⟩
   have l2:(⟨#[d]⟩:Str).length+y.length<=sizeLine:=Nat.le_of_lt (zv (by show 1+y.length<=1000;omega))
   exact⟨_,_,rfl,rfl,l2,k _ H1 (zvl hdS my (by omega)) s1⟩
theorem zxl (F:Fun K "_law_name_word" "_law_name_word" sNa f fd)(T:T1 mg)(FS:Fun K "_law_signs" "_law_signs" sSi fS fdS)(bS:Binds K fdS ["_law_cell","_law_many","_law_signs_here"] [])(gS:mg "_law_signs"=some (.ref fS)):FnOk P w K mg base CX0 2 f fd ["_law_cell"] (spWx fun y=>isName y=true):=by
 have GS:FnOk P w K mg base CX0 1 fS fdS ["_law_cell","_law_many","_law_signs_here"] zli:=zmh FS T
 refine F.ok scNa (fun vs H Q E h=>?_) (fun cdv A outer s H vs Q E hr h=>?_)
 ·obtain⟨c,rfl,_⟩:=h
  rfl
 ·obtain⟨c,rfl,k⟩:=h
  refine⟨_,ze (zH (i:=1) scNa.nd rfl (Or.inl rfl) zx)
   (zf (zp (zz zX (zU zkb (pv 1) (zz zR (zz zN (pv 0) zg) zg) (fun _ _=>rfl)) (zi GS hr rfl gS FS.kp bS .nil zw (za (zz zN (pv 0) zg) (za (zz zR (pv 0) zg) (za (zz zX (pv 1) zx) zd))))))),?_⟩
  have t26:Tn 26 (Str.ofString "abcdefghijklmnopqrstuvwxyz"):=txK (by decide +kernel)
  have t10:Tn 10 (Str.ofString "0123456789"):=txK (by decide +kernel)
  have mN:zW NAM (Str.ofString "abcdefghijklmnopqrstuvwxyz"++Str.ofString "0123456789")=true:=by decide +kernel
  obtain⟨d,hdS,hd⟩:=zac (S:=Str.ofString "abcdefghijklmnopqrstuvwxyz") (i:=c / 12%26) (by omega) (by show c / 12%26<26;omega)
  refine⟨_,rfl,_,rfl,_,_,rfl,rfl,⟨by decide,by decide⟩,_,_,rfl,rfl,(by show(0:Int)<26;decide),_,_,d,rfl,rfl,zMa t26 (by decide),hd,_,rfl,_,_,rfl,rfl,⟨by decide,by decide⟩,_,rfl,_,_,rfl,rfl,(by show(0:Int)<12;decide),_,rfl,_,_,rfl,rfl,len2 t26 t10 (by decide),_,_,_,rfl,by omega,by omega,(t26.app t10).mono (by decide),by decide +kernel,fun y H1 ly my s1=>?_⟩
  have l2:(⟨#[d]⟩:Str).length+y.length<=sizeLine:=Nat.le_of_lt (zv (by show 1+y.length<=1000;omega))
  exact⟨_,_,rfl,rfl,l2,k _ H1 (zWj hdS (zBd mN my) (by omega)) s1⟩
theorem zyl (F:Fun K "_law_mark_word" "_law_mark_word" sMk f fd)(T:T1 mg)(FS:Fun K "_law_signs" "_law_signs" sSi fS fdS)(bS:Binds K fdS ["_law_cell","_law_many","_law_signs_here"] [])(gS:mg "_law_signs"=some (.ref fS)):FnOk P w K mg base CX0 2 f fd ["_law_cell"] (spWx okMark):=by
 have GS:FnOk P w K mg base CX0 1 fS fdS ["_law_cell","_law_many","_law_signs_here"] zli:=zmh FS T
 refine F.ok scMk (fun vs H Q E h=>?_) (fun cdv A outer s H vs Q E hr h=>?_)
 ·obtain⟨c,rfl,_⟩:=h
  rfl
 ·obtain⟨c,rfl,k⟩:=h
  refine⟨_,ze (zH (i:=1) scMk.nd rfl (Or.inl rfl) zx)
   (ze (zH (i:=2) scMk.nd rfl (Or.inl rfl) (zz zSa (zz zR (zz zN (pv 0) zg) zg) zg))
   (ze (zH (i:=3) scMk.nd rfl (Or.inl rfl) (zi GS hr rfl gS FS.kp bS .nil zw (za (zz zN (pv 0) zg) (za (pv 2) (za (pv 1) zd)))))
   (ze (zM (PW.pt (zRd (zr zV (zz zR (pv 0) zg) zg (zu _)) (zjd (zr zld (pv 2) zg (zu _))))) (zf (zp (zz zX zx (zi GS hr rfl gS FS.kp bS .nil zw (za (zz zN (pv 0) zg) (za (zz zRi (pv 2) zg) (za zx zd))))))) zt)
   (ze (zH (i:=4) scMk.nd rfl (Or.inl rfl) (zz zR (zz zN (pv 0) zg) (pv 2)))
   (ze (zH (i:=5) scMk.nd rfl (Or.inl rfl) zx)
   (zf (zp (zz zX (zz zX (zab zcf (pv 3) zpd (zUa (pv 4))) (zU zkb (pv 5) (zz zR (zz zN (pv 0) zg) zg) (fun _ _=>rfl))) (zab zcf (pv 3) (zUa (zz zSa (pv 4) zg)) zpd))))))))),?_⟩
  have tS:Tn 68 (Str.ofString "abcdefghijklmnopqrstuvwxyzABCDEFGHIJKLMNOPQRSTUVWXYZ0123456789.:-_/="):=txK (by decide +kernel)
  have t10:Tn 10 (Str.ofString "0123456789"):=txK (by decide +kernel)
  have t32:Tn 32 (Str.ofString "ABCDEFGHIJKLMNOPQRSTUVWXYZ.:-_/="):=txK (by decide +kernel)
  have t0:Tn 1 (Str.ofString "0"):=txK (by decide +kernel)
  have m10:zW MAR (Str.ofString "0123456789")=true:=by decide +kernel
  have m0:zW MAR (Str.ofString "0")=true:=by decide +kernel
  have m32:zW MAR (Str.ofString "ABCDEFGHIJKLMNOPQRSTUVWXYZ.:-_/=")=true:=by decide +kernel
  refine⟨_,rfl,_,_,rfl,rfl,⟨by decide,by decide⟩,_,_,rfl,rfl,(by show(0:Int)<12;decide),_,_,rfl,rfl,?_⟩
  refine⟨_,rfl,_,_,rfl,rfl,⟨by decide,by decide⟩,_,rfl,_,rfl,_,_,_,rfl,by omega,by omega,tS.mono (by decide),by decide +kernel,fun y H1 ly my s1=>?_⟩
  have ty':Tn 12 y:=zlh tS my (by omega)
  have myM:zW MAR y=true:=my
  obtain⟨d,hdS,hd⟩:=zac (S:=Str.ofString "ABCDEFGHIJKLMNOPQRSTUVWXYZ.:-_/=") (i:=c / 288%32) (by omega) (by show c / 288%32<32;omega)
  have a0:0<=c / 24%(c / 2%12+1):=Int.emod_nonneg _ (by omega)
  have a1:c / 24%(c / 2%12+1)<c / 2%12+1:=Int.emod_lt_of_pos _ (by omega)
  have p1:=zkh (z:=y) a0 (by omega)
  have p2:=zHe (z:=y) (a:=c / 24%(c / 2%12+1)+1) (by omega) (by omega)
  have hd128:=t32.2 d hdS
  have fin:∀H',Same H H'->Q (.str (Txt.slice y none (some (c / 24%(c / 2%12+1)))++⟨#[d]⟩++Txt.slice y (some (c / 24%(c / 2%12+1)+1)) none)) H':=fun H' s'=>k _ H' (by
   have el:(Txt.slice y none (some (c / 24%(c / 2%12+1)))++(⟨#[d]⟩:Str)++Txt.slice y (some (c / 24%(c / 2%12+1)+1)) none).length=y.length:=by
    rw[Str.length_append,Str.length_append,p1,p2]
    show _+1+_=_
    omega
   exact⟨by omega,by omega,zxb (zxb (zNa fun c hc=>zwa myM c (zcj c hc)) (zuc (zwa m32 d hdS))) (zNa fun c hc=>zwa myM c (zcj c hc))⟩) s'
  refine⟨_,rfl,_,_,rfl,rfl,(by show(0:Int)<2;decide),rfl,_,rfl,?_⟩
  refine ifb ?_ ?_
  ·refine⟨_,rfl,_,_,rfl,rfl,decide (1<c / 2%12+1),rfl,?_⟩
   by_cases hm:1<c / 2%12+1
   ·rw[decide_eq_true hm]
    refine iteT ⟨_,rfl,_,_,rfl,rfl,⟨by decide,by decide⟩,_,rfl,_,_,rfl,rfl,_,_,_,rfl,by omega,by omega,t10.mono (by decide),by decide +kernel,fun y2 H2 ly2 my2 s2=>?_⟩
    have ty2':Tn 12 y2:=zlh t10 my2 (by omega)
    have el:(Str.ofString "0"++y2).length=1+y2.length:=by rw[Str.length_append];rfl
    exact⟨_,_,rfl,rfl,len2 t0 ty2' (by decide),k _ H2 ⟨by omega,by omega,zxb m0 (zBd m10 my2)⟩ (s1.trans s2)⟩
   ·rw[decide_eq_false hm]
    refine iteF ?_
    refine⟨_,rfl,_,_,rfl,rfl,⟨by decide,by decide⟩,_,rfl,_,_,rfl,rfl,(by show(0:Int)<c / 2%12+1;omega),?_⟩
    exact⟨_,rfl,_,rfl,_,rfl,y,rfl,zMa ty' (by decide),_,rfl,_,rfl,_,_,rfl,rfl,⟨by decide,by decide⟩,_,_,rfl,rfl,(by show(0:Int)<32;decide),_,_,d,rfl,rfl,zMa t32 (by decide),hd,_,_,rfl,rfl,len2 (ty'.slice _ _) (Tn.one hd128) (by decide),_,rfl,_,rfl,_,_,rfl,rfl,_,rfl,y,rfl,zMa ty' (by decide),_,_,rfl,rfl,len2 ((ty'.slice _ _).app (Tn.one hd128)) (ty'.slice _ _) (by decide),fin H1 s1⟩
  ·refine iteF ?_
   refine⟨_,rfl,_,_,rfl,rfl,⟨by decide,by decide⟩,_,rfl,_,_,rfl,rfl,(by show(0:Int)<c / 2%12+1;omega),?_⟩
   exact⟨_,rfl,_,rfl,_,rfl,y,rfl,zMa ty' (by decide),_,rfl,_,rfl,_,_,rfl,rfl,⟨by decide,by decide⟩,_,_,rfl,rfl,(by show(0:Int)<32;decide),_,_,d,rfl,rfl,zMa t32 (by decide),hd,_,_,rfl,rfl,len2 (ty'.slice _ _) (Tn.one hd128) (by decide),_,rfl,_,rfl,_,_,rfl,rfl,_,rfl,y,rfl,zMa ty' (by decide),_,_,rfl,rfl,len2 ((ty'.slice _ _).app (Tn.one hd128)) (ty'.slice _ _) (by decide),fin H1 s1⟩
theorem zzl (F:Fun K "_law_list_word" "_law_list_word" sLi f fd)(T:T1 mg)
  (FN:Fun K "_law_number_word" "_law_number_word" sNu fN fdN)(bN:Binds K fdN ["_law_cell"] [])(gN:mg "_law_number_word"=some (.ref fN))(GN:FnOk P w K mg base CX0 2 fN fdN ["_law_cell"] (spWx fun y=>isNum y=true))
  (FA:Fun K "_law_name_word" "_law_name_word" sNa fA fdA)(bA:Binds K fdA ["_law_cell"] [])(gA:mg "_law_name_word"=some (.ref fA))(GA:FnOk P w K mg base CX0 2 fA fdA ["_law_cell"] (spWx fun y=>isName y=true)):FnOk P w K mg base CX0 3 f fd ["_law_cell"] (spWx fun z=>∃xs:List Str,xs.length<=4/\(∀x∈xs,zP x=true)/\z=zhb xs):=by
 refine F.ok scLi (fun vs H Q E h=>?_) (fun cdv A outer s H vs Q E hr h=>?_)
 ·obtain⟨c,rfl,_⟩:=h
  rfl
 ·obtain⟨c,rfl,k⟩:=h
  refine⟨_,ze (zH (i:=1) scLi.nd rfl (Or.inl rfl) (zva zd))
   (ze (zta PassesOwn.never rfl (zZ rfl T.range (za (zz zR (pv 0) zg) zd)) (zC (i:=2) scLi.nd rfl (Or.inl rfl))
    (ze (zH (i:=3) scLi.nd rfl (Or.inl rfl) (zz zR (zz zTb (zz zSa (zz zN (pv 0) zg) (zz zTb (zz zTb zg (pv 2)) (pv 2))) zg) zg))
    (zf (zM (zr zV (zz zR (pv 3) zg) zg (zu _)) (zf (zHa (zQa PySem.F.plainAttrs_list PySem.F.slot_list_append PySem.F.type_list_append zka (pv 1) (za (zi GN hr rfl gN FN.kp bN .nil zw (za (zz zN (pv 3) zg) zd)) zd))))
     (zf (zHa (zQa PySem.F.plainAttrs_list PySem.F.slot_list_append PySem.F.type_list_append zka (pv 1) (za (zi GA hr rfl gA FA.kp bA .nil zw (za (zz zN (pv 3) zg) zd)) zd))))))))
   (zf (zp (zz zX (zz zX zx (zQa PySem.F.plainAttrs_str PySem.F.slot_str_join PySem.F.type_str_join zwg zx (za (pv 1) zd))) zx)))),?_⟩
  refine⟨Nat.zero_le _,fun l hl=>?_⟩
  refine⟨_,rfl,_,_,rfl,rfl,(by show(0:Int)<5;decide),_,rfl,by omega,by omega,?_⟩
  refine zma (n:=(c%5).toNat) (fun i σ H2=>∃(zs:List Str)(v v2:Option V),σ=[some (.int c),some (.ref l),v,v2]/\Same H H2/\H2 l=some (.lst (zs.map V.str))/\zs.length<=i/\∀x∈zs,zP x=true)
   ⟨[],none,none,rfl,(Same.refl H).zao hl,zc,Nat.le_refl _,fun x hx=>by simp at hx⟩ ?_ ?_
  ·rintro i σ H2 hi ⟨zs,v,v2,rfl,s2,hL,hlen,hin⟩
   have put:∀(v2:Option V)(y:Str)(H3:Hp),zP y=true->Same H2 H3->∃(zs':List Str)(v w:Option V),[some (.int c),some (.ref l),some (.int (0+(i:Int))),v2]=[some (.int c),some (.ref l),v,w]/\Same H (upd H3 l (.lst (zs.map V.str++[.str y])))/\(upd H3 l (.lst (zs.map V.str++[.str y]))) l=some (.lst (zs'.map V.str))/\zs'.length<=i+1/\∀x∈zs',zP x=true:=fun v2 y H3 ty s3=>by
    refine⟨zs++[y],_,_,rfl,(s2.trans s3).zao hl,by rw[zc,List.map_append];rfl,by rw[List.length_append,List.length_singleton];omega,fun x hx=>?_⟩
    rcases List.mem_append.mp hx with hx|hx
    ·exact hin x hx
    ·rw[List.mem_singleton] at hx
     rw[hx]
     exact ty
   have hsm:(zs.map V.str).length<sizeLine:=zv (by rw[List.length_map];omega)
   refine⟨_,rfl,_,_,rfl,rfl,⟨by decide,by decide⟩,_,rfl,_,_,rfl,rfl,.inl ⟨by decide,by decide⟩,_,rfl,_,_,rfl,rfl,.inr ⟨by omega,by omega⟩,_,_,rfl,rfl,_,_,rfl,rfl,.inr ⟨by decide,by decide⟩,_,_,rfl,rfl,(by show(0:Int)<2147483629;decide),?_⟩
   refine⟨_,rfl,_,_,rfl,rfl,(by show(0:Int)<2;decide),rfl,_,rfl,?_⟩
   refine ifb ?_ ?_
   ·exact⟨_,rfl,.inl ⟨rfl,_,SqL.of hL⟩,_,rfl,_,_,rfl,rfl,⟨by decide,by decide⟩,_,rfl,fun y H3 ty s3=>⟨l,_,_,rfl,rfl,s3 _ _ hL,hsm,put _ y H3 (by unfold zP;rw[ty];rfl) s3⟩⟩
   ·exact⟨_,rfl,.inl ⟨rfl,_,SqL.of hL⟩,_,rfl,_,_,rfl,rfl,⟨by decide,by decide⟩,_,rfl,fun y H3 ty s3=>⟨l,_,_,rfl,rfl,s3 _ _ hL,hsm,put _ y H3 (by unfold zP;rw[ty,Bool.or_true]) s3⟩⟩
  ·rintro σ H2 ⟨zs,v,v2,rfl,s2,hL,hlen,hin⟩
   have tc:Tn 1 (Str.ofString ","):=txK (by decide +kernel)
   have tl:Tn 1 (Str.ofString "["):=txK (by decide +kernel)
   have tr:Tn 1 (Str.ofString "]"):=txK (by decide +kernel)
   have h4:zs.length<=4:=by omega
   have hin':∀x∈zs,Tn 12 x:=fun x hx=>(zMc (hin x hx)).tn
   have tj:=(zGe (Str.ofString ",") tc hin').mono (m:=52) (by omega)
   have hs:=zih hin'
   refine⟨rfl,_,rfl,_,l,zs,rfl,rfl,SqL.of hL,?_,?_⟩
   ·have e1:(Str.ofString ",").length=1:=by decide +kernel
    show(zs.map (·.length)).sum+zs.length*(Str.ofString ",").length<=16777216
    rw[e1]
    omega
   exact⟨_,_,rfl,rfl,len2 tl tj (by decide),_,_,rfl,rfl,len2 (tl.app tj) tr (by decide),k _ H2 ⟨zs,h4,hin,rfl⟩ s2⟩
theorem zAl (F:Fun K "_law_word" "_law_word" sWo f fd)
  (FN:Fun K "_law_number_word" "_law_number_word" sNu fN fdN)(bN:Binds K fdN ["_law_cell"] [])(gN:mg "_law_number_word"=some (.ref fN))(GN:FnOk P w K mg base CX0 2 fN fdN ["_law_cell"] (spWx fun y=>isNum y=true))
  (FA:Fun K "_law_name_word" "_law_name_word" sNa fA fdA)(bA:Binds K fdA ["_law_cell"] [])(gA:mg "_law_name_word"=some (.ref fA))(GA:FnOk P w K mg base CX0 2 fA fdA ["_law_cell"] (spWx fun y=>isName y=true))
  (FL:Fun K "_law_list_word" "_law_list_word" sLi fL fdL)(bL:Binds K fdL ["_law_cell"] [])(gL:mg "_law_list_word"=some (.ref fL))(GL:FnOk P w K mg base CX0 3 fL fdL ["_law_cell"] (spWx fun z=>∃xs:List Str,xs.length<=4/\(∀x∈xs,zP x=true)/\z=zhb xs))
  (FM:Fun K "_law_mark_word" "_law_mark_word" sMk fM fdM)(bM:Binds K fdM ["_law_cell"] [])(gM:mg "_law_mark_word"=some (.ref fM))(GM:FnOk P w K mg base CX0 2 fM fdM ["_law_cell"] (spWx okMark)):FnOk P w K mg base CX0 4 f fd ["_law_cell"] (spWx Wd):=by
 refine F.ok scWo (fun vs H Q E h=>?_) (fun cdv A outer s H vs Q E hr h=>?_)
 ·obtain⟨c,rfl,_⟩:=h
  rfl
 ·obtain⟨c,rfl,k⟩:=h
  have hr2:Room 2 _:=hr.mono (by decide)
  refine⟨_,ze (zM (zr zV (zz zR (pv 0) zg) zg (zu _)) (zf (zp (zi GN hr2 rfl gN FN.kp bN .nil zw (za (zz zN (pv 0) zg) zd)))) zt)
   (ze (zM (zr zV (zz zR (pv 0) zg) zg (zu _)) (zf (zp (zi GA hr2 rfl gA FA.kp bA .nil zw (za (zz zN (pv 0) zg) zd)))) zt)
   (ze (zM (zr zV (zz zR (pv 0) zg) zg (zu _)) (zf (zp (zi GL hr rfl gL FL.kp bL .nil zw (za (zz zN (pv 0) zg) zd)))) zt)
   (zf (zp (zi GM hr2 rfl gM FM.kp bM .nil zw (za (zz zN (pv 0) zg) zd)))))),?_⟩
  refine⟨_,rfl,_,_,rfl,rfl,(by show(0:Int)<4;decide),rfl,_,rfl,?_⟩
  refine ifb ⟨_,rfl,_,_,rfl,rfl,⟨by decide,by decide⟩,_,rfl,fun y H1 ty s1=>k y H1 (.item (by unfold zP;rw[ty];rfl)) s1⟩ ?_
  refine⟨_,rfl,_,_,rfl,rfl,(by show(0:Int)<4;decide),rfl,_,rfl,?_⟩
  refine ifb ⟨_,rfl,_,_,rfl,rfl,⟨by decide,by decide⟩,_,rfl,fun y H1 ty s1=>k y H1 (.item (by unfold zP;rw[ty,Bool.or_true])) s1⟩ ?_
  refine⟨_,rfl,_,_,rfl,rfl,(by show(0:Int)<4;decide),rfl,_,rfl,?_⟩
  refine ifb ⟨_,rfl,_,_,rfl,rfl,⟨by decide,by decide⟩,_,rfl,fun y H1 ⟨xs,h1,h2,h3⟩ s1=>k y H1 (.lis xs h1 h2 h3) s1⟩ ?_
  exact⟨_,rfl,_,_,rfl,rfl,⟨by decide,by decide⟩,_,rfl,fun y H1 ty s1=>k y H1 (.mar ty) s1⟩
end
inductive Pt where
 |gap (o:Option So)
 |word (z:Str)
def Pt.tag:Pt->Str
 |.gap _=>Str.ofString "gap"
 |.word _=>Str.ofString "word"
def Pt.val:Pt->V
 |.gap o=>vS o
 |.word z=>.str z
def Pt.zqo:Pt->Bool
 |.gap _=>true
 |.word _=>false
def zGb:Pt->Str->Bool
 |.gap o,z=>decide (vS (zGa z)=vS o)
 |.word y,z=>decide (V.str z=V.str y)
def PtAt (H:Hp)(q:Addr)(p:Pt):Prop:=H q=some (.tup [.str p.tag,p.val])
def FpAt (H:Hp)(vs:List V)(ps:List Pt):Prop:=vs.length=ps.length/\∀(i:Nat)(p:Pt),ps[i]?=some p->∃q,vs[i]?=some (.ref q)/\PtAt H q p
theorem FpAt.zro {H H':Hp}{vs:List V}{ps:List Pt}(h:FpAt H vs ps)(s:zha H H'):FpAt H' vs ps:=⟨h.1,fun i p e=>by
 obtain⟨q,h1,h2⟩:=h.2 i p e
 exact⟨q,h1,s _ _ h2⟩⟩
def zea (ps:List Pt)(r:List Str)(i:Nat):Bool:=match ps[i]?,r[i]? with
 |some p,some z=>zGb p z
 |_,_=>false
def zNc (ps:List Pt)(r:List Str):List Nat:=((List.range (min ps.length r.length)).filter fun i=>!zea ps r i)++if ps.length=r.length then[] else[min ps.length r.length]
def misM (ps:List Pt)(r:List Str):Option Nat:=(zNc ps r).head?
def zIe (ps:List Pt)(i:Nat):Bool:=(ps[i]?).any Pt.zqo
def zoa (ps:List Pt)(r:List Str)(n:Nat):List Str:=((List.range n).filter (zIe ps)).map fun i=>(r[i]?).getD (Str.ofString "")
def oN:Option Nat->V
 |none=>.non
 |some i=>.int (i:Int)
theorem zJe {ps:List Pt}{r:List Str}(h:misM ps r=none):ps.length=r.length:=by
 unfold misM zNc at h
 rw[List.head?_eq_none_iff,List.append_eq_nil_iff] at h
 by_cases e:ps.length=r.length
 ·exact e
 ·rw[if_neg e] at h
  cases h.2
theorem zBl {ps:List Pt}{r:List Str}{i:Nat}(hi:i<min ps.length r.length)(h:zea ps r i=false)(hall:∀j,j<i->zea ps r j=true):misM ps r=some i:=by
 have h1:((List.range (min ps.length r.length)).filter fun i=>!zea ps r i).head?=some i:=by
  rw[List.head?_filter,List.find?_range_eq_some]
  exact⟨by rw[h];rfl,List.mem_range.mpr hi,fun j hj=>by rw[hall j hj];rfl⟩
 unfold misM zNc
 rw[List.head?_append,h1]
 rfl
theorem znh {ps:List Pt}{r:List Str}(hall:∀j,j<min ps.length r.length->zea ps r j=true):misM ps r=if ps.length=r.length then none else some (min ps.length r.length):=by
 have h0:((List.range (min ps.length r.length)).filter fun i=>!zea ps r i)=[]:=by
  rw[List.filter_eq_nil_iff]
  intro j hj
  rw[hall j (List.mem_range.mp hj)]
  decide
 unfold misM zNc
 rw[h0,List.nil_append]
 split<;>rfl
theorem zoh (a b:Option So):scal (vS a) (vS b)=true:=by cases a<;>cases b<;>rfl
theorem zXj (p:Pt):decide (V.str p.tag=V.str (Str.ofString "gap"))=p.zqo:=by
 have h1:decide (V.str (Str.ofString "gap")=V.str (Str.ofString "gap"))=true:=by decide +kernel
 have h2:decide (V.str (Str.ofString "word")=V.str (Str.ofString "gap"))=false:=by decide +kernel
 cases p
 ·exact h1
 ·exact h2
def spIg:Sp:=fun vs H Q _=>∃(q:Addr)(p:Pt),vs=[.ref q]/\PtAt H q p/\Q (.bl p.zqo) H
def spPa:Sp:=fun vs H Q _=>∃(q:Addr)(p:Pt)(z:Str),vs=[.ref q,.str z]/\PtAt H q p/\Tx 1000 z/\∀H',Same H H'->Q (.bl (zGb p z)) H'
def spFm:Sp:=fun vs H Q _=>∃(f a:Addr)(us:List V)(ps:List Pt)(r:List Str),vs=[.ref f,.ref a]/\H f=some (.tup us)/\FpAt H us ps/\ps.length<=64/\H a=some (.tup (r.map V.str))/\r.length<=64/\(∀z∈r,Tx 1000 z)/\∀H',Same H H'->Q (oN (misM ps r)) H'
def spWr:Sp:=fun vs H Q _=>∃(f a:Addr)(us:List V)(ps:List Pt)(r:List Str),vs=[.ref f,.ref a]/\H f=some (.tup us)/\FpAt H us ps/\ps.length<=64/\H a=some (.tup (r.map V.str))/\r.length<=64/\(∀z∈r,Tx 1000 z)/\∀H',Same H H'->Q (.bl (misM ps r).isNone) H'
def spGs (CF:Addr):Sp:=fun vs H Q E=>∃(f a:Addr)(us:List V)(ps:List Pt)(r:List Str),vs=[.ref f,.ref a]/\H f=some (.tup us)/\FpAt H us ps/\ps.length<=64/\H a=some (.tup (r.map V.str))/\r.length<=64/\(∀z∈r,Tx 1000 z)∧
 (∀i,misM ps r=some i->∀d H',Same H H'->H' d=some (.xd [("at",.int (i:Int))])->E (.ref CF) (some d) H')/\(misM ps r=none->∀p H',Same H H'->H' p=some (.tup ((zoa ps r r.length).map V.str))->Q (.ref p) H')
section
variable {P:Program}{w:World}{K:W.Frag}{mg:zT3}{base:Heap}{CF:Addr}
theorem scIg:FnScope ["part"] ["part"] (zb sIg):=.of (by decide +kernel)
theorem ok_ig (F:Fun K "is_gap" "is_gap" sIg f fd):FnOk P w K mg base CX0 1 f fd ["part"] spIg:=by
 refine F.ok scIg (fun vs H Q E h=>?_) (fun cdv A outer s H vs Q E hr h=>?_)
 ·obtain⟨q,e,rfl,_⟩:=h
  rfl
 ·obtain⟨q,p,rfl,hq,k⟩:=h
  refine⟨_,zf (zp (zQ zV (zU zfa (pv 0) zg (fun _ _=>rfl)) zx (zu _))),?_⟩
  refine⟨_,rfl,q,_,_,_,rfl,rfl,SqT.of hq,rfl,rfl,?_⟩
  rw[zXj]
  exact k
theorem scPa:FnScope ["part","word"] ["part","word"] (zb sPa):=.of (by decide +kernel)
theorem znn (F:Fun K "part_takes" "part_takes" sPa f fd)(FG:Fun K "is_gap" "is_gap" sIg fG fdG)(bG:Binds K fdG ["part"] [])(gG:mg "is_gap"=some (.ref fG))
  (FS:Fun K "sort_of" "sort_of" sSo fS fdS)(bS:Binds K fdS ["text"] [])(gS:mg "sort_of"=some (.ref fS))(GS:FnOk P w K mg base CX0 5 fS fdS ["text"] spSo):FnOk P w K mg base CX0 6 f fd ["part","word"] spPa:=by
 have GG:FnOk P w K mg base CX0 1 fG fdG ["part"] spIg:=ok_ig FG
 refine F.ok scPa (fun vs H Q E h=>?_) (fun cdv A outer s H vs Q E hr h=>?_)
 ·obtain⟨q,e,z,rfl,_⟩:=h
  rfl
 ·obtain⟨q,p,z,rfl,hq,hz,k⟩:=h
  have hr1:Room 1 _:=hr.mono (by decide)
  refine⟨_,ze (zM (zba (zi GG hr1 rfl gG FG.kp bG .nil zw (za (pv 0) zd))) (zf (zp (zQ zV (zi GS hr rfl gS FS.kp bS .nil zw (za (pv 1) zd)) (zU zfa (pv 0) zg (fun _ _=>rfl)) (zu _)))) zt)
   (zf (zp (zQ zV (pv 1) (zU zfa (pv 0) zg (fun _ _=>rfl)) (zu _)))),?_⟩
  refine⟨_,rfl,q,p,rfl,hq,_,rfl,?_⟩
  cases p with
  |gap o=>
   refine iteT ⟨_,rfl,z,rfl,hz,fun H1 s1=>?_⟩
   exact⟨_,rfl,q,_,_,_,rfl,rfl,SqT.of (s1 _ _ hq),rfl,zoh _ _,k H1 s1⟩
  |word y=>
   exact iteF ⟨_,rfl,_,rfl,q,_,_,_,rfl,rfl,SqT.of hq,rfl,rfl,k H (Same.refl H)⟩
theorem scFm:FnScope ["parts","words","shared","at"] ["parts","words"] (zb sFm):=.of (by decide +kernel)
theorem ok_fm (F:Fun K "first_misfit" "first_misfit" sFm f fd)(len:mg "len"=none)(range:mg "range"=none)(hmin:mg "min"=none)(FP:Fun K "part_takes" "part_takes" sPa fP fdP)(bP:Binds K fdP ["part","word"] [])(gP:mg "part_takes"=some (.ref fP))(GP:FnOk P w K mg base CX0 6 fP fdP ["part","word"] spPa):
  FnOk P w K mg base CX0 7 f fd ["parts","words"] spFm:=by
 refine F.ok scFm (fun vs H Q E h=>?_) (fun cdv A outer s H vs Q E hr h=>?_)
 ·obtain⟨f,a,us,ps,r,rfl,_⟩:=h
  rfl
 ·obtain⟨p,a,us,ps,r,rfl,hp,hP,h64,ha,hr64,hT,k⟩:=h
  have hvl:us.length=ps.length:=hP.1
  refine⟨_,ze (zeb (zH (i:=2) scFm.nd rfl (Or.inl rfl) (zq (zWd rfl) (by rfl) hmin PyProof.Rows.boot_min (za (zq zo (by rfl) len PySem.boot_len (za (pv 0) zd)) (za (zq zo (by rfl) len PySem.boot_len (za (pv 1) zd)) zd)))))
   (ze (zta PassesOwn.never rfl (zZ rfl range (za (pv 2) zd)) (zC (i:=3) scFm.nd rfl (Or.inl rfl))
    (zf (zM (zEb (zba (zi GP hr rfl gP FP.kp bP .nil zw (za (zU zfa (pv 0) (pv 3) (fun _ _=>rfl)) (za (zU zfa (pv 1) (pv 3) (fun _ _=>rfl)) zd))))) (zf (zp (pv 3))) zt)))
   (zf (zp (ztb (zr zV (zq zo (by rfl) len PySem.boot_len (za (pv 0) zd)) (zq zo (by rfl) len PySem.boot_len (za (pv 1) zd)) (zu _)) zia (pv 2))))),?_⟩
  refine⟨fun σ' H'=>σ'=[some (.ref p),some (.ref a),some (.int ((min ps.length r.length:Nat):Int)),none]/\H=H',?_,?_⟩
  ·refine⟨_,rfl,p,_,rfl,.inr (SqT.of hp),_,rfl,a,_,rfl,.inr (SqT.of ha),_,_,rfl,?_⟩
   refine⟨?_,rfl⟩
   rw[hvl,List.length_map]
   have e:(if ((r.length:Nat):Int)<((ps.length:Nat):Int) then((r.length:Nat):Int) else((ps.length:Nat):Int))=((min ps.length r.length:Nat):Int):=by
    split<;>omega
   rw[e]
   rfl
  rintro σ' H' ⟨rfl,rfl⟩
  refine⟨_,rfl,_,rfl,by omega,by omega,?_⟩
  rw[Int.toNat_natCast]
  refine zma (n:=min ps.length r.length) (fun i σ H2=>(∃v,σ=[some (.ref p),some (.ref a),some (.int ((min ps.length r.length:Nat):Int)),v])/\Same H H2/\∀j,j<i->zea ps r j=true) ⟨⟨none,rfl⟩,Same.refl H,fun j hj=>by omega⟩ ?_ ?_
  ·rintro i σ H2 hi ⟨⟨v,rfl⟩,s2,hall⟩
   have i0:0+(i:Int)=(i:Int):=Int.zero_add _
   rw[i0]
   obtain⟨e,he⟩:∃e,ps[i]?=some e:=⟨ps[i]'(by omega),by simp⟩
   obtain⟨z,hz⟩:∃z,r[i]?=some z:=⟨r[i]'(by omega),by simp⟩
   obtain⟨q,hq1,hq2⟩:=hP.2 i e he
   have et:zea ps r i=zGb e z:=by unfold zea;rw[he,hz]
   refine⟨_,rfl,_,rfl,p,_,_,_,rfl,rfl,SqT.of (s2 _ _ hp),zY hq1,_,rfl,_,rfl,a,_,_,_,rfl,rfl,SqT.of (s2 _ _ ha),zY (by rw[List.getElem?_map,hz];rfl),q,e,z,rfl,s2 _ _ hq2,hT z (List.mem_of_getElem? hz),fun H3 s3=>?_⟩
   refine⟨_,rfl,?_⟩
   cases ht:zGb e z with
   |false=>
    rw[ht] at et
    have q:=k H3 (s2.trans s3)
    rw[zBl hi et hall] at q
    exact iteT ⟨_,rfl,q⟩
   |true=>
    rw[ht] at et
    refine iteF ⟨⟨_,rfl⟩,s2.trans s3,fun j hj=>?_⟩
    by_cases h:j<i
    ·exact hall j h
    ·have:j=i:=by omega
     subst this
     exact et
  ·rintro σ H2 ⟨⟨v,rfl⟩,s2,hall⟩
   refine⟨_,rfl,p,_,rfl,.inr (SqT.of (s2 _ _ hp)),_,rfl,a,_,rfl,.inr (SqT.of (s2 _ _ ha)),rfl,_,rfl,?_⟩
   have q:=k H2 s2
   rw[znh hall] at q
   rw[hvl,List.length_map]
   by_cases hl:ps.length=r.length
   ·rw[if_pos hl] at q
    exact zJb (decide_eq_true (by rw[hl])) q
   ·rw[if_neg hl] at q
    exact zZb (decide_eq_false (fun z=>by injection z with z;omega)) ⟨_,rfl,q⟩
theorem scWr:FnScope ["form","row"] ["form","row"] (zb sWr):=.of (by decide +kernel)
theorem ok_wr (F:Fun K "writes" "writes" sWr f fd)(FM:Fun K "first_misfit" "first_misfit" sFm fM fdM)(bM:Binds K fdM ["parts","words"] [])(gM:mg "first_misfit"=some (.ref fM))(GM:FnOk P w K mg base CX0 7 fM fdM ["parts","words"] spFm):
  FnOk P w K mg base CX0 8 f fd ["form","row"] spWr:=by
 refine F.ok scWr (fun vs H Q E h=>?_) (fun cdv A outer s H vs Q E hr h=>?_)
 ·obtain⟨f,a,us,ps,r,rfl,_⟩:=h
  rfl
 ·obtain⟨p,a,us,ps,r,rfl,hp,hP,h64,ha,hr64,hT,k⟩:=h
  refine⟨_,zf (zp (zPi (zQd (zi GM hr rfl gM FM.kp bM .nil zw (za (pv 0) (za (pv 1) zd)))))),?_⟩
  refine⟨_,rfl,_,rfl,p,a,us,ps,r,rfl,hp,hP,h64,ha,hr64,hT,fun H' s'=>?_⟩
  have q:=k H' s'
  cases e:misM ps r with
  |none=>
   rw[e] at q
   exact q
  |some i=>
   rw[e] at q
   exact q
theorem scGs:FnScope ["form","row","at"] ["form","row"] (zb sGs):=.of (by decide +kernel)
def zYj:Scope:=⟨.function,[(".0",.local),("part",.local),("word",.local),("is_gap",.globalImplicit)],false,false,[]⟩
theorem zZj:BlkScope (zb sGs) ["form","row","at"] ["part","word"] [] [] zYj:=.of (by decide +kernel)
theorem zdb (ps:List Pt)(r:List Str)(n:Nat):zoa ps r (n+1)=zoa ps r n++if zIe ps n then[(r[n]?).getD (Str.ofString "")] else[]:=by
 unfold zoa
 rw[List.range_succ,List.filter_append,List.map_append]
 by_cases h:zIe ps n=true
 ·rw[List.filter_cons_of_pos h,if_pos h]
  rfl
 ·rw[List.filter_cons_of_neg h,if_neg h]
  rfl
theorem zdd (ps:List Pt)(r:List Str)(n:Nat):(zoa ps r n).length<=n:=by
 unfold zoa
 rw[List.length_map]
 refine Nat.le_trans (List.length_filter_le _ _) ?_
 rw[List.length_range]
 exact Nat.le_refl _
theorem zon (F:Fun K "gaps_of" "gaps_of" sGs f fd)(tup:mg "tuple"=none)(zip:mg "zip"=none)
  (FM:Fun K "first_misfit" "first_misfit" sFm fM fdM)(bM:Binds K fdM ["parts","words"] [])(gM:mg "first_misfit"=some (.ref fM))(GM:FnOk P w K mg base CX0 7 fM fdM ["parts","words"] spFm)
  (FG:Fun K "is_gap" "is_gap" sIg fG fdG)(bG:Binds K fdG ["part"] [])(gG:mg "is_gap"=some (.ref fG))
  (M:MkX K CF fI)(gN:mg "NoFit"=some (.ref CF))(bI:Binds K dI ["self","at"] [])(GI:FnOk P w K mg base CX0 1 fI dI ["self","at"] (spNi CF))(rz:zcb K CF=true):FnOk P w K mg base (CX1 P w) 8 f fd ["form","row"] (spGs CF):=by
 have GG:FnOk P w K mg base CX0 1 fG fdG ["part"] spIg:=ok_ig FG
 refine F.okX scGs (fun vs H Q E h=>?_) (fun cdv A outer s H vs Q E hr h=>?_)
 ·obtain⟨f,a,us,ps,r,rfl,_⟩:=h
  rfl
 ·obtain⟨p,a,us,ps,r,rfl,hp,hP,h64,ha,hr64,hT,kE,kQ⟩:=h
  have hr1:Room 1 _:=hr.mono (by decide)
  have hr2:Room 2 _:=hr.mono (by decide)
  refine⟨_,ze (zH (i:=2) scGs.nd rfl (Or.inl rfl) (zi GM hr rfl gM FM.kp bM .nil zw (za (pv 0) (za (pv 1) zd))))
   (ze (zM (zyc (zid (pv 2))) (zf (zrb rfl zYa (zXb M GI hr2 rfl gN bI .nil zw (za (pv 2) zd)))) zt)
   (zf (zp (zS zL (by rfl) tup PyProof.Rows.boot_tuple (za (zWa (g:=gTup K 2 (zkd (zRb 0) (zkd (zRb 1) gNil))) zZj rfl rfl rfl (zFj true true rfl zip (za (pv 0) (za (pv 1) zd))) (fun fp C s1 H1=>zUc (n:=2) rfl (zpa (zC (i:=0) zZj.nd rfl (Or.inl rfl)) (zpa (zC (i:=1) zZj.nd rfl (Or.inl rfl)) zdc)))
    (fun fp C s1 H1=>zIa (zba (zi GG hr1 rfl gG FG.kp bG .nil zw (za (pv 0) zd)))) (fun fp C s1 H1=>pv 1)) zd))))),?_⟩
  refine⟨_,rfl,_,rfl,p,a,us,ps,r,rfl,hp,hP,h64,ha,hr64,hT,fun H1 s1=>?_⟩
  refine⟨_,rfl,_,rfl,?_⟩
  cases em:misM ps r with
  |some i=>
   refine zJb (by show(!decide (V.int (i:Int)=V.non))=true;rw[decide_eq_false (fun z=>by cases z)];rfl) ?_
   exact⟨_,rfl,(by show 1<=sizeLine;decide),zql rz (kE i em) H1 _ s1⟩
  |none=>
   refine zZb rfl ?_
   have hl:us.length=(r.map V.str).length:=by rw[hP.1,zJe em,List.length_map]
   refine⟨_,rfl,_,rfl,p,a,rfl,⟨_,SqT.of (s1 _ _ hp)⟩,⟨_,SqT.of (s1 _ _ ha)⟩,fun D hD=>?_⟩
   refine zGj (K:=K) (t:=true) (u:=true) (a:=p) (b:=a) (xs:=us) (zs:=r.map V.str) hl (fun j ys H3=>Same H1 H3/\H3 D=some (.lst ys)/\ys=(zoa ps r j).map V.str) (Nat.le_of_lt (zv (by rw[hP.1];omega))) ⟨(Same.refl H1).zao hD,zc,rfl⟩ (fun j ys H3 h=>by rw[h.2.2,List.length_map];exact zdd ps r j) (fun j ys H3 h=>⟨SqT.of ((s1.trans h.1) _ _ hp),SqT.of ((s1.trans h.1) _ _ ha)⟩) ?_ ?_
   ·rintro j ys H3 x z c N M hx hz ⟨u1,u2,rfl⟩ hc hN hM
    rw[List.getElem?_map] at hz
    cases ez:r[j]? with
    |none=>rw[ez] at hz;cases hz
    |some y=>
     rw[ez] at hz
     cases hz
     obtain⟨e,he⟩:∃e,ps[j]?=some e:=by
      have hj:j<ps.length:=by rw[<- hP.1];exact(List.getElem?_eq_some_iff.mp hx).1
      exact⟨ps[j],by simp⟩
     obtain⟨q,hq1,hq2⟩:=hP.2 j e he
     rw[hx] at hq1
     cases hq1
     have s4:=(Same.refl H3).zao (o:=.tup [V.ref q,V.str y]) hc
     have eg:zIe ps j=e.zqo:=by unfold zIe;rw[he];rfl
     refine⟨_,rfl,q,e,rfl,s4 _ _ ((s1.trans u1) _ _ hq2),_,rfl,?_⟩
     cases hg:e.zqo with
     |true=>
      refine iteT ⟨_,rfl,hN _ _ (s4 _ _ u2) ⟨(u1.trans s4).zao hD,zc,?_⟩⟩
      rw[zdb,eg,hg,ez,List.map_append]
      rfl
     |false=>
      refine iteF (hM _ ⟨u1.trans s4,s4 _ _ u2,?_⟩)
      rw[zdb,eg,hg,if_neg (by decide),List.append_nil]
   ·rintro ys H3 ⟨u1,u2,rfl⟩
    rw[hl,List.length_map] at u2
    refine⟨D,_,rfl,.inl ⟨SqL.of u2,fun y hy=>?_⟩⟩
    exact kQ em y _ ((s1.trans u1).trans ((Same.refl H3).zao hy)) zc
theorem scXf:FnScope ["self","at"] ["self","at"] (zb sXf):=.of (by decide +kernel)
theorem zpn (F:Fun K "__init__" "NoFit.__init__" sXf f fd)(hS:zFa K CF "at"=true):FnOk P w K mg base CX0 1 f fd ["self","at"] (spNi CF):=by
 refine F.ok scXf (fun vs H Q E h=>?_) (fun cdv A outer s H vs Q E hr h=>?_)
 ·obtain⟨a,x,rfl,_⟩:=h
  rfl
 ·obtain⟨a,x,rfl,ha,k⟩:=h
  exact⟨_,zf (zyd (pv 0) (pv 1) rfl),_,rfl,_,rfl,a,CF,rfl,ha,hS,fun d hd hn=>k d hd hn⟩
end
theorem Wd.tx {z:Str}(h:Wd z):Tx 60 z/\1<=z.length:=by
 refine⟨h.tn.tx,?_⟩
 cases h with
 |mar h=>exact h.1
 |lis xs h hi e=>
  subst e
  have:=zdh xs
  omega
end SL
namespace GL
open PySem L2 SL
structure Txt (mg:zT3):Prop where
 len:mg "len"=none
 range:mg "range"=none
 tuple:mg "tuple"=none
 isin:mg "isinstance"=none
 str:mg "str"=none
 list:mg "list"=none
theorem some_at {α:Type}(l:List α)(i:Int)(h0:0<=i)(h:i<(l.length:Int)):∃x,l[i.toNat]?=some x:=by
 have h':i.toNat<l.length:=by omega
 exact⟨l[i.toNat],by simp[h']⟩
theorem zjf {α:Type}(l:List α)(i:Int)(h0:0<=i)(h:i<(l.length:Int)):∃x,x∈l/\atI l i=some x:=by
 obtain⟨x,e⟩:=some_at l i h0 h
 refine⟨x,List.mem_of_getElem? e,?_⟩
 have z:i=((i.toNat:Nat):Int):=by omega
 rw[z]
 exact zY e
def txB (n:Nat)(z:Str):Bool:=decide (z.length<=n)&&z.cps.toList.all fun c=>decide (c<128)
theorem txK {n:Nat}{z:Str}(h:txB n z=true):Tx n z:=by
 unfold txB at h
 rw[Bool.and_eq_true] at h
 exact⟨of_decide_eq_true h.1,fun c hc=>of_decide_eq_true (List.all_eq_true.mp h.2 c hc)⟩
theorem zKb {K:W.Frag}{H:Hp}:∀zs:List Str,DsAt K H (zs.map V.str) (zs.map PyData.str)
 | []=>.nil
 |z::zs=>.cons (.str z) (zKb zs)
theorem zyb {n:Nat}:∀zs:List Str,(∀z∈zs,Tx n z)->PyData.canLayAll0 (zs.map PyData.str)=true
 | [],_=>rfl
 |z::zs,h=>by
  rw[List.map_cons,PyData.canLayAll0,zyb zs fun x hx=>h x (List.mem_cons_of_mem _ hx),(h z List.mem_cons_self).ok]
  rfl
theorem zhc:∀zs:List Str,PyData.depthAll (zs.map PyData.str)=0
 | []=>rfl
 |z::zs=>by
  rw[List.map_cons,PyData.depthAll,zhc zs]
  rfl
theorem zkf {n:Nat}{zs:List Str}(h:∀z∈zs,Tx n z):DOk (.list (zs.map PyData.str)):=⟨zyb zs h,by
 rw[PyData.depth,zhc]
 decide⟩
theorem zmi {n:Nat}{zs:List Str}(h:∀z∈zs,Tx n z):DOk (.tuple (zs.map PyData.str)):=⟨zyb zs h,by
 rw[PyData.depth,zhc]
 decide⟩
theorem zph:DOk (.list []):=⟨rfl,by decide⟩
def zT (H:Hp)(qs:List Addr)(rows:List (List Str)):Prop:=qs.length=rows.length/\∀(i:Nat)(r:List Str),rows[i]?=some r->∃q,qs[i]?=some q/\H q=some (.tup (r.map V.str))/\(r.length<=8/\∀z∈r,Tx 60 z)
theorem zT.zro {H H':Hp}{qs:List Addr}{rows:List (List Str)}(h:zT H qs rows)(s:zha H H'):zT H' qs rows:=⟨h.1,fun i r e=>by
 obtain⟨q,h1,h2,h3⟩:=h.2 i r e
 exact⟨q,h1,s _ _ h2,h3⟩⟩
theorem zT.nil {H:Hp}:zT H [] []:=⟨rfl,fun i r e=>by simp at e⟩
theorem zT.snoc {H:Hp}{qs:List Addr}{rows:List (List Str)}{r:List Str}{q:Addr}(h:zT H qs rows)(h1:H q=some (.tup (r.map V.str)))(h2:r.length<=8/\∀z∈r,Tx 60 z):zT H (qs++[q]) (rows++[r]):=by
 refine⟨by rw[List.length_append,List.length_append,h.1];rfl,fun i x ex=>?_⟩
 by_cases hlt:i<rows.length
 ·rw[List.getElem?_append_left hlt] at ex
  obtain⟨q',g1,g2,g3⟩:=h.2 i x ex
  exact⟨q',by rw[List.getElem?_append_left (by rw[h.1];exact hlt)];exact g1,g2,g3⟩
 ·rw[List.getElem?_append_right (by omega)] at ex
  have hi:i-rows.length=0:=by
   cases g:i-rows.length with
   |zero=>rfl
   |succ n=>rw[g] at ex;simp at ex
  rw[hi] at ex
  cases ex
  refine⟨q,?_,h1,h2⟩
  have:i=qs.length:=by rw[h.1];omega
  rw[this,List.getElem?_append_right (Nat.le_refl _),Nat.sub_self]
  rfl
def dRow (r:List Str):PyData:=.tuple (r.map PyData.str)
theorem zqe {K:W.Frag}{H:Hp}:∀(rows:List (List Str))(qs:List Addr),zT H qs rows->DsAt K H (qs.map V.ref) (rows.map dRow)/\PyData.canLayAll0 (rows.map dRow)=true
 | [],[],_=>⟨.nil,rfl⟩
 | [],_::_,h=>by have:=h.1;simp at this
 |_::_,[],h=>by have:=h.1;simp at this
 |r::rows,q::qs,h=>by
  obtain⟨q',g1,g2,g3⟩:=h.2 0 r rfl
  cases g1
  have ih:=zqe (K:=K) rows qs ⟨by simpa using h.1,fun i x ex=>by
   obtain⟨q',g1,g2⟩:=h.2 (i+1) x (by simpa using ex)
   exact⟨q',by simpa using g1,g2⟩⟩
  refine⟨.cons (.tup (SqT.of g2) (zKb r)) ih.1,?_⟩
  rw[List.map_cons,PyData.canLayAll0,ih.2]
  have e:(dRow r).canLay0=true:=zyb r g3.2
  rw[e]
  rfl
theorem zlf:∀a b:List Str,PyData.eqvAll (a.map PyData.str) (b.map PyData.str)=decide (a=b)
 | [],[]=>rfl
 | [],_::_=>by simp[PyData.eqvAll]
 |_::_,[]=>by simp[PyData.eqvAll]
 |x::a,y::b=>by
  rw[List.map_cons,List.map_cons,PyData.eqvAll,zlf a b]
  have e:PyData.eqv (.str x) (.str y)=decide (x=y):=by
   rw[PyData.eqv]
   by_cases h:x=y
   ·subst h;simp
   ·simp[h]
  rw[e]
  by_cases h1:x=y
  ·by_cases h2:a=b
   ·simp[h1,h2]
   ·simp[h1,h2]
  ·simp[h1]
theorem zak (a b:List Str):PyData.eqv (dRow a) (dRow b)=decide (a=b):=by
 unfold dRow
 rw[PyData.eqv]
 exact zlf a b
theorem zqh (r:List Str):∀rows:List (List Str),((rows.map dRow).any fun d=>PyData.eqv d (dRow r))=decide (r∈rows)
 | []=>by simp
 |x::rows=>by
  rw[List.map_cons,List.any_cons,zqh r rows,zak]
  by_cases h1:x=r
  ·subst h1;simp
  ·have h1':¬r=x:=fun z=>h1 z.symm
   simp[h1,h1']
theorem zCl {r:List Str}(h:∀z∈r,Tx 60 z):DOk (dRow r):=zmi h
theorem zic {H:Hp}{qs:List Addr}{rows:List (List Str)}(h:zT H qs rows){i:Nat}(hi:i<rows.length):∃r q,rows[i]?=some r/\qs[i]?=some q/\H q=some (.tup (r.map V.str))/\(r.length<=8/\∀z∈r,Tx 60 z):=by
 obtain⟨q,g⟩:=h.2 i rows[i] (by simp[hi])
 exact⟨rows[i],q,by simp[hi],g⟩
def zxa (zs:List Str):Prop:=1<=zs.length/\zs.length<=8/\∀z∈zs,Wd z
theorem zxa.tx {r:List Str}(h:zxa r):r.length<=8/\∀z∈r,Tx 60 z:=⟨h.2.1,fun z hz=>(h.2.2 z hz).tx.1⟩
def zBa:Str:=Str.ofString "word"
def sGap:Str:=Str.ofString "gap"
def wAt (p:Nat)(r:List Str):Str:=r.getD p Str.empty
def zCd (f:Str)(zs:List Str):Option (Str×Str):=if zs.all (fun w=>decide (w=f)) then some (zBa,f) else if zs.all (fun w=>decide (lawS w=lawS f)) then some (sGap,(lawS f).str) else none
def zTc (zs:List Str):Option (Str×Str):=zCd (zs.headD Str.empty) zs
def zCa (n:Nat)(rows:List (List Str)):List (Option (Str×Str)):=(List.range n).map fun p=>zTc (rows.map (wAt p))
def zRa (rows:List (List Str)):Option (List (Str×Str)):=
 if rows.all (fun x=>decide (x.length=(rows.headD []).length)) then(if none∈zCa (rows.headD []).length rows then none else some ((zCa (rows.headD []).length rows).filterMap id)) else none
theorem zDl:∀a b:So,a.str=b.str->a=b:=by
 intro a b
 cases a<;>cases b<;>first|exact fun _=>rfl|(intro h;revert h;decide +kernel)
theorem zEl (a:So):Tx 60 a.str:=by
 cases a<;>exact(txK (n:=60) (by decide +kernel))
theorem zbk {f:Str}{zs:List Str}{e:Str×Str}(hf:Wd f)(h:zCd f zs=some e):Tx 60 e.1/\Tx 60 e.2:=by
 unfold zCd at h
 split at h
 ·cases h
  exact⟨(show Tx 60 zBa from txK (n:=60) (by decide +kernel)),hf.tx.1⟩
 ·split at h
  ·cases h
   exact⟨(show Tx 60 sGap from txK (n:=60) (by decide +kernel)),zEl _⟩
  ·cases h
def PtAt (H:Hp):V->Option (Str×Str)->Prop
 |.non,none=>True
 |.ref q,some e=>H q=some (.tup [.str e.1,.str e.2])
 |_,_=>False
def zOa (H:Hp):List V->List (Option (Str×Str))->Prop
 | [],[]=>True
 |v::vs,e::es=>PtAt H v e/\zOa H vs es
 |_,_=>False
theorem PtAt.zro {H H':Hp}(s:zha H H'):∀{v:V}{e:Option (Str×Str)},PtAt H v e->PtAt H' v e
 |.non,none,_=>True.intro
 |.ref _,some _,h=>s _ _ h
 |.non,some _,h=>h.elim
 |.ref _,none,h=>h.elim
 |.int _,_,h=>h.elim
 |.bl _,_,h=>h.elim
 |.str _,_,h=>h.elim
 |.byt _,_,h=>h.elim
 |.ty _,_,h=>h.elim
theorem zOa.zro {H H':Hp}(s:zha H H'):∀{vs:List V}{es:List (Option (Str×Str))},zOa H vs es->zOa H' vs es
 | [],[],_=>True.intro
 |_::_,_::_,⟨h1,h2⟩=>⟨h1.zro s,zOa.zro s h2⟩
 | [],_::_,h=>h.elim
 |_::_,[],h=>h.elim
theorem zOa.len {H:Hp}:∀{vs:List V}{es:List (Option (Str×Str))},zOa H vs es->vs.length=es.length
 | [],[],_=>rfl
 |_::_,_::_,⟨_,h2⟩=>by rw[List.length_cons,List.length_cons,zOa.len h2]
 | [],_::_,h=>h.elim
 |_::_,[],h=>h.elim
theorem zOa.snoc {H:Hp}{v:V}{e:Option (Str×Str)}(h:PtAt H v e):∀{vs:List V}{es:List (Option (Str×Str))},zOa H vs es->zOa H (vs++[v]) (es++[e])
 | [],[],_=>⟨h,True.intro⟩
 |_::_,_::_,⟨h1,h2⟩=>⟨h1,zOa.snoc h h2⟩
 | [],_::_,h=>h.elim
 |_::_,[],h=>h.elim
theorem zOa.get {H:Hp}:∀{vs:List V}{es:List (Option (Str×Str))}{i:Nat}{v:V},zOa H vs es->vs[i]?=some v->∃e,es[i]?=some e/\PtAt H v e
 | [],[],i,v,_,h=>by simp at h
 |x::vs,e::es,0,v,⟨h1,h2⟩,h=>by
  cases h
  exact⟨e,rfl,h1⟩
 |x::vs,e::es,i+1,v,⟨h1,h2⟩,h=>by
  obtain⟨e',g1,g2⟩:=zOa.get (i:=i) h2 (by simpa using h)
  exact⟨e',by simpa using g1,g2⟩
 | [],_::_,_,_,h,_=>h.elim
 |_::_,[],_,_,h,_=>h.elim
def dPt:Option (Str×Str)->PyData
 |none=>.none
 |some e=>.tuple [.str e.1,.str e.2]
def PTx (e:Option (Str×Str)):Prop:=∀x,e=some x->Tx 60 x.1/\Tx 60 x.2
theorem PtAt.data {K:W.Frag}{H:Hp}:∀{v:V}{e:Option (Str×Str)},PtAt H v e->DAt K H v (dPt e)
 |.non,none,_=>.non
 |.ref _,some _,h=>.tup (SqT.of h) (.cons (.str _) (.cons (.str _) .nil))
 |.non,some _,h=>h.elim
 |.ref _,none,h=>h.elim
 |.int _,_,h=>h.elim
 |.bl _,_,h=>h.elim
 |.str _,_,h=>h.elim
 |.byt _,_,h=>h.elim
 |.ty _,_,h=>h.elim
theorem zOa.data {K:W.Frag}{H:Hp}:∀{vs:List V}{es:List (Option (Str×Str))},zOa H vs es->DsAt K H vs (es.map dPt)
 | [],[],_=>.nil
 |_::_,_::_,⟨h1,h2⟩=>.cons h1.data (zOa.data h2)
 | [],_::_,h=>h.elim
 |_::_,[],h=>h.elim
theorem zck {e:Option (Str×Str)}(h:PTx e):(dPt e).canLay0=true:=by
 cases e with
 |none=>rfl
 |some x=>
  obtain⟨h1,h2⟩:=h x rfl
  show(PyData.canLay0 (.str x.1)&&(PyData.canLay0 (.str x.2)&&PyData.canLayAll0 []))=true
  rw[h1.ok,h2.ok]
  rfl
theorem zrh (e:Option (Str×Str)):(dPt e).depth<=1:=by
 cases e with
 |none=>exact Nat.zero_le _
 |some x=>exact Nat.le_refl _
theorem zDd:∀{es:List (Option (Str×Str))},(∀e∈es,PTx e)->PyData.canLayAll0 (es.map dPt)=true
 | [],_=>rfl
 |e::es,h=>by
  rw[List.map_cons,PyData.canLayAll0,zck (h e List.mem_cons_self),zDd fun x hx=>h x (List.mem_cons_of_mem _ hx)]
  rfl
theorem zjc:∀es:List (Option (Str×Str)),PyData.depthAll (es.map dPt)<=1
 | []=>Nat.zero_le _
 |e::es=>by
  rw[List.map_cons,PyData.depthAll]
  exact Nat.max_le.mpr ⟨zrh e,zjc es⟩
theorem zdk {es:List (Option (Str×Str))}(h:∀e∈es,PTx e):DOk (.tuple (es.map dPt)):=⟨zDd h,by
 rw[PyData.depth]
 have:=zjc es
 omega⟩
theorem any_none:∀es:List (Option (Str×Str)),((es.map dPt).any fun d=>PyData.eqv d .none)=decide (none∈es)
 | []=>by simp
 |none::es=>by
  rw[List.map_cons,List.any_cons]
  show(true||_)=_
  simp
 |some x::es=>by
  rw[List.map_cons,List.any_cons,any_none es]
  show(false||_)=_
  rw[Bool.false_or]
  exact decide_eq_decide.mpr ⟨List.mem_cons_of_mem _,fun h=>by simpa using h⟩
def FmAt (H:Hp)(v:V):Option (List (Str×Str))->Prop
 |none=>v=.non
 |some es=>∃p vs,v=.ref p/\H p=some (.tup vs)/\zOa H vs (es.map some)
theorem zLb:∀{es:List (Option (Str×Str))},¬none∈es->(es.filterMap id).map some=es
 | [],_=>rfl
 |none::es,h=>absurd List.mem_cons_self h
 |some x::es,h=>by
  have e:(some x::es).filterMap id=x::es.filterMap id:=rfl
  rw[e,List.map_cons,zLb fun z=>h (List.mem_cons_of_mem _ z)]
theorem zKe {p:Nat}{r:List Str}(h:p<r.length):wAt p r∈r:=by
 unfold wAt
 have e:r.getD p Str.empty=r[p]:=by simp[List.getD,h]
 rw[e]
 exact List.getElem_mem h
theorem zni {n:Nat}{rows:List (List Str)}(hne:1<=rows.length)(hok:∀r∈rows,zxa r)(hlen:∀r∈rows,r.length=n):∀e∈zCa n rows,PTx e:=fun e he x ex=>by
 obtain⟨p,hp,q⟩:=List.mem_map.mp he
 have hp':=List.mem_range.mp hp
 subst ex
 refine zbk (f:=(rows.map (wAt p)).headD Str.empty) ?_ q
 cases rows with
 |nil=>simp at hne
 |cons r rows=>
  exact(hok r List.mem_cons_self).2.2 _ (zKe (by rw[hlen r List.mem_cons_self];exact hp'))
def spLp:Sp:=fun vs H Q _=>∃(l:Addr)(zs:List Str),vs=[.ref l]/\H l=some (.lst (zs.map V.str))/\1<=zs.length/\zs.length<=64/\(∀z∈zs,Wd z)/\∀(v:V)(H':Hp),Same H H'->PtAt H' v (zTc zs)->Q v H'
theorem dec_str (a b:Str):decide (V.str a=V.str b)=decide (a=b):=decide_eq_decide.mpr ⟨fun q=>by injection q,fun q=>by rw[q]⟩
theorem zbc (a b:Int):decide (V.int a=V.int b)=decide (a=b):=decide_eq_decide.mpr ⟨fun q=>by injection q,fun q=>by rw[q]⟩
theorem headD_at {zs:List Str}(h:1<=zs.length):zs[0]?=some (zs.headD Str.empty):=by
 cases zs with
 |nil=>simp at h
 |cons z zs=>rfl
theorem headD_mem {zs:List Str}(h:1<=zs.length):zs.headD Str.empty∈zs:=List.mem_of_getElem? (headD_at h)
section
variable {P:Program}{w:World}{K:W.Frag}{mg:zT3}{base:Heap}
theorem scLp:FnScope ["words","first","sort"] ["words"] (zb sLp):=.of (by decide +kernel)
def zek:Scope:=⟨.function,[(".0",.local),("word",.local),("first",.free)],false,false,[]⟩
def zfk:Scope:=⟨.function,[(".0",.local),("word",.local),("sort_of",.globalImplicit),("sort",.free)],false,false,[]⟩
theorem scP1:BlkScope (zb sLp) ["words","first","sort"] ["word"] ["first"] [1] zek:=.of (by decide +kernel)
theorem scP2:BlkScope (zb sLp) ["words","first","sort"] ["word"] ["sort"] [2] zfk:=.of (by decide +kernel)
theorem zqn (F:Fun K "least_part" "least_part" sLp f fd)(T:TS mg)(FS:Fun K "sort_of" "sort_of" sSo fS fdS)(bS:Binds K fdS ["text"] [])(gS:mg "sort_of"=some (.ref fS))(GS:FnOk P w K mg base CX0 5 fS fdS ["text"] spSo):
  FnOk P w K mg base CX0 6 f fd ["words"] spLp:=by
 refine F.ok scLp (fun vs H Q E h=>?_) (fun cdv A outer s H vs Q E hr h=>?_)
 ·obtain⟨l,zs,rfl,_⟩:=h
  rfl
 ·obtain⟨l,zs,rfl,hL,h1,h64,hW,k⟩:=h
  have wf:Wd (zs.headD Str.empty):=hW _ (headD_mem h1)
  have e0:atI (zs.map V.str) 0=some (.str (zs.headD Str.empty)):=zY (j:=0) (by rw[List.getElem?_map,headD_at h1];rfl)
  unfold zTc at k
  generalize zs.headD Str.empty=fi at wf e0 k
  have tx:∀z∈zs,Tx 1000 z:=fun z hz=>(hW z hz).tx.1.mono (by decide)
  refine⟨_,ze (zH (i:=1) scLp.nd rfl (Or.inr rfl) (zU zEa (pv 0) zg (fun _ _=>rfl)))
   (ze (zM (zba (zq (zpb rfl) (by rfl) T.all boot_all (za (zWa scP1 rfl rfl rfl (zja (pv 0)) (fun fp C s1 H1=>zC (i:=0) scP1.nd rfl (Or.inl rfl)) (fun fp C s1 H1=>zla) (fun fp C s1 H1=>zQ zV (pv 0) (pv 1) (zu _))) zd)))
    (zf (zp (zua (za zx (za (pv 1) zd))))) zt)
   (ze (zH (i:=2) scLp.nd rfl (Or.inr rfl) (zi GS hr rfl gS FS.kp bS .nil zw (za (pv 1) zd)))
   (ze (zM (zba (zq (zpb rfl) (by rfl) T.all boot_all (za (zWa scP2 rfl rfl rfl (zja (pv 0)) (fun fp C s1 H1=>zC (i:=0) scP2.nd rfl (Or.inl rfl)) (fun fp C s1 H1=>zla) (fun fp C s1 H1=>zQ zV (zi GS hr rfl gS FS.kp bS .nil zw (za (pv 0) zd)) (pv 1) (zu _))) zd)))
    (zf (zp (zua (za zx (za (pv 2) zd))))) zt)
   (zf (zp zia))))),?_⟩
  refine⟨_,rfl,l,_,_,_,rfl,rfl,SqL.of hL,e0,?_⟩
  refine⟨_,rfl,l,rfl,⟨_,SqL.of hL⟩,fun D hD=>?_⟩
  refine zAa (K:=K) (a:=l) (xs:=zs.map V.str) (fun i ys H2=>ys=((zs.take i).map fun w=>decide (w=fi)).map V.bl/\Same H H2/\H2 D=some (.lst ys)) (Nat.le_of_lt (zv (by rw[List.length_map];omega))) ⟨by simp,(Same.refl H).zao hD,zc⟩
   (fun i ys H2 h=>by rw[h.1,List.length_map,List.length_map,List.length_take];exact Nat.min_le_left _ _) (fun i ys H2 h=>SqL.of (h.2.1 _ _ hL)) ?_ ?_
  ·rintro i ys H2 x N M hx ⟨rfl,s2,hD2⟩ hN hM
   rw[List.getElem?_map] at hx
   cases et:zs[i]? with
   |none=>rw[et] at hx;cases hx
   |some z=>
    rw[et] at hx
    cases hx
    refine⟨_,rfl,_,rfl,rfl,?_⟩
    rw[dec_str]
    refine hN _ H2 hD2 ⟨?_,s2.zao hD,zc⟩
    rw[List.take_add_one,et,List.map_append,List.map_append]
    rfl
  rintro ys H2 ⟨rfl,s2,hD2⟩
  rw[List.length_map,List.take_of_length_le (Nat.le_refl _)] at hD2
  refine⟨D,_,rfl,SqL.of hD2,zs.all fun w=>decide (w=fi),by rw[List.all_map];rfl,?_⟩
  unfold zCd at k
  cases hA:zs.all fun w=>decide (w=fi) with
  |true=>
   rw[hA] at k
   refine iteT ⟨_,rfl,(by show 2<=sizeLine;decide),fun t ht=>?_⟩
   exact k (.ref t) _ (s2.zao (s2.free ht)) zc
  |false=>
   rw[hA] at k
   refine iteF ?_
   refine⟨_,rfl,fi,rfl,wf.tx.1.mono (by decide),fun H3 s3=>?_⟩
   rw[wf.sort]
   have t3:=s2.trans s3
   refine⟨_,rfl,l,rfl,⟨_,SqL.of (t3 _ _ hL)⟩,fun D2 hD2'=>?_⟩
   refine zAa (K:=K) (a:=l) (xs:=zs.map V.str) (fun i ys H4=>ys=((zs.take i).map fun w=>decide (lawS w=lawS fi)).map V.bl/\Same H3 H4/\H4 D2=some (.lst ys)) (Nat.le_of_lt (zv (by rw[List.length_map];omega))) ⟨by simp,(Same.refl H3).zao hD2',zc⟩
    (fun i ys H4 h=>by rw[h.1,List.length_map,List.length_map,List.length_take];exact Nat.min_le_left _ _) (fun i ys H4 h=>SqL.of (h.2.1 _ _ (t3 _ _ hL))) ?_ ?_
   ·rintro i ys H4 x N M hx ⟨rfl,s4,hD4⟩ hN hM
    rw[List.getElem?_map] at hx
    cases et:zs[i]? with
    |none=>rw[et] at hx;cases hx
    |some z=>
     rw[et] at hx
     cases hx
     have hz:=List.mem_of_getElem? et
     refine⟨_,rfl,z,rfl,tx z hz,fun H5 s5=>?_⟩
     rw[(hW z hz).sort]
     refine⟨_,rfl,rfl,?_⟩
     have e1:decide (vS (some (lawS z))=vS (some (lawS fi)))=decide (lawS z=lawS fi):=by
      show decide (V.str (lawS z).str=V.str (lawS fi).str)=_
      rw[dec_str]
      exact decide_eq_decide.mpr ⟨fun q=>zDl _ _ q,fun q=>by rw[q]⟩
     rw[e1]
     refine hN _ H5 (s5 _ _ hD4) ⟨?_,(s4.trans s5).zao hD2',zc⟩
     rw[List.take_add_one,et,List.map_append,List.map_append]
     rfl
   rintro ys H4 ⟨rfl,s4,hD4⟩
   rw[List.length_map,List.take_of_length_le (Nat.le_refl _)] at hD4
   have t4:=t3.trans s4
   refine⟨D2,_,rfl,SqL.of hD4,zs.all fun w=>decide (lawS w=lawS fi),by rw[List.all_map];rfl,?_⟩
   cases hB:zs.all fun w=>decide (lawS w=lawS fi) with
   |true=>
    rw[hB] at k
    refine iteT ⟨_,rfl,(by show 2<=sizeLine;decide),fun t ht=>?_⟩
    exact k (.ref t) _ (t4.zao (t4.free ht)) zc
   |false=>
    rw[hB] at k
    exact iteF (k .non H4 t4 True.intro)
end
def zFl:Sp:=fun vs H Q _=>∃(p:Nat)(a:Addr)(qs:List Addr)(rows:List (List Str)),vs=[.int (p:Int),.ref a]/\H a=some (.lst (qs.map V.ref))/\zT H qs rows/\rows.length<=64/\(∀r∈rows,p<r.length)∧
 ∀(l:Addr)(H':Hp),Same H H'->H' l=some (.lst ((rows.map (wAt p)).map V.str))->Q (.ref l) H'
def zsh:Sp:=fun vs H Q _=>∃(a:Addr)(qs:List Addr)(rows:List (List Str)),vs=[.ref a]/\H a=some (.lst (qs.map V.ref))/\zT H qs rows/\rows.length<=64/\1<=rows.length/\(∀r∈rows,zxa r)/\∀(v:V)(H':Hp),Same H H'->FmAt H' v (zRa rows)->Q v H'
section
variable {P:Program}{w:World}{K:W.Frag}{mg:zT3}{base:Heap}
theorem zrn:FnScope ["place","rows"] ["place","rows"] (zb sWa):=.of (by decide +kernel)
def zoi:Scope:=⟨.function,[(".0",.local),("row",.local),("place",.free)],false,false,[]⟩
theorem zdj:BlkScope (zb sWa) ["place","rows"] ["row"] ["place"] [0] zoi:=.of (by decide +kernel)
theorem zGl (F:Fun K "words_at" "words_at" sWa f fd):FnOk P w K mg base CX0 1 f fd ["place","rows"] zFl:=by
 refine F.ok zrn (fun vs H Q E h=>?_) (fun cdv A outer s H vs Q E hr h=>?_)
 ·obtain⟨p,a,qs,rows,rfl,_⟩:=h
  rfl
 ·obtain⟨p,a,qs,rows,rfl,ha,hR,h64,hp,k⟩:=h
  have hql:(qs.map V.ref).length=rows.length:=by rw[List.length_map];exact hR.1
  refine⟨_,zf (zp (zWa zdj rfl rfl rfl (zja (pv 1)) (fun fp C s1 H1=>zC (i:=0) zdj.nd rfl (Or.inl rfl)) (fun fp C s1 H1=>zla)
   (fun fp C s1 H1=>zU (r:=rIxT K) zfa (pv 0) (pv 1) (fun _ _=>rfl)))),?_⟩
  refine⟨_,rfl,a,rfl,⟨_,SqL.of ha⟩,fun D hD=>?_⟩
  refine zAa (K:=K) (a:=a) (xs:=qs.map V.ref) (fun i ys H2=>ys=((rows.take i).map (wAt p)).map V.str/\Same H H2/\H2 D=some (.lst ys)) (Nat.le_of_lt (zv (by omega))) ⟨by simp,(Same.refl H).zao hD,zc⟩
   (fun i ys H2 h=>by rw[h.1,List.length_map,List.length_map,List.length_take];exact Nat.min_le_left _ _) (fun i ys H2 h=>SqL.of (h.2.1 _ _ ha)) ?_ ?_
  ·rintro i ys H2 x N M hx ⟨rfl,s2,hD2⟩ hN hM
   have hi:i<rows.length:=by
    have:=(List.getElem?_eq_some_iff.mp hx).1
    omega
   obtain⟨r,q,er,eq,hq,hok⟩:=zic hR hi
   rw[List.getElem?_map,eq] at hx
   cases hx
   have hpr:=hp r (List.mem_of_getElem? er)
   refine⟨_,rfl,_,rfl,q,_,_,.str (wAt p r),rfl,rfl,SqT.of (s2 _ _ hq),zY ?_,?_⟩
   ·rw[List.getElem?_map]
    unfold wAt
    simp[List.getD,hpr]
   ·refine hN _ H2 hD2 ⟨?_,s2.zao hD,zc⟩
    rw[List.take_add_one,er,List.map_append,List.map_append]
    rfl
  ·rintro ys H2 ⟨rfl,s2,hD2⟩
   rw[hql,List.take_of_length_le (Nat.le_refl _)] at hD2
   exact k D H2 s2 hD2
theorem zHl:FnScope ["rows","parts"] ["rows"] (zb sLf):=.of (by decide +kernel)
def zpi:Scope:=⟨.function,[(".0",.local),("row",.local),("len",.globalImplicit)],false,false,[]⟩
def zqi:Scope:=⟨.function,[(".0",.local),("place",.local),("least_part",.globalImplicit),("words_at",.globalImplicit),("rows",.free)],false,false,[]⟩
theorem zIl:BlkScope (zb sLf) ["rows","parts"] ["row"] [] [] zpi:=.of (by decide +kernel)
theorem zJl:BlkScope (zb sLf) ["rows","parts"] ["place"] ["rows"] [0] zqi:=.of (by decide +kernel)
theorem zKl (F:Fun K "least_form" "least_form" sLf f fd)(T:TS mg)(TX:Txt mg)(hset:mg "set"=none)(FS:Fun K "sort_of" "sort_of" sSo fS fdS)(bS:Binds K fdS ["text"] [])(gS:mg "sort_of"=some (.ref fS))(GS:FnOk P w K mg base CX0 5 fS fdS ["text"] spSo)
  (FP:Fun K "least_part" "least_part" sLp fP fdP)(bP:Binds K fdP ["words"] [])(gP:mg "least_part"=some (.ref fP))(FA:Fun K "words_at" "words_at" sWa fA fdA)(bA:Binds K fdA ["place","rows"] [])(gA:mg "words_at"=some (.ref fA)):
  FnOk P w K mg base CX0 7 f fd ["rows"] zsh:=by
 have GP:FnOk P w K mg base CX0 6 fP fdP ["words"] spLp:=zqn FP T FS bS gS GS
 have GA:FnOk P w K mg base CX0 1 fA fdA ["place","rows"] zFl:=zGl FA
 refine F.ok zHl (fun vs H Q E h=>?_) (fun cdv A outer s H vs Q E hr h=>?_)
 ·obtain⟨a,qs,rows,rfl,_⟩:=h
  rfl
 ·obtain⟨a,qs,rows,rfl,ha,hR,h64,h1,hok,k⟩:=h
  have hr1:Room 1 _:=hr.mono (by decide)
  have hu64:=hr.units
  have hql:(qs.map V.ref).length=rows.length:=by rw[List.length_map];exact hR.1
  refine⟨_,ze (zM (zr zTd (zq zGg (by rfl) TX.len PySem.boot_len (za (zS (zFg rfl) (by rfl) hset PyProof.Rows.boot_set (za (zWa zIl rfl rfl rfl (zja (pv 0)) (fun fp C s1 H1=>zC (i:=0) zIl.nd rfl (Or.inl rfl)) (fun fp C s1 H1=>zla)
     (fun fp C s1 H1=>zq (r:=fun xs H Q=>∃p ys,xs=[.ref p]/\(SqL K H p ys\/SqT K H p ys)/\Q (.int ys.length) H) zo (by rfl) TX.len PySem.boot_len (za (pv 0) zd))) zd)) zd)) zg (zu _)) (zf (zp zia)) zt)
   (ze (zbb (i:=1) zJl rfl rfl rfl (zZ rfl TX.range (za (zq zo (by rfl) TX.len PySem.boot_len (za (zU zEa (pv 0) zg (fun _ _=>rfl)) zd)) zd)) (fun fp C s1 H1=>zC (i:=0) zJl.nd rfl (Or.inl rfl)) (fun fp C s1 H1=>zla)
     (fun fp C s1 H1=>zi GP hr rfl gP FP.kp bP .nil zw (za (zi GA hr1 rfl gA FA.kp bA .nil zw (za (pv 0) (za (pv 1) zd))) zd)) zHl.nd rfl rfl rfl)
   (zf (zp (ztb (zr (zWi hu64) zia (pv 1) (by with_unfolding_all rfl)) zia (zS zL (by rfl) TX.tuple PyProof.Rows.boot_tuple (za (pv 1) zd)))))),?_⟩
  refine⟨_,rfl,a,rfl,⟨_,SqL.of ha⟩,fun D hD=>?_⟩
  refine zAa (K:=K) (a:=a) (xs:=qs.map V.ref) (fun i ys H2=>ys=((rows.take i).map fun r=>((r.length:Nat):Int)).map V.int/\Same H H2/\H2 D=some (.lst ys)) (Nat.le_of_lt (zv (by omega))) ⟨by simp,(Same.refl H).zao hD,zc⟩
   (fun i ys H2 h=>by rw[h.1,List.length_map,List.length_map,List.length_take];exact Nat.min_le_left _ _) (fun i ys H2 h=>SqL.of (h.2.1 _ _ ha)) ?_ ?_
  ·rintro i ys H2 x N M hx ⟨rfl,s2,hD2⟩ hN hM
   have hi:i<rows.length:=by
    have:=(List.getElem?_eq_some_iff.mp hx).1
    omega
   obtain⟨r,q,er,eq,hq,_⟩:=zic hR hi
   rw[List.getElem?_map,eq] at hx
   cases hx
   refine⟨_,rfl,q,_,rfl,.inr (SqT.of (s2 _ _ hq)),?_⟩
   refine hN _ H2 hD2 ⟨?_,s2.zao hD,zc⟩
   rw[List.take_add_one,er,List.map_append,List.map_append]
   simp
  rintro ys H2 ⟨rfl,s2,hD2⟩
  rw[hql,List.take_of_length_le (Nat.le_refl _)] at hD2
  refine⟨D,rows.map fun r=>((r.length:Nat):Int),rfl,SqL.of hD2,by rw[List.length_map];omega,fun st hst=>?_⟩
  have s3:=(Same.refl H2).zao (o:=.set (inI (rows.map fun r=>((r.length:Nat):Int))) (zje (rows.map fun r=>((r.length:Nat):Int)))) hst
  refine⟨st,_,_,rfl,zc,rfl,_,rfl,?_⟩
  generalize hH3:upd H2 st (.set (inI (rows.map fun r=>((r.length:Nat):Int))) (zje (rows.map fun r=>((r.length:Nat):Int))))=H3 at s3
  rw[zbc]
  obtain⟨r0,q0,er0,eq0,hq0,_⟩:=zic hR (i:=0) (by omega)
  have eh:rows.headD []=r0:=by
   cases rows with
   |nil=>simp at h1
   |cons r rows=>cases er0;rfl
  have hmem0:((r0.length:Nat):Int)∈rows.map fun r=>((r.length:Nat):Int):=List.mem_map.mpr ⟨r0,List.mem_of_getElem? er0,rfl⟩
  have hone:=zRh hmem0
  unfold zRa at k
  rw[eh] at k
  by_cases hl:rows.all (fun x=>decide (x.length=r0.length))=true
  ·rw[if_pos hl] at k
   have hall:∀r∈rows,r.length=r0.length:=fun r hr'=>of_decide_eq_true (List.all_eq_true.mp hl r hr')
   have hm1:zje (rows.map fun r=>((r.length:Nat):Int))=1:=hone.mpr fun x hx=>by
    obtain⟨r,hr',rfl⟩:=List.mem_map.mp hx
    rw[hall r hr']
   rw[hm1]
   refine iteF ?_
   have t3:=s2.trans s3
   have hl8:=(hok r0 (List.mem_of_getElem? er0)).2.1
   refine⟨_,rfl,a,_,_,_,rfl,rfl,SqL.of (t3 _ _ ha),zY (j:=0) (by rw[List.getElem?_map,eq0];rfl),q0,_,rfl,.inr (SqT.of (t3 _ _ hq0)),_,rfl,by omega,by rw[List.length_map];omega,?_⟩
   rw[List.length_map,Int.toNat_natCast]
   intro D2 hD2'
   refine zsc (n:=r0.length) (fun i ys H4=>zOa H4 ys (zCa i rows)/\Same H3 H4/\H4 D2=some (.lst ys)) (Nat.le_of_lt (zv (by omega))) ⟨True.intro,(Same.refl H3).zao hD2',zc⟩
    (fun i ys H4 h=>by rw[h.1.len];unfold zCa;rw[List.length_map,List.length_range];exact Nat.le_refl _) ?_ ?_
   ·rintro i ys H4 N M hi ⟨hp,s4,hD4⟩ hN hM
    have i0:0+(i:Int)=(i:Int):=Int.zero_add _
    rw[i0]
    have t4:=t3.trans s4
    refine⟨_,rfl,_,rfl,i,a,qs,rows,rfl,t4 _ _ ha,hR.zro t4.tups,h64,fun r hr'=>by rw[hall r hr'];exact hi,fun l H5 s5 hl5=>?_⟩
    refine⟨l,rows.map (wAt i),rfl,hl5,by rw[List.length_map];omega,by rw[List.length_map];omega,fun z hz=>?_,fun v H6 s6 hv=>?_⟩
    ·obtain⟨r,hr',rfl⟩:=List.mem_map.mp hz
     exact(hok r hr').2.2 _ (zKe (by rw[hall r hr'];exact hi))
    ·have ts:zha H6 (upd H6 D2 (.lst (ys++[v]))):=zha.zeo (fun _ _ e=>e) ((s5.trans s6) _ _ hD4)
     refine hN v H6 ((s5.trans s6) _ _ hD4) ⟨?_,(s4.trans (s5.trans s6)).zao hD2',zc⟩
     have e1:zCa (i+1) rows=zCa i rows++[zTc (rows.map (wAt i))]:=by
      unfold zCa
      rw[List.range_succ,List.map_append]
      rfl
     rw[e1]
     exact((hp.zro (s5.trans s6).tups).zro ts).snoc (hv.zro ts)
   ·rintro ys H4 ⟨hp,s4,hD4⟩
    have t4:=t3.trans s4
    have hptx:=zni h1 hok hall
    refine⟨_,rfl,D2,ys,.none,(zCa r0.length rows).map dPt,rfl,.inl (SqL.of hD4),hp.data,.non,⟨rfl,by decide⟩,zDd hptx,decide (none∈zCa r0.length rows),by rw[<- any_none];rfl,?_⟩
    by_cases hn:none∈zCa r0.length rows
    ·rw[decide_eq_true hn]
     rw[if_pos hn] at k
     exact iteT (k .non H4 t4 rfl)
    ·rw[decide_eq_false hn]
     rw[if_neg hn] at k
     refine iteF ⟨_,rfl,D2,_,rfl,.inl ⟨SqL.of hD4,fun t ht=>?_⟩⟩
     have s5:=(Same.refl H4).zao (o:=.tup ys) ht
     exact k (.ref t) _ (t4.trans s5) ⟨t,ys,rfl,zc,by rw[zLb hn];exact hp.zro s5.tups⟩
  ·rw[if_neg hl] at k
   have hm1:¬((zje (rows.map fun r=>((r.length:Nat):Int)):Nat):Int)=1:=fun z=>hl (List.all_eq_true.mpr fun r hr'=>decide_eq_true (by
    have q:=hone.mp (by omega) _ (List.mem_map.mpr ⟨r,hr',rfl⟩)
    omega))
   rw[decide_eq_false hm1]
   exact iteT (k .non H3 (s2.trans s3) rfl)
end
end GL
namespace GL
section
variable {α:Type}[DecidableEq α]
def unlF (met:List α):List α->List α
 | []=>met
 |r::rs=>unlF (if r∈met then met else met++[r]) rs
def unl (rows:List α):List α:=unlF [] rows
theorem zri (met a b:List α):unlF met (a++b)=unlF (unlF met a) b:=by
 induction a generalizing met with
 |nil=>rfl
 |cons r a ih=>exact ih _
theorem zvc (a:List α)(r:α):unl (a++[r])=if r∈unl a then unl a else unl a++[r]:=zri [] a [r]
theorem zmf (x:α):∀(rs met:List α),x∈unlF met rs↔x∈met\/x∈rs
 | [],met=>by simp[unlF]
 |r::rs,met=>by
  show x∈unlF (if r∈met then met else met++[r]) rs↔_
  rw[zmf x rs]
  by_cases h:r∈met
  ·rw[if_pos h,List.mem_cons]
   refine⟨fun q=>q.imp id .inr,fun q=>?_⟩
   rcases q with q|q|q
   ·exact .inl q
   ·subst q;exact .inl h
   ·exact .inr q
  ·rw[if_neg h,List.mem_append,List.mem_singleton,List.mem_cons,or_assoc]
theorem zMb (x:α)(rs:List α):x∈unl rs↔x∈rs:=by
 unfold unl
 rw[zmf]
 simp
theorem zth:∀(rs met:List α),met.Nodup->(unlF met rs).Nodup
 | [],_,h=>h
 |r::rs,met,h=>by
  refine zth rs _ ?_
  by_cases q:r∈met
  ·rw[if_pos q];exact h
  ·rw[if_neg q,List.nodup_append]
   refine⟨h,by simp,fun a ha b hb=>?_⟩
   have:b=r:=by simpa using hb
   subst this
   intro e
   subst e
   exact q ha
theorem zre (rs:List α):(unl rs).Nodup:=zth rs [] (by simp)
end
end GL
namespace GL
open PySem L2 SL
def takes (e:Str×Str)(w:Str):Bool:=if e.1=sGap then decide ((lawS w).str=e.2) else decide (w=e.2)
def zNb:List (Str×Str)->List Str->Bool
 | [],[]=>true
 |e::es,w::r=>takes e w&&zNb es r
 |_,_=>false
theorem zzb:∀(es:List (Str×Str))(r:List Str),zNb es r=true↔es.length=r.length/\∀(i:Nat)(e:Str×Str)(w:Str),es[i]?=some e->r[i]?=some w->takes e w=true
 | [],[]=>by
  refine⟨fun _=>⟨rfl,fun i e w h=>by simp at h⟩,fun _=>rfl⟩
 | [],w::r=>by
  exact⟨fun h=>(by cases h),fun h=>(by have:=h.1;simp at this)⟩
 |e::es,[]=>by
  exact⟨fun h=>(by cases h),fun h=>(by have:=h.1;simp at this)⟩
 |e::es,w::r=>by
  show(takes e w&&zNb es r)=true↔_
  rw[Bool.and_eq_true,zzb es r]
  constructor
  ·rintro⟨h1,h2,h3⟩
   refine⟨by simpa using h2,fun i e' w' g1 g2=>?_⟩
   cases i with
   |zero=>cases g1;cases g2;exact h1
   |succ i=>exact h3 i e' w' (by simpa using g1) (by simpa using g2)
  ·rintro⟨h1,h2⟩
   exact⟨h2 0 e w rfl rfl,by simpa using h1,fun i e' w' g1 g2=>h2 (i+1) e' w' (by simpa using g1) (by simpa using g2)⟩
def zsb (es:List (Str×Str)):Nat:=(es.filter fun e=>decide (e.1=sGap)).length
def zBb (most:Int)(rs:List (List Str)):Option (List (Str×Str)):=match zRa rs with
 |none=>none
 |some es=>if most<(zsb es:Int) then none else some es
def rIn (ks:List (List Str))(g:List Int):List (List Str):=g.map fun i=>ks.getD i.toNat []
def zsa (es:List (Str×Str))(g:List Int)(ks:List (List Str)):Bool:=((List.range ks.length).filter fun(j:Nat)=>!decide ((j:Int)∈g)).any fun j=>zNb es (ks.getD j [])
def zga (g:List Int):Int:=g.getLastD 0
def gOn (ks:List (List Str))(most:Int):Nat->List Int->List (List Int)
 |0,_=>[]
 |d+1,g=>match zBb most (rIn ks g) with
  |none=>[]
  |some es=>(if zsa es g ks then[] else[g])++(List.range ((ks.length:Int)-(zga g+1)).toNat).flatMap fun(k:Nat)=>gOn ks most d (g++[zga g+1+(k:Int)])
theorem zZa (g:List Int)(x:Int):zga (g++[x])=x:=by
 unfold zga
 simp
structure GOk (n:Nat)(g:List Int):Prop where
 ne:g≠[]
 inc:g.Pairwise (· < ·)
 ran:∀x∈g,0<=x/\x<(n:Int)
theorem zEd {g:List Int}(h:g≠[]):zga g∈g:=by
 obtain⟨l,x,rfl⟩:∃l x,g=l++[x]:=⟨g.dropLast,g.getLast h,(List.dropLast_concat_getLast h).symm⟩
 rw[zZa]
 simp
theorem zsi {n:Nat}{g:List Int}(h:GOk n g):∀x∈g,x<=zga g:=by
 obtain⟨l,y,rfl⟩:∃l x,g=l++[x]:=⟨g.dropLast,g.getLast h.ne,(List.dropLast_concat_getLast h.ne).symm⟩
 rw[zZa]
 intro x hx
 rcases List.mem_append.mp hx with hx|hx
 ·have:=(List.pairwise_append.mp h.inc).2.2 x hx y (by simp)
  omega
 ·rw[List.mem_singleton] at hx
  omega
theorem GOk.snoc {n:Nat}{g:List Int}{x:Int}(h:GOk n g)(h1:zga g<x)(h2:x<(n:Int)):GOk n (g++[x]):=by
 refine⟨by simp,?_,fun y hy=>?_⟩
 ·rw[List.pairwise_append]
  refine⟨h.inc,by simp,fun a ha b hb=>?_⟩
  rw[List.mem_singleton] at hb
  have:=zsi h a ha
  omega
 ·rcases List.mem_append.mp hy with hy|hy
  ·exact h.ran y hy
  ·rw[List.mem_singleton] at hy
   have:=h.ran _ (zEd h.ne)
   omega
theorem GOk.one {n:Nat}{x:Int}(h0:0<=x)(h1:x<(n:Int)):GOk n [x]:=⟨by simp,by simp,fun y hy=>by rw[List.mem_singleton] at hy;omega⟩
structure GGood (ks:List (List Str))(most:Int)(g:List Int):Prop where
 ok:GOk ks.length g
 wr:∃es,zBb most (rIn ks g)=some es/\zsa es g ks=false
theorem zFd {ks:List (List Str)}{most:Int}:∀(d:Nat)(g:List Int),GOk ks.length g->∀x∈gOn ks most d g,GGood ks most x/\g <+:x
 |0,g,_,x,hx=>by cases hx
 |d+1,g,hg,x,hx=>by
  unfold gOn at hx
  cases hf:zBb most (rIn ks g) with
  |none=>rw[hf] at hx;cases hx
  |some es=>
   rw[hf] at hx
   rcases List.mem_append.mp hx with hx|hx
   ·cases ho:zsa es g ks with
    |true=>rw[ho] at hx;simp at hx
    |false=>
     rw[ho] at hx
     have:x=g:=by simpa using hx
     subst this
     exact⟨⟨hg,es,hf,ho⟩,List.prefix_refl _⟩
   ·obtain⟨k,hk,hx⟩:=List.mem_flatMap.mp hx
    have hk':=List.mem_range.mp hk
    have q:=zFd d (g++[zga g+1+(k:Int)]) (hg.snoc (by omega) (by omega)) x hx
    exact⟨q.1,(List.prefix_append _ _).trans q.2⟩
theorem znf {ks:List (List Str)}{most:Int}{d:Nat}(ih:∀g:List Int,(gOn ks most d g).length<=2 ^ ((ks.length:Int)-1-zga g).toNat):∀(c:Nat)(g:List Int)(j:Int),j+(c:Int)=(ks.length:Int)→
  ((List.range c).flatMap fun(k:Nat)=>gOn ks most d (g++[j+(k:Int)])).length+1<=2 ^ c
 |0,g,j,_=>by simp
 |c+1,g,j,h=>by
  rw[List.range_succ_eq_map,List.flatMap_cons,List.length_append,List.flatMap_map]
  have q:=znf ih c g (j+1) (by omega)
  have e:(fun k:Nat=>gOn ks most d (g++[j+((Nat.succ k:Nat):Int)]))=fun k:Nat=>gOn ks most d (g++[j+1+(k:Int)]):=by
   funext k
   have:j+((Nat.succ k:Nat):Int)=j+1+(k:Int):=by omega
   rw[this]
  rw[e]
  have r:=ih (g++[j+((0:Nat):Int)])
  rw[zZa] at r
  have e2:((ks.length:Int)-1-(j+((0:Nat):Int))).toNat=c:=by omega
  rw[e2] at r
  rw[Nat.pow_succ]
  omega
theorem zuh {ks:List (List Str)}{most:Int}:∀(d:Nat)(g:List Int),(gOn ks most d g).length<=2 ^ ((ks.length:Int)-1-zga g).toNat
 |0,g=>Nat.zero_le _
 |d+1,g=>by
  unfold gOn
  cases zBb most (rIn ks g) with
  |none=>exact Nat.zero_le _
  |some es=>
   show(_++_:zT1).length<=_
   rw[List.length_append]
   have h1:(if zsa es g ks=true then[] else[g]).length<=1:=by
    cases zsa es g ks<;>simp
   by_cases hl:zga g+1<=(ks.length:Int)
   ·have q:=znf (ks:=ks) (most:=most) (d:=d) (zuh d) ((ks.length:Int)-(zga g+1)).toNat g (zga g+1) (by omega)
    have e:((ks.length:Int)-1-zga g).toNat=((ks.length:Int)-(zga g+1)).toNat:=by omega
    rw[e]
    omega
   ·have e:((ks.length:Int)-(zga g+1)).toNat=0:=by omega
    rw[e]
    have:0<2 ^ ((ks.length:Int)-1-zga g).toNat:=Nat.pow_pos (by decide)
    simp only[List.range_zero,List.flatMap_nil,List.length_nil]
    omega
theorem zLe {ks:List (List Str)}{most:Int}{d:Nat}{g:List Int}(hn:ks.length<=8)(h0:0<=zga g):(gOn ks most d g).length<=256:=
 Nat.le_trans (zuh d g) (Nat.le_trans (Nat.pow_le_pow_right (by decide) (show((ks.length:Int)-1-zga g).toNat<=8 by omega)) (by decide))
def fGr (ch:List (List (List Int))):Nat->List Int->Option (List (List Int))
 |_,[]=>some []
 |0,_::_=>none
 |m+1,x::left=>(ch.getD x.toNat []).findSome? fun g=>if g.all (fun i=>decide (i∈x::left)) then(fGr ch m ((x::left).filter fun i=>!decide (i∈g))).map (g::·) else none
def nums (n:Nat):List Int:=(List.range n).map fun(i:Nat)=>(i:Int)
def chM (ks:List (List Str))(most:Int):List (List (List Int)):=(nums ks.length).map fun i=>gOn ks most 9 [i]
def zPa (ks:List (List Str))(most:Int):List (List Int):=match (List.range ks.length).findSome? (fun m=>fGr (chM ks most) m (nums ks.length)) with
 |some r=>r
 |none=>(nums ks.length).map fun i=>[i]
structure Part (ks:List (List Str))(most:Int)(left:List Int)(r:zT1):Prop where
 perm:r.flatten.Perm left
 hds:(r.map fun g=>g.headD 0).Pairwise (· < ·)
 good:∀g∈r,GGood ks most g
theorem zGd (n:Nat):(nums n).Pairwise (· < ·):=by
 unfold nums
 rw[List.pairwise_map]
 exact List.pairwise_lt_range.imp fun h=>by omega
theorem zAb {n:Nat}{x:Int}:x∈nums n↔0<=x/\x<(n:Int):=by
 unfold nums
 rw[List.mem_map]
 constructor
 ·rintro⟨k,hk,rfl⟩
  have:=List.mem_range.mp hk
  omega
 ·rintro⟨h0,h1⟩
  exact⟨x.toNat,List.mem_range.mpr (by omega),by omega⟩
theorem zej:∀(a b:List Int),a.Pairwise (· < ·)->b.Pairwise (· < ·)->(∀x,x∈a↔x∈b)->a=b
 | [],[],_,_,_=>rfl
 | [],y::b,_,_,h=>by have:=(h y).mpr List.mem_cons_self;simp at this
 |x::a,[],_,_,h=>by have:=(h x).mp List.mem_cons_self;simp at this
 |x::a,y::b,ha,hb,h=>by
  obtain⟨a1,a2⟩:=List.pairwise_cons.mp ha
  obtain⟨b1,b2⟩:=List.pairwise_cons.mp hb
  have e:x=y:=by
   rcases List.mem_cons.mp ((h x).mp List.mem_cons_self) with q|q
   ·exact q
   ·rcases List.mem_cons.mp ((h y).mpr List.mem_cons_self) with r|r
    ·exact r.symm
    ·have:=b1 x q
     have:=a1 y r
     omega
  subst e
  rw[zej a b a2 b2 fun z=>⟨fun hz=>?_,fun hz=>?_⟩]
  ·rcases List.mem_cons.mp ((h z).mp (List.mem_cons_of_mem _ hz)) with q|q
   ·have:=a1 z hz
    omega
   ·exact q
  ·rcases List.mem_cons.mp ((h z).mpr (List.mem_cons_of_mem _ hz)) with q|q
   ·have:=b1 z hz
    omega
   ·exact q
theorem zgk {ks:List (List Str)}{most:Int}{x:Int}{g:List Int}(h:g∈(chM ks most).getD x.toNat [])(h0:0<=x)(h1:x<(ks.length:Int)):GGood ks most g/\∃t,g=x::t:=by
 have e:(chM ks most).getD x.toNat []=gOn ks most 9 [x]:=by
  unfold chM nums
  have hx:x.toNat<ks.length:=by omega
  have hz:((x.toNat:Nat):Int)=x:=by omega
  simp[List.getD,hx,hz]
 rw[e] at h
 have q:=zFd 9 [x] (GOk.one h0 h1) g h
 obtain⟨t,ht⟩:=q.2
 exact⟨q.1,t,ht.symm⟩
theorem zof {ks:List (List Str)}{most:Int}:∀(m:Nat)(left:List Int)(r:zT1),left.Pairwise (· < ·)->(∀x∈left,0<=x/\x<(ks.length:Int))->fGr (chM ks most) m left=some r->Part ks most left r
 |m,[],r,_,_,h=>by
  have h':some []=some r:=by
   cases m<;>exact h
  cases h'
  exact⟨List.Perm.refl _,List.Pairwise.nil,fun g hg=>by cases hg⟩
 |0,x::left,r,_,_,h=>by cases h
 |m+1,x::left,r,hinc,hran,h=>by
  unfold fGr at h
  obtain⟨g,hg,hs⟩:=List.exists_of_findSome?_eq_some h
  have hx:=hran x List.mem_cons_self
  obtain⟨gg,t,rfl⟩:=zgk hg hx.1 hx.2
  by_cases ha:(x::t).all (fun i=>decide (i∈x::left))=true
  ·rw[if_pos ha] at hs
   cases hr:fGr (chM ks most) m ((x::left).filter fun i=>!decide (i∈x::t)) with
   |none=>rw[hr] at hs;cases hs
   |some o=>
    rw[hr] at hs
    cases hs
    have hsub:∀i∈x::t,i∈x::left:=fun i hi=>of_decide_eq_true (List.all_eq_true.mp ha i hi)
    have ri:((x::left).filter fun i=>!decide (i∈x::t)).Pairwise (· < ·):=hinc.sublist List.filter_sublist
    have P:=zof m _ o ri (fun y hy=>hran y (List.mem_filter.mp hy).1) hr
    have eg:(x::left).filter (fun i=>decide (i∈x::t))=x::t:=zej _ _ (hinc.sublist List.filter_sublist) gg.ok.inc fun y=>by
     rw[List.mem_filter]
     exact⟨fun z=>of_decide_eq_true z.2,fun z=>⟨hsub y z,decide_eq_true z⟩⟩
    refine⟨?_,?_,fun g' hg'=>?_⟩
    ·rw[List.flatten_cons]
     refine((List.Perm.refl _).append P.perm).trans ?_
     have q:=List.filter_append_perm (fun i=>decide (i∈x::t)) (x::left)
     rw[eg] at q
     exact q
    ·rw[List.map_cons,List.pairwise_cons]
     refine⟨fun y hy=>?_,P.hds⟩
     obtain⟨g',hg',rfl⟩:=List.mem_map.mp hy
     have hne:=(P.good g' hg').ok.ne
     have hm:g'.headD 0∈g':=by
      cases g' with
      |nil=>exact absurd rfl hne
      |cons a b=>exact List.mem_cons_self
     have hm2:g'.headD 0∈o.flatten:=List.mem_flatten.mpr ⟨g',hg',hm⟩
     have hm3:=List.mem_filter.mp (P.perm.mem_iff.mp hm2)
     show x<_
     rcases List.mem_cons.mp hm3.1 with e|e
     ·have:¬(g'.headD 0∈x::t):=by simpa using hm3.2
      exact absurd (by rw[e];exact List.mem_cons_self) this
     ·exact(List.pairwise_cons.mp hinc).1 _ e
    ·rcases List.mem_cons.mp hg' with e|e
     ·rw[e];exact gg
     ·exact P.good g' e
  ·rw[if_neg ha] at hs
   cases hs
theorem zhk (w:Str):zTc [w]=some (zBa,w):=by
 unfold zTc zCd
 simp
theorem zvh (r:List Str):zCa r.length [r]=r.map fun w=>some (zBa,w):=by
 unfold zCa
 apply List.ext_getElem
 ·simp
 ·intro i h1 h2
  have h3:i<r.length:=by simpa using h1
  simp[zhk,wAt,h3]
theorem zti (r:List Str):zRa [r]=some (r.map fun w=>(zBa,w)):=by
 unfold zRa
 have e:([r]:List (List Str)).headD []=r:=rfl
 rw[e,zvh,if_pos (by simp),if_neg (by simp)]
 congr 1
 rw[List.filterMap_map]
 induction r with
 |nil=>rfl
 |cons w r ih=>
  simp
theorem zpf:zBa≠sGap:=by decide +kernel
theorem zui (r:List Str):zsb (r.map fun w=>(zBa,w))=0:=by
 unfold zsb
 rw[List.filter_map,List.length_map]
 have:(r.filter ((fun e:Str×Str=>decide (e.1=sGap)) ∘ fun w=>(zBa,w)))=[]:=by
  rw[List.filter_eq_nil_iff]
  intro w _
  simp[zpf]
 rw[this]
 rfl
theorem zqf:∀(r s:List Str),zNb (r.map fun w=>(zBa,w)) s=true->s=r
 | [],[],_=>rfl
 | [],_::_,h=>by cases h
 |_::_,[],h=>by cases h
 |w::r,v::s,h=>by
  have h':(takes (zBa,w) v&&zNb (r.map fun w=>(zBa,w)) s)=true:=h
  rw[Bool.and_eq_true] at h'
  have e:v=w:=by
   have:=h'.1
   unfold takes at this
   rw[if_neg zpf] at this
   exact of_decide_eq_true this
  rw[e,zqf r s h'.2]
theorem zMe {ks:List (List Str)}{most x:Int}(hm:0<=most)(nd:ks.Nodup)(h0:0<=x)(h1:x<(ks.length:Int)):GGood ks most [x]:=by
 refine⟨GOk.one h0 h1,(ks.getD x.toNat []).map fun w=>(zBa,w),?_,?_⟩
 ·unfold zBb rIn
  rw[List.map_cons,List.map_nil,zti]
  show(if most<_ then none else some _)=_
  rw[zui,if_neg (by omega)]
 ·unfold zsa
  rw[Bool.eq_false_iff]
  intro h
  obtain⟨j,hj,hf⟩:=List.any_eq_true.mp h
  obtain⟨hj1,hj2⟩:=List.mem_filter.mp hj
  have hj3:=List.mem_range.mp hj1
  have hx:x.toNat<ks.length:=by omega
  have e:=zqf _ _ hf
  have ej:ks.getD j []=ks[j]:=by simp[List.getD,hj3]
  have ex:ks.getD x.toNat []=ks[x.toNat]:=by simp[List.getD,hx]
  rw[ej,ex] at e
  have:=(List.getElem_inj nd).mp e
  have hn:¬((j:Int)∈[x]):=by simpa using hj2
  exact hn (by rw[List.mem_singleton];omega)
theorem zOb {ks:List (List Str)}{most:Int}(hm:0<=most)(nd:ks.Nodup):Part ks most (nums ks.length) (zPa ks most):=by
 unfold zPa
 cases h:(List.range ks.length).findSome? (fun m=>fGr (chM ks most) m (nums ks.length)) with
 |some r=>
  obtain⟨m,_,hr⟩:=List.exists_of_findSome?_eq_some h
  exact zof m _ r (zGd _) (fun x hx=>zAb.mp hx) hr
 |none=>
  refine⟨?_,?_,fun g hg=>?_⟩
  ·have e:((nums ks.length).map fun i=>[i]).flatten=nums ks.length:=by
    generalize nums ks.length=l
    induction l with
    |nil=>rfl
    |cons a l ih=>rw[List.map_cons,List.flatten_cons,ih];rfl
   show(((nums ks.length).map fun i=>[i]).flatten).Perm _
   rw[e]
  ·show(((nums ks.length).map fun i=>[i]).map fun g=>g.headD 0).Pairwise _
   rw[List.map_map]
   have e:((fun g:List Int=>g.headD 0) ∘ fun i=>[i])=id:=rfl
   rw[e,List.map_id]
   exact zGd _
  ·obtain⟨x,hx,rfl⟩:=List.mem_map.mp hg
   have:=zAb.mp hx
   exact zMe hm nd this.1 this.2
def spUn:Sp:=fun vs H Q _=>∃(a:Addr)(qs:List Addr)(rows:List (List Str)),vs=[.ref a]/\H a=some (.tup (qs.map V.ref))/\zT H qs rows/\rows.length<=900∧
 ∀(p:Addr)(qs':List Addr)(H':Hp),Same H H'->H' p=some (.tup (qs'.map V.ref))->zT H' qs' (unl rows)->Q (.ref p) H'
section
variable {P:Program}{w:World}{K:W.Frag}{mg:zT3}{base:Heap}
theorem scUn:FnScope ["rows","met","row"] ["rows"] (zb sUn):=.of (by decide +kernel)
theorem zwh {α:Type}[DecidableEq α]:∀(rs met:List α),(unlF met rs).length<=met.length+rs.length
 | [],met=>by simp[unlF]
 |r::rs,met=>by
  have q:=zwh rs (if r∈met then met else met++[r])
  have:(if r∈met then met else met++[r]).length<=met.length+1:=by
   split
   ·omega
   ·rw[List.length_append,List.length_singleton];omega
  show(unlF (if r∈met then met else met++[r]) rs).length<=_
  rw[List.length_cons]
  omega
theorem zvi (F:Fun K "unlike" "unlike" sUn f fd)(T:Txt mg):FnOk P w K mg base CX0 1 f fd ["rows"] spUn:=by
 refine F.ok scUn (fun vs H Q E h=>?_) (fun cdv A outer s H vs Q E hr h=>?_)
 ·obtain⟨a,qs,rows,rfl,_⟩:=h
  rfl
 ·obtain⟨a,qs,rows,rfl,ha,hR,hlen,k⟩:=h
  have hu:=hr.units
  refine⟨_,ze (zH (i:=1) scUn.nd rfl (Or.inl rfl) (zva zd))
   (ze (zta PassesOwn.never rfl (zkc (pv 0)) (zC (i:=2) scUn.nd rfl (Or.inl rfl))
    (zf (zM (zr (zfe hu) (pv 2) (pv 1) (by with_unfolding_all rfl)) (zf (zHa (zQa PySem.F.plainAttrs_list PySem.F.slot_list_append PySem.F.type_list_append zka (pv 1) (za (pv 2) zd)))) zt)))
   (zf (zp (zS zL (by rfl) T.tuple PyProof.Rows.boot_tuple (za (pv 1) zd))))),?_⟩
  refine⟨Nat.zero_le _,fun l hl=>?_⟩
  refine⟨_,rfl,a,rfl,⟨_,SqT.of (((Same.refl H).zao hl) _ _ ha)⟩,?_⟩
  have hql:(qs.map V.ref).length=rows.length:=by rw[List.length_map];exact hR.1
  refine zcg (K:=K) (a:=a) (xs:=qs.map V.ref) (fun i σ H2=>∃(ps:List Addr)(v:Option V),σ=[some (.ref a),some (.ref l),v]/\Same H H2/\H2 l=some (.lst (ps.map V.ref))/\zT H2 ps (unl (rows.take i)))
   ⟨[],none,rfl,(Same.refl H).zao hl,zc,by rw[List.take_zero];exact zT.nil⟩ (fun i σ H2 _ ⟨_,_,_,s2,_⟩=>SqT.of (s2 _ _ ha)) ?_ ?_
  ·rintro i x σ H2 hx ⟨ps,v,rfl,s2,hL,hM⟩
   have hi:i<rows.length:=by
    have:=(List.getElem?_eq_some_iff.mp hx).1
    omega
   obtain⟨r,q,er,eq,hq,hok⟩:=zic hR hi
   rw[List.getElem?_map,eq] at hx
   cases hx
   have hd:=zqe (K:=K) _ _ hM
   have tk:rows.take (i+1)=rows.take i++[r]:=by rw[List.take_add_one,er];rfl
   refine⟨_,rfl,_,rfl,l,_,dRow r,_,rfl,.inl (SqL.of hL),hd.1,.tup (SqT.of (s2 _ _ hq)) (zKb r),zCl hok.2,hd.2,_,rfl,?_⟩
   rw[zqh]
   have hml:(unl (rows.take i)).length<=900:=by
    have q:=zwh (rows.take i) []
    have q2:(rows.take i).length<=rows.length:=by rw[List.length_take];omega
    rw[List.length_nil] at q
    unfold unl
    omega
   by_cases hin:r∈unl (rows.take i)
   ·rw[decide_eq_true hin]
    refine iteF ?_
    refine⟨ps,_,rfl,s2,hL,?_⟩
    rw[tk,zvc,if_pos hin]
    exact hM
   ·rw[decide_eq_false hin]
    refine iteT ?_
    refine⟨_,rfl,.inl ⟨rfl,_,SqL.of hL⟩,_,rfl,l,_,_,rfl,rfl,hL,?_,?_⟩
    ·rw[List.length_map,hM.1]
     exact zv (by omega)
    ·have ts:zha H2 (upd H2 l (.lst (ps.map V.ref++[.ref q]))):=zha.zeo (fun _ _ e=>e) hL
     refine⟨ps++[q],_,rfl,s2.zao hl,?_,?_⟩
     ·rw[zc,List.map_append]
      rfl
     ·rw[tk,zvc,if_neg hin]
      exact(hM.zro ts).snoc (ts _ _ (s2 _ _ hq)) hok
  ·rintro σ H2 ⟨ps,v,rfl,s2,hL,hM⟩
   rw[hql,List.take_of_length_le (Nat.le_refl _)] at hM
   refine⟨_,rfl,l,_,rfl,.inl ⟨SqL.of hL,fun p hp=>?_⟩⟩
   have s3:Same H2 (upd H2 p (.tup (ps.map V.ref))):=(Same.refl H2).zao hp
   exact k p ps _ (s2.trans s3) zc (hM.zro s3.tups)
end
def FoAt (H:Hp)(p:Addr)(es:List (Str×Str)):Prop:=∃vs,H p=some (.tup vs)/\zOa H vs (es.map some)
theorem FoAt.same {H H':Hp}{p:Addr}{es:List (Str×Str)}(h:FoAt H p es)(s:Same H H'):FoAt H' p es:=by
 obtain⟨vs,h1,h2⟩:=h
 exact⟨vs,s _ _ h1,h2.zro s.tups⟩
theorem FoAt.get {H:Hp}{vs:List V}{es:List (Str×Str)}{i:Nat}{e:Str×Str}(h:zOa H vs (es.map some))(he:es[i]?=some e):∃q,vs[i]?=some (.ref q)/\H q=some (.tup [.str e.1,.str e.2]):=by
 have hi:i<vs.length:=by
  rw[h.len,List.length_map]
  exact(List.getElem?_eq_some_iff.mp he).1
 obtain⟨e',g1,g2⟩:=h.get (i:=i) (v:=vs[i]) (by simp[hi])
 rw[List.getElem?_map,he] at g1
 cases g1
 revert g2
 cases hv:vs[i] with
 |ref q=>exact fun g2=>⟨q,by simp[hi,hv],g2⟩
 |_=>exact fun g2=>(show False from g2).elim
def spIg:Sp:=fun vs H Q _=>∃(q:Addr)(e:Str×Str),vs=[.ref q]/\H q=some (.tup [.str e.1,.str e.2])/\Q (.bl (decide (e.1=sGap))) H
def spPt:Sp:=fun vs H Q _=>∃(q:Addr)(e:Str×Str)(z:Str),vs=[.ref q,.str z]/\H q=some (.tup [.str e.1,.str e.2])/\Wd z/\∀H',Same H H'->Q (.bl (takes e z)) H'
def spFm:Sp:=fun vs H Q _=>∃(p a:Addr)(es:List (Str×Str))(r:List Str),vs=[.ref p,.ref a]/\FoAt H p es/\es.length<=64/\H a=some (.tup (r.map V.str))/\zxa r∧
 (zNb es r=true->∀H',Same H H'->Q .non H')/\(zNb es r=false->∀(i:Int)(H':Hp),Same H H'->Q (.int i) H')
def spWr:Sp:=fun vs H Q _=>∃(p a:Addr)(es:List (Str×Str))(r:List Str),vs=[.ref p,.ref a]/\FoAt H p es/\es.length<=64/\H a=some (.tup (r.map V.str))/\zxa r/\∀H',Same H H'->Q (.bl (zNb es r)) H'
section
variable {P:Program}{w:World}{K:W.Frag}{mg:zT3}{base:Heap}
theorem scIg:FnScope ["part"] ["part"] (zb sIg):=.of (by decide +kernel)
theorem ok_ig (F:Fun K "is_gap" "is_gap" sIg f fd):FnOk P w K mg base CX0 1 f fd ["part"] spIg:=by
 refine F.ok scIg (fun vs H Q E h=>?_) (fun cdv A outer s H vs Q E hr h=>?_)
 ·obtain⟨q,e,rfl,_⟩:=h
  rfl
 ·obtain⟨q,e,rfl,hq,k⟩:=h
  refine⟨_,zf (zp (zQ zV (zU zfa (pv 0) zg (fun _ _=>rfl)) zx (zu _))),?_⟩
  refine⟨_,rfl,q,_,_,_,rfl,rfl,SqT.of hq,rfl,rfl,?_⟩
  rw[dec_str]
  exact k
theorem scPt:FnScope ["part","word"] ["part","word"] (zb sPt):=.of (by decide +kernel)
theorem zsn (F:Fun K "part_takes" "part_takes" sPt f fd)(FG:Fun K "is_gap" "is_gap" sIg fG fdG)(bG:Binds K fdG ["part"] [])(gG:mg "is_gap"=some (.ref fG))
  (FS:Fun K "sort_of" "sort_of" sSo fS fdS)(bS:Binds K fdS ["text"] [])(gS:mg "sort_of"=some (.ref fS))(GS:FnOk P w K mg base CX0 5 fS fdS ["text"] spSo):FnOk P w K mg base CX0 6 f fd ["part","word"] spPt:=by
 have GG:FnOk P w K mg base CX0 1 fG fdG ["part"] spIg:=ok_ig FG
 refine F.ok scPt (fun vs H Q E h=>?_) (fun cdv A outer s H vs Q E hr h=>?_)
 ·obtain⟨q,e,z,rfl,_⟩:=h
  rfl
 ·obtain⟨q,e,z,rfl,hq,hz,k⟩:=h
  have hr1:Room 1 _:=hr.mono (by decide)
  refine⟨_,ze (zM (zba (zi GG hr1 rfl gG FG.kp bG .nil zw (za (pv 0) zd))) (zf (zp (zQ zV (zi GS hr rfl gS FS.kp bS .nil zw (za (pv 1) zd)) (zU zfa (pv 0) zg (fun _ _=>rfl)) (zu _)))) zt)
   (zf (zp (zQ zV (pv 1) (zU zfa (pv 0) zg (fun _ _=>rfl)) (zu _)))),?_⟩
  refine⟨_,rfl,q,e,rfl,hq,_,rfl,?_⟩
  unfold takes at k
  by_cases he:e.1=sGap
  ·rw[decide_eq_true he]
   rw[if_pos he] at k
   refine iteT ⟨_,rfl,z,rfl,hz.tx.1.mono (by decide),fun H1 s1=>?_⟩
   rw[hz.sort]
   refine⟨_,rfl,q,_,_,_,rfl,rfl,SqT.of (s1 _ _ hq),rfl,rfl,?_⟩
   have e1:decide (vS (some (lawS z))=V.str e.2)=decide ((lawS z).str=e.2):=dec_str _ _
   rw[e1]
   exact k H1 s1
  ·rw[decide_eq_false he]
   rw[if_neg he] at k
   refine iteF ⟨_,rfl,_,rfl,q,_,_,_,rfl,rfl,SqT.of hq,rfl,rfl,?_⟩
   rw[dec_str]
   exact k H (Same.refl H)
theorem scFm:FnScope ["parts","words","shared","at"] ["parts","words"] (zb sFm):=.of (by decide +kernel)
theorem ok_fm (F:Fun K "first_misfit" "first_misfit" sFm f fd)(T:Txt mg)(hmin:mg "min"=none)(FP:Fun K "part_takes" "part_takes" sPt fP fdP)(bP:Binds K fdP ["part","word"] [])(gP:mg "part_takes"=some (.ref fP))(GP:FnOk P w K mg base CX0 6 fP fdP ["part","word"] spPt):
  FnOk P w K mg base CX0 7 f fd ["parts","words"] spFm:=by
 refine F.ok scFm (fun vs H Q E h=>?_) (fun cdv A outer s H vs Q E hr h=>?_)
 ·obtain⟨p,a,es,r,rfl,_⟩:=h
  rfl
 ·obtain⟨p,a,es,r,rfl,⟨vs,hp,hP⟩,h64,ha,hR,k1,k2⟩:=h
  have hvl:vs.length=es.length:=by rw[hP.len,List.length_map]
  have h8:=hR.2.1
  refine⟨_,ze (zeb (zH (i:=2) scFm.nd rfl (Or.inl rfl) (zq (zWd rfl) (by rfl) hmin PyProof.Rows.boot_min (za (zq zo (by rfl) T.len PySem.boot_len (za (pv 0) zd)) (za (zq zo (by rfl) T.len PySem.boot_len (za (pv 1) zd)) zd)))))
   (ze (zta PassesOwn.never rfl (zZ rfl T.range (za (pv 2) zd)) (zC (i:=3) scFm.nd rfl (Or.inl rfl))
    (zf (zM (zEb (zba (zi GP hr rfl gP FP.kp bP .nil zw (za (zU zfa (pv 0) (pv 3) (fun _ _=>rfl)) (za (zU zfa (pv 1) (pv 3) (fun _ _=>rfl)) zd))))) (zf (zp (pv 3))) zt)))
   (zf (zp (ztb (zr zV (zq zo (by rfl) T.len PySem.boot_len (za (pv 0) zd)) (zq zo (by rfl) T.len PySem.boot_len (za (pv 1) zd)) (zu _)) zia (pv 2))))),?_⟩
  refine⟨fun σ' H'=>σ'=[some (.ref p),some (.ref a),some (.int ((min es.length r.length:Nat):Int)),none]/\H=H',?_,?_⟩
  ·refine⟨_,rfl,p,_,rfl,.inr (SqT.of hp),_,rfl,a,_,rfl,.inr (SqT.of ha),_,_,rfl,?_⟩
   refine⟨?_,rfl⟩
   rw[hvl,List.length_map]
   have e:(if ((r.length:Nat):Int)<((es.length:Nat):Int) then((r.length:Nat):Int) else((es.length:Nat):Int))=((min es.length r.length:Nat):Int):=by
    split<;>omega
   rw[e]
   rfl
  rintro σ' H' ⟨rfl,rfl⟩
  refine⟨_,rfl,_,rfl,by omega,by omega,?_⟩
  rw[Int.toNat_natCast]
  refine zma (n:=min es.length r.length) (fun i σ H2=>(∃v,σ=[some (.ref p),some (.ref a),some (.int ((min es.length r.length:Nat):Int)),v])/\Same H H2/\∀(j:Nat)(e:Str×Str)(z:Str),j<i->es[j]?=some e->r[j]?=some z->takes e z=true) ⟨⟨none,rfl⟩,Same.refl H,fun j e z hj=>by omega⟩ ?_ ?_
  ·rintro i σ H2 hi ⟨⟨v,rfl⟩,s2,hall⟩
   have i0:0+(i:Int)=(i:Int):=Int.zero_add _
   rw[i0]
   obtain⟨e,he⟩:∃e,es[i]?=some e:=⟨es[i]'(by omega),by simp⟩
   obtain⟨z,hz⟩:∃z,r[i]?=some z:=⟨r[i]'(by omega),by simp⟩
   obtain⟨q,hq1,hq2⟩:=FoAt.get hP he
   refine⟨_,rfl,_,rfl,p,_,_,_,rfl,rfl,SqT.of (s2 _ _ hp),zY hq1,_,rfl,_,rfl,a,_,_,_,rfl,rfl,SqT.of (s2 _ _ ha),zY (by rw[List.getElem?_map,hz];rfl),q,e,z,rfl,s2 _ _ hq2,hR.2.2 z (List.mem_of_getElem? hz),fun H3 s3=>?_⟩
   refine⟨_,rfl,?_⟩
   cases ht:takes e z with
   |false=>
    refine iteT ⟨_,rfl,k2 ?_ _ H3 (s2.trans s3)⟩
    cases hf:zNb es r with
    |false=>rfl
    |true=>
     have:=((zzb es r).mp hf).2 i e z he hz
     rw[ht] at this
     cases this
   |true=>
    refine iteF ⟨⟨_,rfl⟩,s2.trans s3,fun j e' z' hj he' hz'=>?_⟩
    by_cases h:j<i
    ·exact hall j e' z' h he' hz'
    ·have:j=i:=by omega
     subst this
     rw[he] at he'
     rw[hz] at hz'
     cases he'
     cases hz'
     exact ht
  ·rintro σ H2 ⟨⟨v,rfl⟩,s2,hall⟩
   refine⟨_,rfl,p,_,rfl,.inr (SqT.of (s2 _ _ hp)),_,rfl,a,_,rfl,.inr (SqT.of (s2 _ _ ha)),rfl,_,rfl,?_⟩
   rw[zbc,hvl,List.length_map]
   by_cases hl:es.length=r.length
   ·rw[decide_eq_true (by rw[hl])]
    refine iteT (k1 ((zzb es r).mpr ⟨hl,fun j e z he hz=>hall j e z ?_ he hz⟩) H2 s2)
    have:=(List.getElem?_eq_some_iff.mp he).1
    omega
   ·rw[decide_eq_false (by omega)]
    refine iteF ⟨_,rfl,k2 ?_ _ H2 s2⟩
    cases hf:zNb es r with
    |false=>rfl
    |true=>exact absurd ((zzb es r).mp hf).1 hl
theorem scWr:FnScope ["form","row"] ["form","row"] (zb sWr):=.of (by decide +kernel)
theorem ok_wr (F:Fun K "writes" "writes" sWr f fd)(FM:Fun K "first_misfit" "first_misfit" sFm fM fdM)(bM:Binds K fdM ["parts","words"] [])(gM:mg "first_misfit"=some (.ref fM))(GM:FnOk P w K mg base CX0 7 fM fdM ["parts","words"] spFm):
  FnOk P w K mg base CX0 8 f fd ["form","row"] spWr:=by
 refine F.ok scWr (fun vs H Q E h=>?_) (fun cdv A outer s H vs Q E hr h=>?_)
 ·obtain⟨p,a,es,r,rfl,_⟩:=h
  rfl
 ·obtain⟨p,a,es,r,rfl,hp,h64,ha,hR,k⟩:=h
  refine⟨_,zf (zp (zPi (zQd (zi GM hr rfl gM FM.kp bM .nil zw (za (pv 0) (za (pv 1) zd)))))),?_⟩
  refine⟨_,rfl,_,rfl,p,a,es,r,rfl,hp,h64,ha,hR,fun hf H' s'=>?_,fun hf i H' s'=>?_⟩
  ·have q:=k H' s'
   rw[hf] at q
   exact q
  ·have q:=k H' s'
   rw[hf] at q
   exact q
end
def GAt (H:Hp):List V->List (List Int)->Prop
 | [],[]=>True
 |v::vs,g::gs=>(∃q,v=V.ref q/\H q=some (.tup (g.map V.int)))/\GAt H vs gs
 |_,_=>False
theorem GAt.zro {H H':Hp}(s:zha H H'):∀{vs:List V}{gs:zT1},GAt H vs gs->GAt H' vs gs
 | [],[],_=>True.intro
 |_::_,_::_,⟨⟨q,h1,h2⟩,h3⟩=>⟨⟨q,h1,s _ _ h2⟩,GAt.zro s h3⟩
 | [],_::_,h=>h.elim
 |_::_,[],h=>h.elim
theorem GAt.len {H:Hp}:∀{vs:List V}{gs:zT1},GAt H vs gs->vs.length=gs.length
 | [],[],_=>rfl
 |_::_,_::_,⟨_,h2⟩=>by rw[List.length_cons,List.length_cons,GAt.len h2]
 | [],_::_,h=>h.elim
 |_::_,[],h=>h.elim
theorem GAt.app {H:Hp}:∀{vs us:List V}{gs hs:zT1},GAt H vs gs->GAt H us hs->GAt H (vs++us) (gs++hs)
 | [],_,[],_,_,h=>h
 |_::_,_,_::_,_,⟨h1,h2⟩,h=>⟨h1,GAt.app h2 h⟩
 | [],_,_::_,_,h,_=>h.elim
 |_::_,_,[],_,h,_=>h.elim
theorem GAt.get {H:Hp}:∀{vs:List V}{gs:zT1}{i:Nat}{v:V},GAt H vs gs->vs[i]?=some v->∃g q,gs[i]?=some g/\v=.ref q/\H q=some (.tup (g.map V.int))
 | [],[],i,v,_,h=>by simp at h
 |x::vs,g::gs,0,v,⟨⟨q,h1,h2⟩,_⟩,h=>by
  cases h
  exact⟨g,q,rfl,h1,h2⟩
 |x::vs,g::gs,i+1,v,⟨_,h2⟩,h=>by
  obtain⟨g',q,e1,e2⟩:=GAt.get (i:=i) h2 (by simpa using h)
  exact⟨g',q,by simpa using e1,e2⟩
 | [],_::_,_,_,h,_=>h.elim
 |_::_,[],_,_,h,_=>h.elim
theorem zwc (t:Int):∀fs:List Int,inV (.int t) (fs.map V.int)=decide (t∈fs)
 | []=>rfl
 |a::fs=>by
  show(eqV (.int a) (.int t)||inV (.int t) (fs.map V.int))=_
  rw[zwc t fs]
  show((a==t)||decide (t∈fs))=decide (t∈a::fs)
  by_cases h:a=t
  ·subst h
   simp
  ·have:(a==t)=false:=by simpa using h
   rw[this,Bool.false_or]
   exact decide_eq_decide.mpr ⟨List.mem_cons_of_mem _,fun z=>(List.mem_cons.mp z).elim (fun z=>absurd z.symm h) id⟩
theorem zOc (ns:List Int):(ns.map V.int).all zec=true:=by
 rw[List.all_map]
 exact List.all_eq_true.mpr fun _ _=>rfl
def spFw:Sp:=fun vs H Q _=>∃(a:Addr)(qs:List Addr)(rows:List (List Str))(most:Int),vs=[.ref a,.int most]/\H a=some (.lst (qs.map V.ref))/\zT H qs rows/\rows.length<=64/\1<=rows.length/\(∀r∈rows,zxa r)/\∀(v:V)(H':Hp),Same H H'->FmAt H' v (zBb most rows)->Q v H'
def spRi:Sp:=fun vs H Q _=>∃(q a:Addr)(g:List Int)(qs:List Addr)(ks:List (List Str)),vs=[.ref q,.ref a]/\H q=some (.tup (g.map V.int))/\H a=some (.tup (qs.map V.ref))/\zT H qs ks/\g.length<=64/\(∀x∈g,0<=x/\x<(ks.length:Int))∧
 ∀(l:Addr)(qs':List Addr)(H':Hp),Same H H'->H' l=some (.lst (qs'.map V.ref))->zT H' qs' (rIn ks g)->Q (.ref l) H'
def spWt:Sp:=fun vs H Q _=>∃(p q a:Addr)(es:List (Str×Str))(g:List Int)(qs:List Addr)(ks:List (List Str)),vs=[.ref p,.ref q,.ref a]/\FoAt H p es/\es.length<=64/\H q=some (.tup (g.map V.int))/\H a=some (.tup (qs.map V.ref))/\zT H qs ks/\ks.length<=64/\(∀r∈ks,zxa r)∧
 ∀H',Same H H'->Q (.bl (zsa es g ks)) H'
def spGo (d:Nat):Sp:=fun vs H Q _=>∃(q a:Addr)(g:List Int)(qs:List Addr)(ks:List (List Str))(most:Int),vs=[.ref q,.ref a,.int most]/\H q=some (.tup (g.map V.int))/\H a=some (.tup (qs.map V.ref))/\zT H qs ks/\ks.length<=8/\(∀r∈ks,zxa r)/\GOk ks.length g/\(ks.length:Int)-zga g<=(d:Int)∧
 ∀(l:Addr)(vs:List V)(H':Hp),Same H H'->H l=none->H' l=some (.lst vs)->GAt H' vs (gOn ks most d g)->Q (.ref l) H'
section
variable {P:Program}{w:World}{K:W.Frag}{mg:zT3}{base:Heap}
theorem scFw:FnScope ["rows","most","form"] ["rows","most"] (zb sFw):=.of (by decide +kernel)
def zik:Scope:=⟨.function,[(".0",.local),("part",.local),("is_gap",.globalImplicit)],false,false,[]⟩
theorem zLl:BlkScope (zb sFw) ["rows","most","form"] ["part"] [] [] zik:=.of (by decide +kernel)
theorem zrf {rows:List (List Str)}{es:List (Str×Str)}(h:zRa rows=some es):es.length=(rows.headD []).length:=by
 unfold zRa at h
 split at h
 ·split at h
  ·cases h
  ·rename_i hn
   cases h
   have e:=zLb hn
   have e2:=congrArg List.length e
   rw[List.length_map] at e2
   rw[e2]
   unfold zCa
   rw[List.length_map,List.length_range]
 ·cases h
theorem zxh {rows:List (List Str)}{es:List (Str×Str)}(h1:1<=rows.length)(hok:∀r∈rows,zxa r)(h:zRa rows=some es):es.length<=8:=by
 rw[zrf h]
 cases rows with
 |nil=>simp at h1
 |cons r rows=>exact(hok r List.mem_cons_self).2.1
theorem zSf (es:List (Str×Str))(i:Nat):zsb (es.take i)<=i:=by
 unfold zsb
 refine Nat.le_trans (List.length_filter_le _ _) ?_
 rw[List.length_take]
 exact Nat.min_le_left _ _
theorem ztn (F:Fun K "form_within" "form_within" sFw f fd)(T:Txt mg)
  (FL:Fun K "least_form" "least_form" sLf fL fdL)(bL:Binds K fdL ["rows"] [])(gL:mg "least_form"=some (.ref fL))(GL:FnOk P w K mg base CX0 7 fL fdL ["rows"] zsh)
  (FG:Fun K "is_gap" "is_gap" sIg fG fdG)(bG:Binds K fdG ["part"] [])(gG:mg "is_gap"=some (.ref fG)):FnOk P w K mg base CX0 8 f fd ["rows","most"] spFw:=by
 have GG:FnOk P w K mg base CX0 1 fG fdG ["part"] spIg:=ok_ig FG
 refine F.ok scFw (fun vs H Q E h=>?_) (fun cdv A outer s H vs Q E hr h=>?_)
 ·obtain⟨a,qs,rows,most,rfl,_⟩:=h
  rfl
 ·obtain⟨a,qs,rows,most,rfl,ha,hR,h64,h1,hok,k⟩:=h
  have hr1:Room 1 _:=hr.mono (by decide)
  refine⟨_,ze (zH (i:=2) scFw.nd rfl (Or.inl rfl) (zi GL hr rfl gL FL.kp bL .nil zw (za (pv 0) zd)))
   (ze (zM (PW.pt (zPb (zyc (zQd (pv 2))) (zDb (zr zld (zq zo (by rfl) T.len PySem.boot_len (za (zWa zLl rfl rfl rfl (zkc (pv 2)) (fun fp C s1 H1=>zC (i:=0) zLl.nd rfl (Or.inl rfl))
     (fun fp C s1 H1=>zIa (zba (zi GG hr1 rfl gG FG.kp bG .nil zw (za (pv 0) zd)))) (fun fp C s1 H1=>pv 0)) zd)) (pv 1) (zu _))))) (zf (zp zia)) zt)
   (zf (zp (pv 2)))),?_⟩
  refine⟨_,rfl,a,qs,rows,rfl,ha,hR,h64,h1,hok,fun v H1 s1 hf=>?_⟩
  cases hm:zRa rows with
  |none=>
   rw[hm] at hf
   cases(show v=.non from hf)
   refine⟨_,rfl,true,rfl,iteT (iteT (k .non H1 s1 ?_))⟩
   unfold zBb
   rw[hm]
   rfl
  |some es=>
   rw[hm] at hf
   obtain⟨p,vs,rfl,hp,hP⟩:=hf
   have hvl:vs.length=es.length:=by rw[hP.len,List.length_map]
   have h8:=zxh h1 hok hm
   have ek:zBb most rows=if most<(zsb es:Int) then none else some es:=by
    unfold zBb
    rw[hm]
   rw[ek] at k
   refine⟨_,rfl,false,rfl,iteF ?_⟩
   refine⟨_,rfl,p,rfl,⟨_,SqT.of hp⟩,fun D hD=>?_⟩
   refine zee (K:=K) (a:=p) (xs:=vs) (fun i ys H2=>ys.length=zsb (es.take i)/\Same H1 H2/\H2 D=some (.lst ys)) (Nat.le_of_lt (zv (by omega))) ⟨rfl,(Same.refl H1).zao hD,zc⟩
    (fun i ys H2 h=>by rw[h.1];exact zSf es i) (fun i ys H2 h=>SqT.of (h.2.1 _ _ hp)) ?_ ?_
   ·rintro i ys H2 x N M hx ⟨hy,s2,hD2⟩ hN hM
    have hi:i<es.length:=by
     have:=(List.getElem?_eq_some_iff.mp hx).1
     omega
    obtain⟨e,he⟩:∃e,es[i]?=some e:=⟨es[i],by simp[hi]⟩
    obtain⟨q,hq1,hq2⟩:=FoAt.get hP he
    rw[hq1] at hx
    cases hx
    have tk:zsb (es.take (i+1))=zsb (es.take i)+(if e.1=sGap then 1 else 0):=by
     unfold zsb
     rw[List.take_add_one,he,List.filter_append,List.length_append]
     by_cases hg:e.1=sGap
     ·simp[hg]
     ·simp[hg]
    refine⟨_,rfl,q,e,rfl,s2 _ _ hq2,_,rfl,?_⟩
    by_cases hg:e.1=sGap
    ·rw[decide_eq_true hg]
     rw[if_pos hg] at tk
     refine iteT ⟨_,rfl,hN _ H2 hD2 ⟨?_,s2.zao hD,zc⟩⟩
     rw[List.length_append,List.length_singleton,hy,tk]
    ·rw[decide_eq_false hg]
     rw[if_neg hg] at tk
     exact iteF (hM H2 ⟨by rw[hy,tk,Nat.add_zero],s2,hD2⟩)
   ·rintro ys H2 ⟨hy,s2,hD2⟩
    rw[hvl,List.take_of_length_le (Nat.le_refl _)] at hy
    refine⟨D,_,rfl,.inl (SqL.of hD2),_,rfl,_,_,rfl,rfl,_,rfl,?_⟩
    rw[hy]
    by_cases hg:most<(zsb es:Int)
    ·rw[decide_eq_true (show((zsb es:Nat):Int) > most from hg)]
     rw[if_pos hg] at k
     exact iteT (k .non H2 (s1.trans s2) rfl)
    ·rw[decide_eq_false (show ¬((zsb es:Nat):Int) > most from hg)]
     rw[if_neg hg] at k
     exact iteF ⟨_,rfl,k (.ref p) H2 (s1.trans s2) ⟨p,vs,rfl,s2 _ _ hp,hP.zro s2.tups⟩⟩
theorem scRi:FnScope ["group","known"] ["group","known"] (zb sRi):=.of (by decide +kernel)
def zjk:Scope:=⟨.function,[(".0",.local),("number",.local),("known",.free)],false,false,[]⟩
theorem zMl:BlkScope (zb sRi) ["group","known"] ["number"] ["known"] [1] zjk:=.of (by decide +kernel)
theorem zkk (F:Fun K "rows_in" "rows_in" sRi f fd):FnOk P w K mg base CX0 1 f fd ["group","known"] spRi:=by
 refine F.ok scRi (fun vs H Q E h=>?_) (fun cdv A outer s H vs Q E hr h=>?_)
 ·obtain⟨q,a,g,qs,ks,rfl,_⟩:=h
  rfl
 ·obtain⟨q,a,g,qs,ks,rfl,hq,ha,hR,h64,hg,k⟩:=h
  refine⟨_,zf (zp (zWa zMl rfl rfl rfl (zkc (pv 0)) (fun fp C s1 H1=>zC (i:=0) zMl.nd rfl (Or.inl rfl)) (fun fp C s1 H1=>zla) (fun fp C s1 H1=>zU (r:=rIxT K) zfa (pv 1) (pv 0) (fun _ _=>rfl)))),?_⟩
  refine⟨_,rfl,q,rfl,⟨_,SqT.of hq⟩,fun D hD=>?_⟩
  refine zee (K:=K) (a:=q) (xs:=g.map V.int) (fun i ys H2=>∃ps:List Addr,ys=ps.map V.ref/\Same H H2/\H2 D=some (.lst (ps.map V.ref))/\zT H2 ps (rIn ks (g.take i))/\ys.length<=i) (Nat.le_of_lt (zv (by rw[List.length_map];omega)))
   ⟨[],rfl,(Same.refl H).zao hD,zc,by rw[List.take_zero];exact zT.nil,Nat.le_refl _⟩ (fun i ys H2 ⟨_,_,_,_,_,h⟩=>h) (fun i ys H2 ⟨_,_,h,_⟩=>SqT.of (h _ _ hq)) ?_ ?_
  ·rintro i ys H2 x N M hx ⟨ps,rfl,s2,hD2,hR2,hl2⟩ hN hM
   rw[List.getElem?_map] at hx
   cases et:g[i]? with
   |none=>rw[et] at hx;cases hx
   |some t=>
    rw[et] at hx
    cases hx
    have ht:=hg t (List.mem_of_getElem? et)
    obtain⟨r,q',er,eq,hq',hok⟩:=zic hR (i:=t.toNat) (by omega)
    refine⟨_,rfl,_,rfl,a,_,_,_,rfl,rfl,SqT.of (s2 _ _ ha),zsg ht.1 (by rw[List.getElem?_map,eq];rfl),?_⟩
    have ts:zha H2 (upd H2 D (.lst (ps.map V.ref++[.ref q']))):=zha.zeo (fun _ _ e=>e) hD2
    refine hN _ H2 hD2 ⟨ps++[q'],by rw[List.map_append];rfl,s2.zao hD,by rw[zc,List.map_append];rfl,?_,by rw[List.length_append,List.length_singleton];omega⟩
    have e1:rIn ks (g.take (i+1))=rIn ks (g.take i)++[r]:=by
     unfold rIn
     rw[List.take_add_one,et,List.map_append]
     show _++[ks.getD t.toNat []]=_
     rw[show ks.getD t.toNat []=r by simp[List.getD,er]]
    rw[e1]
    exact(hR2.zro ts).snoc (ts _ _ (s2 _ _ hq')) hok
  ·rintro ys H2 ⟨ps,rfl,s2,hD2,hR2,hl2⟩
   rw[List.length_map,List.take_of_length_le (Nat.le_refl _)] at hR2
   exact k D ps H2 s2 hD2 hR2
theorem scWt:FnScope ["form","group","known"] ["form","group","known"] (zb sWt):=.of (by decide +kernel)
def zlk:Scope:=⟨.function,[(".0",.local),("number",.local),("row",.local),("writes",.globalImplicit),("form",.free),("group",.free)],false,false,[]⟩
theorem zmk:BlkScope (zb sWt) ["form","group","known"] ["number","row"] ["form","group"] [0,1] zlk:=.of (by decide +kernel)
theorem zun (F:Fun K "writes_others" "writes_others" sWt f fd)(hany:mg "any"=none)(henum:mg "enumerate"=none)
  (FW:Fun K "writes" "writes" sWr fW fdW)(bW:Binds K fdW ["form","row"] [])(gW:mg "writes"=some (.ref fW))(GW:FnOk P w K mg base CX0 8 fW fdW ["form","row"] spWr):FnOk P w K mg base CX0 9 f fd ["form","group","known"] spWt:=by
 refine F.ok scWt (fun vs H Q E h=>?_) (fun cdv A outer s H vs Q E hr h=>?_)
 ·obtain⟨p,q,a,es,g,qs,ks,rfl,_⟩:=h
  rfl
 ·obtain⟨p,q,a,es,g,qs,ks,rfl,hp,h64,hq,ha,hR,hk64,hok,k⟩:=h
  have hql:(qs.map V.ref).length=ks.length:=by rw[List.length_map];exact hR.1
  refine⟨_,zf (zp (zq (zAg rfl) (by rfl) hany boot_any (za (zWa (g:=gTup K 2 (zkd (zRb 0) (zkd (zRb 1) gNil))) zmk rfl rfl rfl (zEg rfl henum (za (pv 2) zd)) (fun fp C s1 H1=>zUc (n:=2) rfl (zpa (zC (i:=0) zmk.nd rfl (Or.inl rfl)) (zpa (zC (i:=1) zmk.nd rfl (Or.inl rfl)) zdc)))
   (fun fp C s1 H1=>zIa (zr (r:=L2.rIn K true) zmc (pv 0) (pv 3) (by with_unfolding_all rfl))) (fun fp C s1 H1=>zi GW hr rfl gW FW.kp bW .nil zw (za (pv 2) (za (pv 1) zd)))) zd))),?_⟩
  refine⟨_,rfl,a,rfl,⟨_,SqT.of ha⟩,fun D hD=>?_⟩
  refine zSh (K:=K) (a:=a) (xs:=qs.map V.ref) (fun i ys H2=>ys=(((List.range i).filter fun(j:Nat)=>!decide ((j:Int)∈g)).map fun j=>zNb es (ks.getD j [])).map V.bl/\Same H H2/\H2 D=some (.lst ys)) (Nat.le_of_lt (zv (by omega))) ⟨rfl,(Same.refl H).zao hD,zc⟩
   (fun i ys H2 h=>?_) (fun i ys H2 h=>SqT.of (h.2.1 _ _ ha)) ?_ ?_
  ·rw[h.1,List.length_map,List.length_map]
   refine Nat.le_trans (List.length_filter_le _ _) ?_
   rw[List.length_range]
   exact Nat.le_refl _
  ·rintro i ys H2 x pp N M hx ⟨rfl,s2,hD2⟩ hpp hN hM
   have hi:i<ks.length:=by
    have:=(List.getElem?_eq_some_iff.mp hx).1
    omega
   obtain⟨r,q',er,eq,hq',_⟩:=zic hR hi
   rw[List.getElem?_map,eq] at hx
   cases hx
   have s3:=(Same.refl H2).zao (o:=.tup [.int (i:Nat),.ref q']) hpp
   generalize hH3:upd H2 pp (.tup [.int (i:Nat),.ref q'])=H3 at s3
   have t3:=s2.trans s3
   have egr:ks.getD i []=r:=by simp[List.getD,er]
   refine⟨_,rfl,_,rfl,q,_,rfl,.inr (SqT.of (t3 _ _ hq)),rfl,zOc g,!inV _ _,rfl,?_⟩
   rw[zwc]
   by_cases hin:(i:Int)∈g
   ·rw[decide_eq_true hin]
    refine iteF (hM H3 ⟨?_,t3,s3 _ _ hD2⟩)
    rw[List.range_succ,List.filter_append]
    simp[hin]
   ·rw[decide_eq_false hin]
    refine iteT ⟨_,rfl,_,rfl,p,q',es,r,rfl,hp.same t3,h64,t3 _ _ hq',hok r (List.mem_of_getElem? er),fun H4 s4=>?_⟩
    refine hN _ H4 ((s3.trans s4) _ _ hD2) ⟨?_,(t3.trans s4).zao hD,zc⟩
    rw[List.range_succ,List.filter_append,List.map_append,List.map_append]
    simp[hin,er]
  ·rintro ys H2 ⟨rfl,s2,hD2⟩
   rw[hql] at hD2
   refine⟨D,_,rfl,SqL.of hD2,?_⟩
   rw[List.any_map]
   exact k H2 s2
end
theorem znk {g:List Int}(h:g≠[]):atI (g.map V.int) (-1)=some (.int (zga g)):=by
 obtain⟨l,x,rfl⟩:∃l x,g=l++[x]:=⟨g.dropLast,g.getLast h,(List.dropLast_concat_getLast h).symm⟩
 rw[zZa,List.map_append]
 exact zNh _ _
theorem GOk.len {n:Nat}{g:List Int}(h:GOk n g):g.length<=n:=by
 have q:∀(m:Nat)(l:List Int),l.Pairwise (· < ·)->(∀x∈l,0<=x/\x<(m:Int))->l.length<=m:=by
  intro m
  induction m with
  |zero=>
   intro l _ hl
   cases l with
   |nil=>exact Nat.le_refl _
   |cons a l=>
    have:=hl a List.mem_cons_self
    omega
  |succ m ih=>
   intro l hi hl
   by_cases hne:l=[]
   ·subst hne
    exact Nat.zero_le _
   ·obtain⟨l',x,rfl⟩:∃l' x,l=l'++[x]:=⟨l.dropLast,l.getLast hne,(List.dropLast_concat_getLast hne).symm⟩
    have hx:=hl x (by simp)
    have:=ih l' (List.pairwise_append.mp hi).1 fun y hy=>by
     have h1:=(List.pairwise_append.mp hi).2.2 y hy x (by simp)
     have h2:=hl y (List.mem_append_left _ hy)
     omega
    rw[List.length_append,List.length_singleton]
    omega
 exact q n g h.inc h.ran
theorem zyh {ks:List (List Str)}{g:List Int}(hok:∀r∈ks,zxa r)(hg:∀x∈g,0<=x/\x<(ks.length:Int)):∀r∈rIn ks g,zxa r:=fun r hr=>by
 unfold rIn at hr
 obtain⟨x,hx,rfl⟩:=List.mem_map.mp hr
 have hx':x.toNat<ks.length:=by have:=hg x hx;omega
 have e:ks.getD x.toNat []=ks[x.toNat]:=by simp[List.getD,hx']
 rw[e]
 exact hok _ (List.getElem_mem hx')
theorem zwi {rows:List (List Str)}{most:Int}{es:List (Str×Str)}(h1:1<=rows.length)(hok:∀r∈rows,zxa r)(h:zBb most rows=some es):es.length<=8:=by
 unfold zBb at h
 cases hm:zRa rows with
 |none=>rw[hm] at h;cases h
 |some es'=>
  rw[hm] at h
  have h':(if most<(zsb es':Int) then none else some es')=some es:=h
  split at h'
  ·cases h'
  ·cases h'
   exact zxh h1 hok hm
section
variable {P:Program}{w:World}{K:W.Frag}{mg:zT3}{base:Heap}
theorem scGo:FnScope ["group","known","most","form","found","number"] ["group","known","most"] (zb sGo):=.of (by decide +kernel)
theorem zNl (F:Fun K "groups_on" "groups_on" sGo f fd)(b:Binds K fd ["group","known","most"] [])(g:mg "groups_on"=some (.ref f))(T:Txt mg)
  (FF:Fun K "form_within" "form_within" sFw fF fdF)(bF:Binds K fdF ["rows","most"] [])(gF:mg "form_within"=some (.ref fF))(GF:FnOk P w K mg base CX0 8 fF fdF ["rows","most"] spFw)
  (FR:Fun K "rows_in" "rows_in" sRi fR fdR)(bR:Binds K fdR ["group","known"] [])(gR:mg "rows_in"=some (.ref fR))
  (FT:Fun K "writes_others" "writes_others" sWt fT fdT)(bT:Binds K fdT ["form","group","known"] [])(gT:mg "writes_others"=some (.ref fT))(GT:FnOk P w K mg base CX0 9 fT fdT ["form","group","known"] spWt):
  ∀d:Nat,FnOk P w K mg base CX0 (d+10) f fd ["group","known","most"] (spGo d)
 |0=>by
  refine F.ok (k:=9) scGo (fun vs H Q E h=>?_) (fun cdv A outer s H vs Q E hr h=>?_)
  ·obtain⟨q,a,g,qs,ks,most,rfl,_⟩:=h
   rfl
  ·obtain⟨q,a,g,qs,ks,most,rfl,hq,ha,hR,h8,hok,hg,hd,k⟩:=h
   have:=hg.ran _ (zEd hg.ne)
   omega
 |d+1=>by
  have GO:FnOk P w K mg base CX0 (d+10) f fd ["group","known","most"] (spGo d):=zNl F b g T FF bF gF GF FR bR gR FT bT gT GT d
  have GR:FnOk P w K mg base CX0 1 fR fdR ["group","known"] spRi:=zkk FR
  refine F.ok (k:=d+10) scGo (fun vs H Q E h=>?_) (fun cdv A outer s H vs Q E hr h=>?_)
  ·obtain⟨q,a,g,qs,ks,most,rfl,_⟩:=h
   rfl
  ·obtain⟨q,a,gr,qs,ks,most,rfl,hq,ha,hR,h8,hok,hg,hd,k⟩:=h
   have hr1:Room 1 _:=hr.mono (by omega)
   have hr8:Room 8 _:=hr.mono (by omega)
   have hr9:Room 9 _:=hr.mono (by omega)
   have hql:(qs.map V.ref).length=ks.length:=by rw[List.length_map];exact hR.1
   have hl:=hg.ran _ (zEd hg.ne)
   have hgl:=hg.len
   have hg1:1<=gr.length:=by
    cases gr with
    |nil=>exact absurd rfl hg.ne
    |cons x gr=>simp
   have hri:(rIn ks gr).length=gr.length:=by unfold rIn;rw[List.length_map]
   have hrok:=zyh hok hg.ran
   refine⟨_,ze (zH (i:=3) scGo.nd rfl (Or.inl rfl) (zi GF hr8 rfl gF FF.kp bF .nil zw (za (zi GR hr1 rfl gR FR.kp bR .nil zw (za (pv 0) (za (pv 1) zd))) (za (pv 2) zd))))
    (ze (zM (zyc (zQd (pv 3))) (zf (zp (zva zd))) zt)
    (ze (zeb (zH (i:=4) scGo.nd rfl (Or.inl rfl) (ztb (zba (zi GT hr9 rfl gT FT.kp bT .nil zw (za (pv 3) (za (pv 0) (za (pv 1) zd))))) (zva zd) (zva (za (pv 0) zd)))))
    (ze (zta PassesOwn.never rfl (zag rfl T.range (za (zz zSa (zU zfa (pv 0) (zAf zVc zg) (fun _ _=>rfl)) zg) (za (zq zo (by rfl) T.len PySem.boot_len (za (pv 1) zd)) zd))) (zC (i:=5) scGo.nd rfl (Or.inl rfl))
     (zf (zHa (zQa PySem.F.plainAttrs_list PySem.F.slot_list_extend PySem.F.type_list_extend zog (pv 4) (za (zi GO hr rfl g F.kp b .nil zw (za (zz zzj (pv 0) (zua (za (pv 5) zd))) (za (pv 1) (za (pv 2) zd)))) zd)))))
    (zf (zp (pv 4)))))),?_⟩
   refine⟨_,rfl,_,rfl,q,a,gr,qs,ks,rfl,hq,ha,hR,by omega,hg.ran,fun l0 qs0 H1 s1 hl0 hR0=>?_⟩
   refine⟨_,rfl,l0,qs0,rIn ks gr,most,rfl,hl0,hR0,by omega,by omega,hrok,fun v H2 s2 hv=>?_⟩
   have t2:=s1.trans s2
   have eg:gOn ks most (d+1) gr=match zBb most (rIn ks gr) with
     |none=>[]
     |some es=>(if zsa es gr ks then[] else[gr])++(List.range ((ks.length:Int)-(zga gr+1)).toNat).flatMap fun(k:Nat)=>gOn ks most d (gr++[zga gr+1+(k:Int)]):=rfl
   cases hf:zBb most (rIn ks gr) with
   |none=>
    rw[hf] at hv eg
    cases(show v=.non from hv)
    refine⟨_,rfl,true,rfl,iteT ⟨Nat.zero_le _,fun l hl=>?_⟩⟩
    refine k l [] _ (t2.zao (t2.free hl)) (t2.free hl) zc ?_
    rw[eg]
    exact True.intro
   |some es=>
    rw[hf] at hv eg
    obtain⟨p,vs,rfl,hp,hP⟩:=hv
    have he8:=zwi (by omega) hrok hf
    refine⟨_,rfl,false,rfl,iteF ?_⟩
    refine⟨fun σ' H'=>∃(lf:Addr)(us:List V),σ'=[some (.ref q),some (.ref a),some (.int most),some (.ref p),some (.ref lf),none]/\Same H H'/\H lf=none/\H' lf=some (.lst us)/\GAt H' us (if zsa es gr ks then[] else[gr]),?_,?_⟩
    ·refine⟨_,rfl,_,rfl,_,rfl,p,q,a,es,gr,qs,ks,rfl,⟨vs,hp,hP⟩,by omega,t2 _ _ hq,t2 _ _ ha,hR.zro t2.tups,by omega,hok,fun H3 s3=>?_⟩
     have t3:=t2.trans s3
     refine⟨_,rfl,?_⟩
     cases zsa es gr ks with
     |true=>exact iteT ⟨Nat.zero_le _,fun l hl=>⟨l,[],rfl,t3.zao (t3.free hl),t3.free hl,zc,True.intro⟩⟩
     |false=>
      refine iteF ⟨_,rfl,(by show 1<=sizeLine;decide),fun l hl=>⟨l,[.ref q],rfl,t3.zao (t3.free hl),t3.free hl,zc,⟨q,rfl,?_⟩,True.intro⟩⟩
      exact((Same.refl H3).zao hl) _ _ (t3 _ _ hq)
    rintro σ' H3 ⟨lf,us,rfl,s3,hlf,hL,hG⟩
    refine⟨_,rfl,_,rfl,q,_,_,_,rfl,rfl,SqT.of (s3 _ _ hq),znk hg.ne,_,_,rfl,rfl,_,rfl,a,_,rfl,.inr (SqT.of (s3 _ _ ha)),_,_,rfl,⟨by omega,by omega,by omega,by omega⟩,?_⟩
    rw[hql]
    refine zma (lo:=zga gr+1) (n:=((ks.length:Int)-(zga gr+1)).toNat) (fun i σ H4=>∃(us:List V)(v5:Option V),σ=[some (.ref q),some (.ref a),some (.int most),some (.ref p),some (.ref lf),v5]/\Same H H4/\H4 lf=some (.lst us)/\GAt H4 us ((if zsa es gr ks then[] else[gr])++(List.range i).flatMap fun(k:Nat)=>gOn ks most d (gr++[zga gr+1+(k:Int)])))
     ⟨us,none,rfl,s3,hL,by rw[List.range_zero,List.flatMap_nil,List.append_nil];exact hG⟩ ?_ ?_
    ·rintro i σ H4 hi ⟨us,v5,rfl,s4,hL4,hG4⟩
     refine⟨_,rfl,.inl ⟨rfl,_,SqL.of hL4⟩,_,rfl,_,rfl,(by show 1<=sizeLine;decide),fun pl hpl=>?_⟩
     have s5:=(Same.refl H4).zao (o:=.tup [.int (zga gr+1+(i:Int))]) hpl
     refine⟨q,pl,_,_,rfl,rfl,SqT.of (s5 _ _ (s4 _ _ hq)),zc,by simp,?_,fun zn H6 s6 hzn=>?_⟩
     ·rw[List.length_map]
      exact Nat.le_of_lt (zv (by show gr.length+1<=1000;omega))
     have t6:=s4.trans (s5.trans s6)
     have hzn':H6 zn=some (.tup ((gr++[zga gr+1+(i:Int)]).map V.int)):=by rw[hzn,List.map_append];rfl
     have hg':=hg.snoc (x:=zga gr+1+(i:Int)) (by omega) (by omega)
     refine⟨_,rfl,_,rfl,zn,a,gr++[zga gr+1+(i:Int)],qs,ks,most,rfl,hzn',t6 _ _ ha,hR.zro t6.tups,h8,hok,hg',by rw[zZa];omega,fun l vs' H7 s7 _ hl7 hG7=>?_⟩
     have t67:=(s5.trans s6).trans s7
     have hL7:=t67 _ _ hL4
     have ts:zha H7 (upd H7 lf (.lst (us++vs'))):=zha.zeo (fun _ _ e=>e) hL7
     refine⟨lf,l,_,_,rfl,rfl,hL7,hl7,?_,us++vs',_,rfl,(s4.trans t67).zao hlf,zc,?_⟩
     ·have b1:=hG4.len
      have b2:=hG7.len
      have b3:=zLe (ks:=ks) (most:=most) (d:=d) (g:=gr++[zga gr+1+(i:Int)]) h8 (by rw[zZa];omega)
      have b4:=zLe (ks:=ks) (most:=most) (d:=d+1) (g:=gr) h8 hl.1
      rw[eg] at b4
      have b5:((if zsa es gr ks then[] else[gr])++(List.range i).flatMap fun(k:Nat)=>gOn ks most d (gr++[zga gr+1+(k:Int)])).length<=((if zsa es gr ks then[] else[gr])++(List.range ((ks.length:Int)-(zga gr+1)).toNat).flatMap fun(k:Nat)=>gOn ks most d (gr++[zga gr+1+(k:Int)])).length:=by
       obtain⟨m,hm⟩:∃m,((ks.length:Int)-(zga gr+1)).toNat=i+m:=⟨((ks.length:Int)-(zga gr+1)).toNat-i,by omega⟩
       rw[hm,List.range_add,List.flatMap_append,List.length_append,List.length_append,List.length_append]
       omega
      have b6:((if zsa es gr ks then[] else[gr])++(List.range ((ks.length:Int)-(zga gr+1)).toNat).flatMap fun(k:Nat)=>gOn ks most d (gr++[zga gr+1+(k:Int)])).length<=256:=b4
      exact Nat.le_of_lt (zv (by omega))
     ·rw[List.range_succ,List.flatMap_append,<- List.append_assoc]
      refine((hG4.zro t67.tups).zro ts).app ?_
      rw[List.flatMap_cons,List.flatMap_nil,List.append_nil]
      exact hG7.zro ts
    ·rintro σ H4 ⟨us,v5,rfl,s4,hL4,hG4⟩
     refine⟨_,rfl,k lf us H4 s4 hlf hL4 ?_⟩
     rw[eg]
     exact hG4
end
def ChAt (H:Hp):List V->List (List (List Int))->Prop
 | [],[]=>True
 |v::vs,c::cs=>(∃l us,v=V.ref l/\H l=some (.lst us)/\GAt H us c)/\ChAt H vs cs
 |_,_=>False
theorem ChAt.same {H H':Hp}(s:Same H H'):∀{vs:List V}{cs:List (List (List Int))},ChAt H vs cs->ChAt H' vs cs
 | [],[],_=>True.intro
 |_::_,_::_,⟨⟨l,us,h1,h2,h3⟩,h4⟩=>⟨⟨l,us,h1,s _ _ h2,h3.zro s.tups⟩,ChAt.same s h4⟩
 | [],_::_,h=>h.elim
 |_::_,[],h=>h.elim
theorem ChAt.len {H:Hp}:∀{vs:List V}{cs:List (List (List Int))},ChAt H vs cs->vs.length=cs.length
 | [],[],_=>rfl
 |_::_,_::_,⟨_,h2⟩=>by rw[List.length_cons,List.length_cons,ChAt.len h2]
 | [],_::_,h=>h.elim
 |_::_,[],h=>h.elim
theorem ChAt.snoc {H:Hp}{v:V}{c:zT1}(h:∃l us,v=V.ref l/\H l=some (.lst us)/\GAt H us c):∀{vs:List V}{cs:List (List (List Int))},ChAt H vs cs->ChAt H (vs++[v]) (cs++[c])
 | [],[],_=>⟨h,True.intro⟩
 |_::_,_::_,⟨h1,h2⟩=>⟨h1,ChAt.snoc h h2⟩
 | [],_::_,h=>h.elim
 |_::_,[],h=>h.elim
theorem ChAt.get {H:Hp}:∀{vs:List V}{cs:List (List (List Int))}{i:Nat}{c:zT1},ChAt H vs cs->cs[i]?=some c->∃l us,vs[i]?=some (.ref l)/\H l=some (.lst us)/\GAt H us c
 | [],[],i,c,_,h=>by simp at h
 |x::vs,g::gs,0,c,⟨⟨l,us,h1,h2,h3⟩,_⟩,h=>by
  cases h
  exact⟨l,us,by rw[h1];rfl,h2,h3⟩
 |x::vs,g::gs,i+1,c,⟨_,h2⟩,h=>by
  obtain⟨l,us,e1,e2⟩:=ChAt.get (i:=i) h2 (by simpa using h)
  exact⟨l,us,by simpa using e1,e2⟩
 | [],_::_,_,_,h,_=>h.elim
 |_::_,[],_,_,h,_=>h.elim
def RAt (H:Hp)(v:V):Option (List (List Int))->Prop
 |none=>v=.non
 |some r=>∃p us,v=.ref p/\H p=some (.tup us)/\GAt H us r
theorem zNe {α β:Type}{f:α->Option β}{r:β}:∀{c:List α}{i:Nat}{g:α},c[i]?=some g->f g=some r->(∀x∈c.take i,f x=none)->c.findSome? f=some r
 | [],i,g,h,_,_=>by simp at h
 |a::c,0,g,h,hr,_=>by
  cases h
  rw[List.findSome?_cons,hr]
 |a::c,i+1,g,h,hr,hb=>by
  rw[List.findSome?_cons,hb a (by simp)]
  exact zNe (i:=i) (by simpa using h) hr fun x hx=>hb x (by simp[hx])
theorem zzh (ch:List (List (List Int))):∀(m:Nat)(left:List Int)(r:zT1),fGr ch m left=some r->r.length<=m
 |m,[],r,h=>by
  have h':some []=some r:=by
   cases m<;>exact h
  cases h'
  exact Nat.zero_le _
 |0,x::left,r,h=>by cases h
 |m+1,x::left,r,h=>by
  unfold fGr at h
  obtain⟨g,hg,hs⟩:=List.exists_of_findSome?_eq_some h
  split at hs
  ·cases hr:fGr ch m ((x::left).filter fun i=>!decide (i∈g)) with
   |none=>rw[hr] at hs;cases hs
   |some o=>
    rw[hr] at hs
    cases hs
    have:=zzh ch m _ o hr
    rw[List.length_cons]
    omega
  ·cases hs
def spFg (m:Nat):Sp:=fun vs H Q _=>∃(l lc:Addr)(left:List Int)(us:List V)(ch:List (List (List Int))),vs=[.ref l,.ref lc,.int (m:Int)]/\m<=8/\H l=some (.lst (left.map V.int))/\H lc=some (.lst us)/\ChAt H us ch/\left.length<=8/\(∀x∈left,0<=x/\x<(ch.length:Int))∧
 (∀c∈ch,c.length<=256/\∀g∈c,g.length<=8)/\∀(v:V)(H':Hp),Same H H'->RAt H' v (fGr ch m left)->Q v H'
section
variable {P:Program}{w:World}{K:W.Frag}{mg:zT3}{base:Heap}
theorem scFg:FnScope ["left","choices","many","group","rest","others"] ["left","choices","many"] (zb sFg):=.of (by decide +kernel)
def zxi:Scope:=⟨.function,[(".0",.local),("number",.local),("left",.free)],false,false,[]⟩
def zyi:Scope:=⟨.function,[(".0",.local),("number",.local),("group",.free)],false,false,[]⟩
theorem zOl:BlkScope (zb sFg) ["left","choices","many","group","rest","others"] ["number"] ["left"] [0] zxi:=.of (by decide +kernel)
theorem zPl:BlkScope (zb sFg) ["left","choices","many","group","rest","others"] ["number"] ["group"] [3] zyi:=.of (by decide +kernel)
theorem zok (F:Fun K "first_grouping" "first_grouping" sFg f fd)(b:Binds K fd ["left","choices","many"] [])(g:mg "first_grouping"=some (.ref f))(T:Txt mg)(hall:mg "all"=none):
  ∀m:Nat,FnOk P w K mg base CX0 (m+1) f fd ["left","choices","many"] (spFg m)
 |0=>by
  refine F.ok (k:=0) scFg (fun vs H Q E h=>?_) (fun cdv A outer s H vs Q E hr h=>?_)
  ·obtain⟨l,lc,left,us,ch,rfl,_⟩:=h
   rfl
  ·obtain⟨l,lc,left,us,ch,rfl,hm8,hl,hc,hC,h8,hran,hch,k⟩:=h
   refine⟨_,ze (zM (zr zV (zq zo (by rfl) T.len PySem.boot_len (za (pv 0) zd)) zg (zu _)) (zf (zp (zua zd))) zt)
    (ze (zM (zr zV (pv 2) zg (zu _)) (zf (zp zia)) zt) zzc),?_⟩
   refine⟨_,rfl,l,_,rfl,.inl (SqL.of hl),rfl,_,rfl,?_⟩
   rw[zbc,List.length_map]
   cases left with
   |nil=>
    refine iteT ⟨Nat.zero_le _,fun t ht=>?_⟩
    exact k (.ref t) _ ((Same.refl H).zao ht) ⟨t,[],rfl,zc,True.intro⟩
   |cons x left=>
    rw[decide_eq_false (by rw[List.length_cons];omega)]
    refine iteF ?_
    exact⟨_,rfl,rfl,true,rfl,iteT (k .non H (Same.refl H) rfl)⟩
 |m+1=>by
  have GO:FnOk P w K mg base CX0 (m+1) f fd ["left","choices","many"] (spFg m):=zok F b g T hall m
  refine F.ok (k:=m+1) scFg (fun vs H Q E h=>?_) (fun cdv A outer s H vs Q E hr h=>?_)
  ·obtain⟨l,lc,left,us,ch,rfl,_⟩:=h
   rfl
  ·obtain⟨l,lc,left,us,ch,rfl,hm8,hl,hc,hC,h8,hran,hch,k⟩:=h
   refine⟨_,ze (zM (zr zV (zq zo (by rfl) T.len PySem.boot_len (za (pv 0) zd)) zg (zu _)) (zf (zp (zua zd))) zt)
    (ze (zM (zr zV (pv 2) zg (zu _)) (zf (zp zia)) zt)
    (ze (zta PassesOwn.never rfl (zja (zU zEa (pv 1) (zU zEa (pv 0) zg (fun _ _=>rfl)) (fun _ _=>rfl))) (zC (i:=3) scFg.nd rfl (Or.inr rfl))
     (zf (zM (zba (zq (zpb rfl) (by rfl) hall boot_all (za (zWa zOl rfl rfl rfl (zkc (pv 3)) (fun fp C s1 H1=>zC (i:=0) zOl.nd rfl (Or.inl rfl)) (fun fp C s1 H1=>zla) (fun fp C s1 H1=>zQ (r:=L2.rIn K false) zng (pv 0) (pv 1) (by with_unfolding_all rfl))) zd)))
      (ze (zbb (i:=4) zPl rfl rfl rfl (zja (pv 0)) (fun fp C s1 H1=>zC (i:=0) zPl.nd rfl (Or.inl rfl)) (fun fp C s1 H1=>zIa (zr (r:=L2.rIn K true) zmc (pv 0) (pv 1) (by with_unfolding_all rfl))) (fun fp C s1 H1=>pv 0) scFg.nd rfl rfl rfl)
      (ze (zH (i:=5) scFg.nd rfl (Or.inl rfl) (zi GO hr rfl g F.kp b .nil zw (za (pv 4) (za (pv 1) (za (zz zRi (pv 2) zg) zd)))))
      (zf (zM (zyc (zid (pv 5))) (zf (zp (zz zCj (zua (za (pv 3) zd)) (pv 5)))) zt)))) zt)))
    (zf (zp zia)))),?_⟩
   refine⟨_,rfl,l,_,rfl,.inl (SqL.of hl),rfl,_,rfl,?_⟩
   rw[zbc,List.length_map]
   cases left with
   |nil=>
    refine iteT ⟨Nat.zero_le _,fun t ht=>?_⟩
    exact k (.ref t) _ ((Same.refl H).zao ht) ⟨t,[],rfl,zc,True.intro⟩
   |cons x0 lf=>
    rw[decide_eq_false (by rw[List.length_cons];omega)]
    refine iteF ?_
    refine⟨_,rfl,rfl,_,rfl,?_⟩
    rw[zbc,decide_eq_false (by omega)]
    refine iteF ?_
    have hx0:=hran x0 List.mem_cons_self
    have ek:fGr ch (m+1) (x0::lf)=(ch.getD x0.toNat []).findSome? fun g=>if g.all (fun i=>decide (i∈x0::lf)) then(fGr ch m ((x0::lf).filter fun i=>!decide (i∈g))).map (g::·) else none:=rfl
    rw[ek] at k
    generalize hleft:x0::lf=left at hl h8 hran k
    have e0:atI (left.map V.int) 0=some (.int x0):=by rw[<- hleft];exact zY (j:=0) rfl
    obtain⟨c,ec⟩:∃c,ch[x0.toNat]?=some c:=⟨ch[x0.toNat]'(by omega),by simp⟩
    have ecd:ch.getD x0.toNat []=c:=by simp[List.getD,ec]
    rw[ecd] at k
    have hcc:=hch c (List.mem_of_getElem? ec)
    obtain⟨lg,ug,g1,g2,g3⟩:=hC.get ec
    have hugl:=g3.len
    refine⟨_,rfl,_,rfl,l,_,_,_,rfl,rfl,SqL.of hl,e0,lc,_,_,_,rfl,rfl,SqL.of hc,zsg hx0.1 g1,lg,rfl,⟨_,SqL.of g2⟩,?_⟩
    refine zrc (K:=K) (a:=lg) (xs:=ug) (fun i σ H2=>∃(v3 v4 v5:Option V),σ=[some (.ref l),some (.ref lc),some (.int ((m+1:Nat):Int)),v3,v4,v5]/\Same H H2/\∀gg∈c.take i,(if gg.all (fun i=>decide (i∈left)) then(fGr ch m (left.filter fun i=>!decide (i∈gg))).map (gg::·) else none)=none)
     ⟨none,none,none,rfl,Same.refl H,by simp⟩ (fun i σ H2 _ ⟨_,_,_,_,s2,_⟩=>SqL.of (s2 _ _ g2)) ?_ ?_
    ·rintro i x σ H2 hx ⟨v3,v4,v5,rfl,s2,hno⟩
     obtain⟨gr,q,egr,rfl,hq⟩:=g3.get hx
     have hgl:=hcc.2 gr (List.mem_of_getElem? egr)
     have tk:c.take (i+1)=c.take i++[gr]:=by rw[List.take_add_one,egr];rfl
     have goon:∀(v3 v4 v5:Option V)(H3:Hp),Same H H3->(if gr.all (fun i=>decide (i∈left)) then(fGr ch m (left.filter fun i=>!decide (i∈gr))).map (gr::·) else none)=none→
       ∃(w3 w4 w5:Option V),[some (V.ref l),some (.ref lc),some (.int ((m+1:Nat):Int)),v3,v4,v5]=[some (.ref l),some (.ref lc),some (.int ((m+1:Nat):Int)),w3,w4,w5]/\Same H H3/\∀gg∈c.take (i+1),(if gg.all (fun i=>decide (i∈left)) then(fGr ch m (left.filter fun i=>!decide (i∈gg))).map (gg::·) else none)=none:=by
      intro v3 v4 v5 H3 s3 hn
      refine⟨v3,v4,v5,rfl,s3,fun gg hgg=>?_⟩
      rw[tk] at hgg
      rcases List.mem_append.mp hgg with hgg|hgg
      ·exact hno gg hgg
      ·rw[List.mem_singleton] at hgg
       rw[hgg]
       exact hn
     have hq2:=s2 _ _ hq
     have hl2:=s2 _ _ hl
     refine⟨_,rfl,q,rfl,⟨_,SqT.of hq2⟩,fun D hD=>?_⟩
     refine zee (K:=K) (a:=q) (xs:=gr.map V.int) (fun j ys H3=>ys=((gr.take j).map fun x=>decide (x∈left)).map V.bl/\Same H2 H3/\H3 D=some (.lst ys)) (Nat.le_of_lt (zv (by rw[List.length_map];omega))) ⟨by simp,(Same.refl H2).zao hD,zc⟩
      (fun j ys H3 h=>by rw[h.1,List.length_map,List.length_map,List.length_take];exact Nat.min_le_left _ _) (fun j ys H3 h=>SqT.of (h.2.1 _ _ hq2)) ?_ ?_
     ·rintro j ys H3 y N M hy ⟨rfl,s3,hD3⟩ hN hM
      rw[List.getElem?_map] at hy
      cases et:gr[j]? with
      |none=>rw[et] at hy;cases hy
      |some t=>
       rw[et] at hy
       cases hy
       refine⟨_,rfl,_,rfl,l,_,rfl,.inl (SqL.of (s3 _ _ hl2)),rfl,zOc left,?_⟩
       show N (.bl (inV (.int t) (left.map V.int))) H3
       rw[zwc]
       refine hN _ H3 hD3 ⟨?_,s3.zao hD,zc⟩
       rw[List.take_add_one,et,List.map_append,List.map_append]
       rfl
     rintro ys H3 ⟨rfl,s3,hD3⟩
     rw[List.length_map,List.take_of_length_le (Nat.le_refl _)] at hD3
     have t3:=s2.trans s3
     refine⟨D,_,rfl,SqL.of hD3,gr.all (fun i=>decide (i∈left)),by rw[List.all_map];rfl,?_⟩
     cases hA:gr.all (fun i=>decide (i∈left)) with
     |false=>
      refine iteF (goon _ _ _ H3 t3 ?_)
      rw[hA]
      rfl
     |true=>
      refine iteT ?_
      have hq3:=s3 _ _ hq2
      have hl3:=s3 _ _ hl2
      refine⟨_,rfl,l,rfl,⟨_,SqL.of hl3⟩,fun D2 hD2=>?_⟩
      refine zAa (K:=K) (a:=l) (xs:=left.map V.int) (fun j ys H4=>ys=((left.take j).filter fun i=>!decide (i∈gr)).map V.int/\Same H3 H4/\H4 D2=some (.lst ys)) (Nat.le_of_lt (zv (by rw[List.length_map];omega))) ⟨by simp,(Same.refl H3).zao hD2,zc⟩
       (fun j ys H4 h=>?_) (fun j ys H4 h=>SqL.of (h.2.1 _ _ hl3)) ?_ ?_
      ·rw[h.1,List.length_map]
       refine Nat.le_trans (List.length_filter_le _ _) ?_
       rw[List.length_take]
       exact Nat.min_le_left _ _
      ·rintro j ys H4 y N M hy ⟨rfl,s4,hD4⟩ hN hM
       rw[List.getElem?_map] at hy
       cases et:left[j]? with
       |none=>rw[et] at hy;cases hy
       |some t=>
        rw[et] at hy
        cases hy
        refine⟨_,rfl,_,rfl,q,_,rfl,.inr (SqT.of (s4 _ _ hq3)),rfl,zOc gr,!inV _ _,rfl,?_⟩
        rw[zwc]
        by_cases hin:t∈gr
        ·rw[decide_eq_true hin]
         refine iteF (hM H4 ⟨?_,s4,hD4⟩)
         rw[List.take_add_one,et,List.filter_append,List.map_append]
         simp[hin]
        ·rw[decide_eq_false hin]
         refine iteT ⟨_,rfl,hN _ H4 hD4 ⟨?_,s4.zao hD2,zc⟩⟩
         rw[List.take_add_one,et,List.filter_append,List.map_append]
         simp[hin]
      rintro ys H4 ⟨rfl,s4,hD4⟩
      rw[List.length_map,List.take_of_length_le (Nat.le_refl _)] at hD4
      have t4:=t3.trans s4
      have hfl:(left.filter fun i=>!decide (i∈gr)).length<=left.length:=List.length_filter_le _ _
      refine⟨_,rfl,_,rfl,_,rfl,_,_,rfl,rfl,D2,lc,left.filter (fun i=>!decide (i∈gr)),us,ch,by(show[V.ref D2,V.ref lc,V.int (((m+1:Nat):Int)-1)]=_);rw[show((m+1:Nat):Int)-1=(m:Int) by omega],by omega,hD4,t4 _ _ hc,hC.same t4,by omega,fun y hy=>hran y (List.mem_filter.mp hy).1,hch,fun v H5 s5 hv=>?_⟩
      have t5:=t4.trans s5
      cases hr5:fGr ch m (left.filter fun i=>!decide (i∈gr)) with
      |none=>
       rw[hr5] at hv
       cases(show v=.non from hv)
       refine⟨_,rfl,false,rfl,iteF (goon _ _ _ H5 t5 ?_)⟩
       rw[hA,hr5]
       rfl
      |some o=>
       rw[hr5] at hv
       obtain⟨p,uo,rfl,hp,hO⟩:=hv
       have hol:=zzh ch m _ o hr5
       have hul:=hO.len
       refine⟨_,rfl,true,rfl,iteT ⟨_,rfl,(by show 1<=sizeLine;decide),fun pl hpl=>?_⟩⟩
       have s6:=(Same.refl H5).zao (o:=.tup [.ref q]) hpl
       refine⟨_,rfl,pl,p,_,_,rfl,rfl,zc,SqT.of (s6 _ _ hp),by simp,Nat.le_of_lt (zv (by show 1+uo.length<=1000;omega)),fun zn H7 s7 hzn=>?_⟩
       have s57:=s6.trans s7
       refine k (.ref zn) H7 (t5.trans s57) ?_
       rw[zNe egr (r:=gr::o) (by rw[hA,hr5];rfl) hno]
       exact⟨zn,_,rfl,hzn,⟨q,rfl,(t5.trans s57) _ _ hq⟩,hO.zro s57.tups⟩
    ·rintro σ H2 ⟨v3,v4,v5,rfl,s2,hno⟩
     rw[hugl,List.take_of_length_le (Nat.le_refl _)] at hno
     refine k .non H2 s2 ?_
     rw[List.findSome?_eq_none_iff.mpr hno]
     rfl
def zQl:Sp:=fun vs H Q E=>∃m,spFg m vs H Q E
theorem zRl (F:Fun K "first_grouping" "first_grouping" sFg f fd)(b:Binds K fd ["left","choices","many"] [])(g:mg "first_grouping"=some (.ref f))(T:Txt mg)(hall:mg "all"=none):
  FnOk P w K mg base CX0 9 f fd ["left","choices","many"] zQl:=by
 refine⟨fun vs H Q E ⟨m,h⟩=>(zok (P:=P) (w:=w) (base:=base) F b g T hall m).len vs H Q E h,fun A outer s H args us vs Q E hr he hb hv ⟨m,h⟩=>?_⟩
 have hm:m<=8:=by
  obtain⟨_,_,_,_,_,_,hm,_⟩:=h
  exact hm
 exact(zok F b g T hall m).run A outer s H args us vs Q E (hr.mono (by omega)) he hb hv h
end
def spGr:Sp:=fun vs H Q _=>∃(a:Addr)(qs:List Addr)(rows:List (List Str))(most:Int),vs=[.ref a,.int most]/\H a=some (.tup (qs.map V.ref))/\zT H qs rows/\rows.length<=64/\(∀r∈rows,zxa r)/\(unl rows).length<=8∧
 ∀(p:Addr)(us:List V)(H':Hp),Same H H'->H' p=some (.tup us)->GAt H' us (zPa (unl rows) most)->Q (.ref p) H'
theorem zTf (n:Nat):zWb 0 n=nums n:=by
 unfold zWb nums
 apply List.map_congr_left
 intro i _
 omega
theorem zPc {β:Type}{f:Nat->Option β}{n:Nat}(h:∀m,m<n->f m=none):(List.range n).findSome? f=none:=List.findSome?_eq_none_iff.mpr fun m hm=>h m (List.mem_range.mp hm)
theorem ChAt.upd {H:Hp}{D:Addr}{o:HO}{us0:List V}(hD:H D=some (.lst us0)):∀{vs:List V}{cs:List (List (List Int))},ChAt H vs cs->(∀v∈vs,v≠V.ref D)->ChAt (L2.upd H D o) vs cs
 | [],[],_,_=>True.intro
 |v::vs,c::cs,⟨⟨l,us,h1,h2,h3⟩,h4⟩,hv=>by
  have hne:l≠D:=fun z=>hv v List.mem_cons_self (by rw[h1,z])
  refine⟨⟨l,us,h1,by rw[zy hne];exact h2,h3.zro (zha.zeo (fun _ _ e=>e) hD)⟩,ChAt.upd hD h4 fun x hx=>hv x (List.mem_cons_of_mem _ hx)⟩
 | [],_::_,h,_=>h.elim
 |_::_,[],h,_=>h.elim
section
variable {P:Program}{w:World}{K:W.Frag}{mg:zT3}{base:Heap}
theorem scGr:FnScope ["rows","most","known","numbers","choices","many","grouping"] ["rows","most"] (zb sGr):=.of (by decide +kernel)
def zzi:Scope:=⟨.function,[(".0",.local),("number",.local),("groups_on",.globalImplicit),("known",.free),("most",.free)],false,false,[]⟩
def zAi:Scope:=⟨.function,[(".0",.local),("number",.local)],false,false,[]⟩
theorem zSl:BlkScope (zb sGr) ["rows","most","known","numbers","choices","many","grouping"] ["number"] ["known","most"] [2,1] zzi:=.of (by decide +kernel)
theorem zTl:BlkScope (zb sGr) ["rows","most","known","numbers","choices","many","grouping"] ["number"] [] [] zAi:=.of (by decide +kernel)
theorem zvn {its:Array Value}(F:FunD K "groups" "groups" sGr f fd its)(T:Txt mg)(hmu:∃u,mg "MOST_UNLIKE"=some u/\RelV (.int 8) u)
  (FU:Fun K "unlike" "unlike" sUn fU fdU)(bU:Binds K fdU ["rows"] [])(gU:mg "unlike"=some (.ref fU))
  (FO:Fun K "groups_on" "groups_on" sGo fO fdO)(bO:Binds K fdO ["group","known","most"] [])(gO:mg "groups_on"=some (.ref fO))(GO:FnOk P w K mg base CX0 19 fO fdO ["group","known","most"] (spGo 9))
  (FG:Fun K "first_grouping" "first_grouping" sFg fG fdG)(bG:Binds K fdG ["left","choices","many"] [])(gG:mg "first_grouping"=some (.ref fG))(hall:mg "all"=none):
  FnOk P w K mg base CX0 20 f fd ["rows","most"] spGr:=by
 have GU:FnOk P w K mg base CX0 1 fU fdU ["rows"] spUn:=zvi FU T
 have GG:FnOk P w K mg base CX0 9 fG fdG ["left","choices","many"] zQl:=zRl FG bG gG T hall
 refine F.ok scGr (fun vs H Q E h=>?_) (fun cdv A outer s H vs Q E hr h=>?_)
 ·obtain⟨a,qs,rows,most,rfl,_⟩:=h
  rfl
 ·obtain⟨a,qs,rows,most,rfl,ha,hR,h64,hok,h8,k⟩:=h
  obtain⟨u8,g8,r8⟩:=hmu
  have hr1:Room 1 _:=hr.mono (by decide)
  have hr9:Room 9 _:=hr.mono (by decide)
  refine⟨_,ze (zH (i:=2) scGr.nd rfl (Or.inr rfl) (zi GU hr1 rfl gU FU.kp bU .nil zw (za (pv 0) zd)))
   (ze (zM (zr zld (zq zo (by rfl) T.len PySem.boot_len (za (pv 2) zd)) (zra (v:=.int 8) (by rfl) g8 r8) (zu _)) zzc zt)
   (ze (zH (i:=3) scGr.nd rfl (Or.inl rfl) (zS (zud rfl) (by rfl) T.list PyProof.Rows.boot_list (za (zS zHg (by rfl) T.range PyProof.Rows.boot_range (za (zq zo (by rfl) T.len PySem.boot_len (za (pv 2) zd)) zd)) zd)))
   (ze (zbb (i:=4) zSl rfl rfl rfl (zja (pv 3)) (fun fp C s1 H1=>zC (i:=0) zSl.nd rfl (Or.inl rfl)) (fun fp C s1 H1=>zla) (fun fp C s1 H1=>zi GO hr rfl gO FO.kp bO .nil zw (za (zua (za (pv 0) zd)) (za (pv 1) (za (pv 2) zd)))) scGr.nd rfl rfl rfl)
   (ze (zta PassesOwn.never rfl (zZ rfl T.range (za (zq zo (by rfl) T.len PySem.boot_len (za (pv 2) zd)) zd)) (zC (i:=5) scGr.nd rfl (Or.inl rfl))
    (ze (zH (i:=6) scGr.nd rfl (Or.inl rfl) (zi GG hr9 rfl gG FG.kp bG .nil zw (za (pv 3) (za (pv 4) (za (pv 5) zd)))))
    (zf (zM (zyc (zid (pv 6))) (zf (zp (pv 6))) zt))))
   (zf (zp (zS zL (by rfl) T.tuple PyProof.Rows.boot_tuple (za (zWa zTl rfl rfl rfl (zja (pv 3)) (fun fp C s1 H1=>zC (i:=0) zTl.nd rfl (Or.inl rfl)) (fun fp C s1 H1=>zla) (fun fp C s1 H1=>zua (za (pv 0) zd))) zd)))))))),?_⟩
  refine⟨_,rfl,a,qs,rows,rfl,ha,hR,by omega,fun pk qk H1 s1 hpk hRk=>?_⟩
  have hkok:∀r∈unl rows,zxa r:=fun r hr'=>hok r ((zMb r rows).mp hr')
  generalize unl rows=ks at h8 k hRk hkok
  have hkl:(qk.map V.ref).length=ks.length:=by rw[List.length_map];exact hRk.1
  refine⟨_,rfl,pk,_,rfl,.inr (SqT.of hpk),_,_,rfl,rfl,_,rfl,?_⟩
  rw[hkl,decide_eq_false (by omega)]
  refine iteF ?_
  refine⟨_,rfl,pk,_,rfl,.inr (SqT.of hpk),_,rfl,fun pr hpr=>?_⟩
  rw[hkl]
  have s2:=(Same.refl H1).zao (o:=.rng 0 ((ks.length:Nat):Int)) hpr
  refine⟨pr,0,_,rfl,zc,by decide,by decide,by omega,by omega,by omega,fun ln hln=>?_⟩
  rw[Int.sub_zero,Int.toNat_natCast,zTf] at *
  have s3:=(Same.refl (upd H1 pr (.rng 0 ((ks.length:Nat):Int)))).zao (o:=.lst ((nums ks.length).map V.int)) hln
  have t3:Same H1 (upd (upd H1 pr (.rng 0 ((ks.length:Nat):Int))) ln (.lst ((nums ks.length).map V.int))):=s2.trans s3
  generalize hH3:upd (upd H1 pr (.rng 0 ((ks.length:Nat):Int))) ln (.lst ((nums ks.length).map V.int))=H3 at t3
  have hln3:H3 ln=some (.lst ((nums ks.length).map V.int)):=by rw[<- hH3];exact zc
  have hnl:(nums ks.length).length=ks.length:=by unfold nums;rw[List.length_map,List.length_range]
  refine⟨_,rfl,ln,rfl,⟨_,SqL.of hln3⟩,fun D hD=>?_⟩
  refine zAa (K:=K) (a:=ln) (xs:=(nums ks.length).map V.int) (fun i ys H4=>ChAt H4 ys (((nums ks.length).take i).map fun j=>gOn ks most 9 [j])/\Same H3 H4/\H4 D=some (.lst ys)/\∀v∈ys,v≠V.ref D) (Nat.le_of_lt (zv (by rw[List.length_map];omega))) ⟨True.intro,(Same.refl H3).zao hD,zc,fun v hv=>by cases hv⟩
   (fun i ys H4 h=>by rw[h.1.len,List.length_map,List.length_take];exact Nat.min_le_left _ _) (fun i ys H4 h=>SqL.of (h.2.1 _ _ hln3)) ?_ ?_
  ·rintro i ys H4 x N M hx ⟨hC4,s4,hD4,hnD⟩ hN hM
   rw[List.getElem?_map] at hx
   cases et:(nums ks.length)[i]? with
   |none=>rw[et] at hx;cases hx
   |some t=>
    rw[et] at hx
    cases hx
    have ht:=zAb.mp (List.mem_of_getElem? et)
    have t4:=t3.trans s4
    refine⟨_,rfl,(by show 1<=sizeLine;decide),fun q hq=>?_⟩
    have s5:=(Same.refl H4).zao (o:=.tup [.int t]) hq
    have t5:=t4.trans s5
    refine⟨_,rfl,_,rfl,q,pk,[t],qk,ks,most,rfl,zc,t5 _ _ hpk,hRk.zro t5.tups,h8,hkok,GOk.one ht.1 ht.2,by show(ks.length:Int)-t<=9;omega,fun l vs H6 s6 hl5 hl6 hG6=>?_⟩
    have s56:=s5.trans s6
    have hD6:=s56 _ _ hD4
    have nlD:l≠D:=fun z=>by
     have:=s5 _ _ hD4
     rw[<- z,hl5] at this
     cases this
    have hnD':∀v∈ys++[V.ref l],v≠V.ref D:=fun v hv=>by
     rcases List.mem_append.mp hv with hv|hv
     ·exact hnD v hv
     ·rw[List.mem_singleton] at hv
      rw[hv]
      intro z
      injection z with z
      exact nlD z
    refine hN _ H6 hD6 ⟨?_,(s4.trans s56).zao hD,zc,hnD'⟩
    rw[List.take_add_one,et,List.map_append]
    exact((hC4.same s56).snoc ⟨l,vs,rfl,hl6,hG6⟩).upd hD6 hnD'
  rintro ys H4 ⟨hC4,s4,hD4,_⟩
  rw[List.length_map,List.take_of_length_le (Nat.le_refl _)] at hC4
  have t4:=t3.trans s4
  have hCm:ChAt H4 ys (chM ks most):=hC4
  have hcl:(chM ks most).length=ks.length:=by unfold chM;rw[List.length_map,hnl]
  have hch:∀c∈chM ks most,c.length<=256/\∀g∈c,g.length<=8:=fun c hc=>by
   unfold chM at hc
   obtain⟨x,hx,rfl⟩:=List.mem_map.mp hc
   have hx':=zAb.mp hx
   refine⟨zLe h8 hx'.1,fun g hg=>?_⟩
   exact Nat.le_trans (zFd 9 [x] (GOk.one hx'.1 hx'.2) g hg).1.ok.len h8
  refine⟨_,rfl,pk,_,rfl,.inr (SqT.of (t4 _ _ hpk)),_,rfl,by omega,by omega,?_⟩
  rw[hkl,Int.toNat_natCast]
  refine zma (n:=ks.length) (fun i σ H5=>∃(v5 v6:Option V),σ=[some (.ref a),some (.int most),some (.ref pk),some (.ref ln),some (.ref D),v5,v6]/\Same H4 H5/\∀m,m<i->fGr (chM ks most) m (nums ks.length)=none)
   ⟨none,none,rfl,Same.refl H4,fun m hm=>by omega⟩ ?_ ?_
  ·rintro i σ H5 hi ⟨v5,v6,rfl,s5,hno⟩
   have i0:0+(i:Int)=(i:Int):=Int.zero_add _
   rw[i0]
   refine⟨_,rfl,_,rfl,_,rfl,i,ln,D,nums ks.length,ys,chM ks most,rfl,by omega,(s4.trans s5) _ _ hln3,s5 _ _ hD4,hCm.same s5,by omega,fun x hx=>by rw[hcl];exact zAb.mp hx,hch,fun v H6 s6 hv=>?_⟩
   have t6:=(s1.trans t4).trans (s5.trans s6)
   cases hf:fGr (chM ks most) i (nums ks.length) with
   |none=>
    rw[hf] at hv
    cases(show v=.non from hv)
    refine⟨_,rfl,false,rfl,iteF ⟨_,_,rfl,s5.trans s6,fun m hm=>?_⟩⟩
    by_cases h:m<i
    ·exact hno m h
    ·have:m=i:=by omega
     subst this
     exact hf
   |some r=>
    rw[hf] at hv
    obtain⟨p,us,rfl,hp,hO⟩:=hv
    refine⟨_,rfl,true,rfl,iteT ⟨_,rfl,k p us H6 t6 hp ?_⟩⟩
    have e:(List.range ks.length).findSome? (fun m=>fGr (chM ks most) m (nums ks.length))=some r:=zNe (i:=i) (g:=i) (by simp[hi]) hf fun m hm=>by
     rw[List.take_range] at hm
     have:=List.mem_range.mp hm
     exact hno m (by omega)
    unfold zPa
    rw[e]
    exact hO
  ·rintro σ H5 ⟨v5,v6,rfl,s5,hno⟩
   have hln5:=(s4.trans s5) _ _ hln3
   refine⟨_,rfl,ln,rfl,⟨_,SqL.of hln5⟩,fun D2 hD2=>?_⟩
   refine zAa (K:=K) (a:=ln) (xs:=(nums ks.length).map V.int) (fun i ys H6=>GAt H6 ys (((nums ks.length).take i).map fun j=>[j])/\Same H5 H6/\H6 D2=some (.lst ys)) (Nat.le_of_lt (zv (by rw[List.length_map];omega))) ⟨True.intro,(Same.refl H5).zao hD2,zc⟩
    (fun i ys H6 h=>by rw[h.1.len,List.length_map,List.length_take];exact Nat.min_le_left _ _) (fun i ys H6 h=>SqL.of (h.2.1 _ _ hln5)) ?_ ?_
   ·rintro i ys H6 x N M hx ⟨hG6,s6,hD6⟩ hN hM
    rw[List.getElem?_map] at hx
    cases et:(nums ks.length)[i]? with
    |none=>rw[et] at hx;cases hx
    |some t=>
     rw[et] at hx
     cases hx
     refine⟨_,rfl,(by show 1<=sizeLine;decide),fun q hq=>?_⟩
     have s7:=(Same.refl H6).zao (o:=.tup [.int t]) hq
     have hD7:=s7 _ _ hD6
     have ts:zha (upd H6 q (.tup [.int t])) (upd (upd H6 q (.tup [.int t])) D2 (.lst (ys++[.ref q]))):=zha.zeo (fun _ _ e=>e) hD7
     refine hN _ _ hD7 ⟨?_,(s6.trans s7).zao hD2,zc⟩
     rw[List.take_add_one,et,List.map_append]
     exact((hG6.zro s7.tups).zro ts).app ⟨⟨q,rfl,ts _ _ zc⟩,True.intro⟩
   ·rintro ys6 H6 ⟨hG6,s6,hD6⟩
    rw[List.length_map,List.take_of_length_le (Nat.le_refl _)] at hG6
    refine⟨D2,_,rfl,.inl ⟨SqL.of hD6,fun t ht=>?_⟩⟩
    have s7:=(Same.refl H6).zao (o:=.tup ys6) ht
    refine k t ys6 _ (((s1.trans t4).trans (s5.trans s6)).trans s7) zc ?_
    unfold zPa
    rw[zPc hno]
    exact hG6.zro s7.tups
end
def FsAt (H:Hp)(us:List V)(fs:List (List (Str×Str))):Prop:=us.length=fs.length/\∀(i:Nat)(es:List (Str×Str)),fs[i]?=some es->∃p,us[i]?=some (.ref p)/\FoAt H p es
theorem FoAt.zro {H H':Hp}{p:Addr}{es:List (Str×Str)}(h:FoAt H p es)(s:zha H H'):FoAt H' p es:=by
 obtain⟨vs,h1,h2⟩:=h
 exact⟨vs,s _ _ h1,h2.zro s⟩
theorem FsAt.zro {H H':Hp}{us:List V}{fs:List (List (Str×Str))}(h:FsAt H us fs)(s:zha H H'):FsAt H' us fs:=
 ⟨h.1,fun i es he=>by
  obtain⟨p,h1,h2⟩:=h.2 i es he
  exact⟨p,h1,h2.zro s⟩⟩
theorem FsAt.nil {H:Hp}:FsAt H [] []:=⟨rfl,fun i es h=>by simp at h⟩
theorem FsAt.snoc {H:Hp}{us:List V}{fs:List (List (Str×Str))}{p:Addr}{es:List (Str×Str)}(h:FsAt H us fs)(hp:FoAt H p es):FsAt H (us++[.ref p]) (fs++[es]):=by
 refine⟨by rw[List.length_append,List.length_append,h.1];rfl,fun i e he=>?_⟩
 by_cases hi:i<fs.length
 ·rw[List.getElem?_append_left hi] at he
  obtain⟨q,h1,h2⟩:=h.2 i e he
  exact⟨q,by rw[List.getElem?_append_left (by rw[h.1];exact hi)];exact h1,h2⟩
 ·rw[List.getElem?_append_right (by omega)] at he
  have:i=fs.length:=by
   have:=(List.getElem?_eq_some_iff.mp he).1
   simp at this
   omega
  subst this
  rw[Nat.sub_self] at he
  cases he
  exact⟨p,by rw[List.getElem?_append_right (by rw[h.1];exact Nat.le_refl _),h.1,Nat.sub_self];rfl,hp⟩
def fOf (ks:List (List Str))(g:List Int):List (Str×Str):=(zRa (rIn ks g)).getD []
def zed (ks:List (List Str))(most:Int):List (List (Str×Str)):=(zPa ks most).map (fOf ks)
theorem zQc {ks:List (List Str)}{most:Int}{g:List Int}(h:GGood ks most g):zRa (rIn ks g)=some (fOf ks g):=by
 obtain⟨es,h1,_⟩:=h.wr
 unfold zBb at h1
 unfold fOf
 cases hm:zRa (rIn ks g) with
 |none=>rw[hm] at h1;cases h1
 |some es'=>rfl
def spFo:Sp:=fun vs H Q _=>∃(a:Addr)(qs:List Addr)(rows:List (List Str))(most:Int),vs=[.ref a,.int most]/\H a=some (.tup (qs.map V.ref))/\zT H qs rows/\rows.length<=64/\(∀r∈rows,zxa r)/\(unl rows).length<=8/\0<=most∧
 ∀(p:Addr)(us:List V)(H':Hp),Same H H'->H' p=some (.tup us)->FsAt H' us (zed (unl rows) most)->Q (.ref p) H'
section
variable {P:Program}{w:World}{K:W.Frag}{mg:zT3}{base:Heap}
theorem scFo:FnScope ["rows","most","known"] ["rows","most"] (zb sFo):=.of (by decide +kernel)
def zpk:Scope:=⟨.function,[(".0",.local),("group",.local),("least_form",.globalImplicit),("rows_in",.globalImplicit),("known",.free)],false,false,[]⟩
theorem zBi:BlkScope (zb sFo) ["rows","most","known"] ["group"] ["known"] [2] zpk:=.of (by decide +kernel)
theorem zwn {its itg:Array Value}(F:FunD K "forms_of" "forms_of" sFo f fd its)(T:Txt mg)
  (FU:Fun K "unlike" "unlike" sUn fU fdU)(bU:Binds K fdU ["rows"] [])(gU:mg "unlike"=some (.ref fU))
  (FG:FunD K "groups" "groups" sGr fG fdG itg)(bG:Binds K fdG ["rows","most"] [])(gG:mg "groups"=some (.ref fG))(GG:FnOk P w K mg base CX0 20 fG fdG ["rows","most"] spGr)
  (FL:Fun K "least_form" "least_form" sLf fL fdL)(bL:Binds K fdL ["rows"] [])(gL:mg "least_form"=some (.ref fL))(GL:FnOk P w K mg base CX0 7 fL fdL ["rows"] zsh)
  (FR:Fun K "rows_in" "rows_in" sRi fR fdR)(bR:Binds K fdR ["group","known"] [])(gR:mg "rows_in"=some (.ref fR)):
  FnOk P w K mg base CX0 21 f fd ["rows","most"] spFo:=by
 have GU:FnOk P w K mg base CX0 1 fU fdU ["rows"] spUn:=zvi FU T
 have GR:FnOk P w K mg base CX0 1 fR fdR ["group","known"] spRi:=zkk FR
 refine F.ok scFo (fun vs H Q E h=>?_) (fun cdv A outer s H vs Q E hr h=>?_)
 ·obtain⟨a,qs,rows,most,rfl,_⟩:=h
  rfl
 ·obtain⟨a,qs,rows,most,rfl,ha,hR,h64,hok,h8,hm0,k⟩:=h
  have hr1:Room 1 _:=hr.mono (by decide)
  have hr7:Room 7 _:=hr.mono (by decide)
  refine⟨_,ze (zH (i:=2) scFo.nd rfl (Or.inr rfl) (zi GU hr1 rfl gU FU.kp bU .nil zw (za (pv 0) zd)))
   (zf (zp (zS zL (by rfl) T.tuple PyProof.Rows.boot_tuple (za (zWa zBi rfl rfl rfl (zkc (zi GG hr rfl gG FG.kp bG .nil zw (za (pv 0) (za (pv 1) zd)))) (fun fp C s1 H1=>zC (i:=0) zBi.nd rfl (Or.inl rfl)) (fun fp C s1 H1=>zla)
    (fun fp C s1 H1=>zi GL hr7 rfl gL FL.kp bL .nil zw (za (zi GR hr1 rfl gR FR.kp bR .nil zw (za (pv 0) (za (pv 1) zd))) zd))) zd)))),?_⟩
  refine⟨_,rfl,a,qs,rows,rfl,ha,hR,by omega,fun pk qk H1 s1 hpk hRk=>?_⟩
  refine⟨_,rfl,_,rfl,a,qs,rows,most,rfl,s1 _ _ ha,hR.zro s1.tups,h64,hok,h8,fun pg us H2 s2 hpg hG=>?_⟩
  have hkok:∀r∈unl rows,zxa r:=fun r hr'=>hok r ((zMb r rows).mp hr')
  have PP:=zOb (ks:=unl rows) hm0 (zre rows)
  unfold zed at k
  generalize zPa (unl rows) most=gs at hG PP k
  generalize unl rows=ks at h8 k hRk hkok PP
  have t2:=s1.trans s2
  have hul:=hG.len
  have gsl:gs.length<=8:=by
   have e1:gs.length<=gs.flatten.length:=by
    have:∀l:List (List Int),(∀g∈l,g≠[])->l.length<=l.flatten.length:=by
     intro l
     induction l with
     |nil=>intro _;exact Nat.le_refl _
     |cons g l ih=>
      intro hl
      have h1:=ih fun x hx=>hl x (List.mem_cons_of_mem _ hx)
      have h2:1<=g.length:=by
       cases g with
       |nil=>exact absurd rfl (hl [] List.mem_cons_self)
       |cons b g=>simp
      rw[List.flatten_cons,List.length_append,List.length_cons]
      omega
    exact this gs fun g hg=>(PP.good g hg).ok.ne
   have e2:=PP.perm.length_eq
   have e3:(nums ks.length).length=ks.length:=by unfold nums;rw[List.length_map,List.length_range]
   omega
  refine⟨pg,rfl,⟨_,SqT.of hpg⟩,fun D hD=>?_⟩
  refine zee (K:=K) (a:=pg) (xs:=us) (fun j ys H3=>FsAt H3 ys ((gs.take j).map (fOf ks))/\Same H2 H3/\H3 D=some (.lst ys)) (Nat.le_of_lt (zv (by omega))) ⟨FsAt.nil,(Same.refl H2).zao hD,zc⟩
   (fun j ys H3 h=>by rw[h.1.1,List.length_map,List.length_take];exact Nat.min_le_left _ _) (fun j ys H3 h=>SqT.of (h.2.1 _ _ hpg)) ?_ ?_
  ·rintro j ys H3 x N M hx ⟨hF,s3,hD3⟩ hN hM
   obtain⟨g,q,eg,rfl,hq⟩:=hG.get hx
   have gg:=PP.good g (List.mem_of_getElem? eg)
   have t3:=t2.trans s3
   have hgl:=gg.ok.len
   refine⟨_,rfl,_,rfl,q,pk,g,qk,ks,rfl,s3 _ _ hq,(s2.trans s3) _ _ hpk,hRk.zro (s2.trans s3).tups,by omega,gg.ok.ran,fun l0 qs0 H4 s4 hl0 hR0=>?_⟩
   have hri:(rIn ks g).length=g.length:=by unfold rIn;rw[List.length_map]
   have hg1:1<=g.length:=by
    cases g with
    |nil=>exact absurd rfl gg.ok.ne
    |cons x g=>simp
   refine⟨l0,qs0,rIn ks g,rfl,hl0,hR0,by omega,by omega,zyh hkok gg.ok.ran,fun v H5 s5 hv=>?_⟩
   rw[zQc gg] at hv
   obtain⟨p,vs,rfl,hp,hP⟩:=hv
   have s45:=s4.trans s5
   have hD5:=s45 _ _ hD3
   have ts:zha H5 (upd H5 D (.lst (ys++[.ref p]))):=zha.zeo (fun _ _ e=>e) hD5
   refine hN _ H5 hD5 ⟨?_,(s3.trans s45).zao hD,zc⟩
   rw[List.take_add_one,eg,List.map_append]
   exact((hF.zro s45.tups).zro ts).snoc (FoAt.zro ⟨vs,hp,hP⟩ ts)
  ·rintro ys H3 ⟨hF,s3,hD3⟩
   rw[hul,List.take_of_length_le (Nat.le_refl _)] at hF
   refine⟨D,_,rfl,.inl ⟨SqL.of hD3,fun t ht=>?_⟩⟩
   have s4:=(Same.refl H3).zao (o:=.tup ys) ht
   exact k t ys _ ((t2.trans s3).trans s4) zc (hF.zro s4.tups)
end
end GL
namespace SL
open PySem L2
def badM (L:List Str):Option Nat:=L.findIdx? fun y=>(zGa y).isNone
def zTa (L:List Str):Option Nat:=match badM L with
 |some i=>some i
 |none=>if L.length > 8 then some 8 else none
abbrev zh (z:Str):List Str:=Txt.split z (Str.ofString " ")
def spWd (CN:Addr):Sp:=fun vs H Q E=>∃z:Str,vs=[.str z]/\Tx 1000 z/\(∀i,zTa (zh z)=some i->∀d H',Same H H'->H' d=some (.xd [("at",.int (i:Int))])->E (.ref CN) (some d) H')/\(zTa (zh z)=none->∀p H',Same H H'->H' p=some (.tup ((zh z).map V.str))->Q (.ref p) H')
section
variable {P:Program}{w:World}{K:W.Frag}{mg:zT3}{base:Heap}{CN:Addr}{u8:Value}
theorem scRi:FnScope ["self","at"] ["self","at"] (zb sRi):=.of (by decide +kernel)
theorem zxn (F:Fun K "__init__" "NoRow.__init__" sRi f fd)(hS:zFa K CN "at"=true):FnOk P w K mg base CX0 1 f fd ["self","at"] (spNi CN):=by
 refine F.ok scRi (fun vs H Q E h=>?_) (fun cdv A outer s H vs Q E hr h=>?_)
 ·obtain⟨a,x,rfl,_⟩:=h
  rfl
 ·obtain⟨a,x,rfl,ha,k⟩:=h
  exact⟨_,zf (zyd (pv 0) (pv 1) rfl),_,rfl,_,rfl,a,CN,rfl,ha,hS,fun d hd hn=>k d hd hn⟩
theorem scWd:FnScope ["text","pieces","at","piece"] ["text"] (zb sWd):=.of (by decide +kernel)
theorem zUl (F:Fun K "words_of" "words_of" sWd f fd)(len:mg "len"=none)(enu:mg "enumerate"=none)(tup:mg "tuple"=none)(g8:mg "MOST_WORDS"=some u8)(r8:RelV (.int 8) u8)
  (FS:Fun K "sort_of" "sort_of" sSo fS dS)(bS:Binds K dS ["text"] [])(gS:mg "sort_of"=some (.ref fS))(GS:FnOk P w K mg base CX0 5 fS dS ["text"] spSo)
  (M:MkX K CN fI)(gN:mg "NoRow"=some (.ref CN))(bI:Binds K dI ["self","at"] [])(GI:FnOk P w K mg base CX0 1 fI dI ["self","at"] (spNi CN))(rz:zcb K CN=true):FnOk P w K mg base (CX1 P w) 6 f fd ["text"] (spWd CN):=by
 refine F.okX scWd (fun vs H Q E h=>?_) (fun cdv A outer s H vs Q E hr h=>?_)
 ·obtain⟨z,rfl,_⟩:=h
  rfl
 ·obtain⟨z,rfl,tz,kE,kQ⟩:=h
  have hr2:Room 2 _:=hr.mono (by decide)
  refine⟨_,ze (zH (i:=1) scWd.nd rfl (Or.inl rfl) (zQa PySem.F.plainAttrs_str PySem.F.slot_str_split PySem.F.type_str_split zVb (pv 0) (za zx zd)))
   (ze (zta PassesOwn.leaving rfl (zWh rfl enu (za (pv 1) zd)) (zUc (n:=2) rfl (zpa (zC (i:=2) scWd.nd rfl (Or.inl rfl)) (zpa (zC (i:=3) scWd.nd rfl (Or.inl rfl)) zdc)))
    (zf (zM (zyc (zQd (zi GS hr rfl gS FS.kp bS .nil zw (za (pv 3) zd)))) (zf (zrb rfl zYa (zXb M GI hr2 rfl gN bI .nil zw (za (pv 2) zd)))) zt)))
   (ze (zM (zr zld (zq zo (by rfl) len PySem.boot_len (za (pv 1) zd)) (zra (v:=.int 8) (by rfl) g8 r8) (zu _)) (zf (zrb rfl zYa (zXb M GI hr2 rfl gN bI .nil zw (za (zra (v:=.int 8) (by rfl) g8 r8) zd)))) zt)
   (zf (zp (zS zL (by rfl) tup PyProof.Rows.boot_tuple (za (pv 1) zd)))))),?_⟩
  have l1:=split_len z (Str.ofString " ")
  have l2:=zob z (Str.ofString " ")
  have l3:=tz.1
  have big:1002<=sizeLine:=by decide
  refine⟨_,rfl,rfl,z,_,rfl,rfl,rfl,zza tz (by decide),by omega,by omega,fun p hp=>?_⟩
  have tl:∀y∈zh z,Tx 1000 y:=fun y hy=>by
   unfold zh at hy
   rw[show Str.ofString " "=(⟨#[32]⟩:Str) from rfl,zKa _ (by decide)] at hy
   exact zYg 32 tz y hy
  change ∀y∈Txt.split z (Str.ofString " "),Tx 1000 y at tl
  generalize hL:Txt.split z (Str.ofString " ")=L at hp l1 tl ⊢
  rw[show zh z=L from hL] at kE kQ
  have raise_ok:∀(i:Nat)(H2:Hp)(E0':XK),Same H H2->zTa L=some i->∀a,H2 a=none->spNi CN (.ref a::([V.int (i:Int)]++[])) (upd H2 a (.ext (zaa a CN none))) (fun v H3=>v=.non/\∃a' C dd,V.ref a=.ref a'/\H3 a'=some (.ext (zaa a' C dd))/\H a'=none/\zcb K C=true/\E (.ref C) dd (untr H3 a')) E0':=by
   intro i H2 E0' s2 hi a ha
   have haH:H a=none:=s2.zoo ha
   refine⟨a,_,rfl,zc,fun d hd hn=>⟨rfl,a,CN,some d,rfl,by rw[zy (Ne.symm hn),zc],haH,rz,?_⟩⟩
   have hd2:H2 d=none:=by rw[zy hn] at hd;exact hd
   refine kE i hi d _ (fun b o e=>?_) ?_
   ·have nb:b≠a:=zJ e haH
    rw[zVa nb,zy (zJ (s2 _ _ e) hd2),zy nb,zy nb]
    exact s2 _ _ e
   ·rw[zVa hn,zc]
  have s1:=(Same.refl H).zao (o:=.lst (L.map V.str)) hp
  have g1:upd H p (.lst (L.map V.str)) p=some (.lst (L.map V.str)):=zc
  generalize upd H p (.lst (L.map V.str))=H1 at s1 g1
  refine⟨_,rfl,p,rfl,⟨_,SqL.of g1⟩,?_⟩
  refine zNg (K:=K) (a:=p) (xs:=L.map V.str) (fun i σ H'=>∃(v2 v3:Option V),σ=[some (.str z),some (.ref p),v2,v3]/\Same H1 H'/\∀j y,j<i->L[j]?=some y->(zGa y).isNone=false) ⟨none,none,rfl,Same.refl H1,fun j y hj=>absurd hj (Nat.not_lt_zero _)⟩ (fun i σ H' _ ⟨_,_,_,h,_⟩=>SqL.of (h _ _ g1)) ?_ ?_
  ·rintro i x σ H2 q hx ⟨v2,v3,rfl,s2,hg⟩ hq
   rw[List.getElem?_map] at hx
   cases e:L[i]? with
   |none=>rw[e] at hx;cases hx
   |some y=>
    rw[e] at hx
    cases hx
    have s3:=(Same.refl H2).zao (o:=.tup [V.int (i:Int),V.str y]) hq
    refine⟨q,_,rfl,SqT.of zc,rfl,_,_,rfl,_,_,rfl,rfl,?_⟩
    refine⟨_,rfl,y,rfl,tl y (List.mem_of_getElem? e),fun H4 s4=>⟨_,rfl,?_⟩⟩
    have t4:=(s2.trans s3).trans s4
    cases es:zGa y with
    |none=>
     refine zJb (by decide) ?_
     refine⟨_,rfl,(by show 1<=sizeLine;decide),raise_ok i H4 _ (s1.trans t4) ?_⟩
     obtain⟨hlt,he⟩:=List.getElem?_eq_some_iff.mp e
     unfold zTa badM
     rw[List.findIdx?_eq_some_iff_getElem.mpr ⟨hlt,by rw[he,es];rfl,fun j hj=>?_⟩]
     have:=hg j L[j] hj (by simp)
     simp[this]
    |some o=>
     refine zZb (by show decide (V.str o.str=V.non)=false;exact decide_eq_false (fun z=>by cases z)) ?_
     refine⟨_,_,rfl,t4,fun j y' hj hy=>?_⟩
     by_cases hji:j=i
     ·subst hji
      rw[e] at hy
      cases hy
      rw[es]
      rfl
     ·exact hg j y' (by omega) hy
  ·rintro σ H2 ⟨v2,v3,rfl,s2,hg⟩
   rw[List.length_map] at hg
   have hb:badM L=none:=by
    unfold badM
    rw[List.findIdx?_eq_none_iff]
    intro y hy
    obtain⟨j,hj,he⟩:=List.mem_iff_getElem.mp hy
    exact hg j y hj (by simp[hj,he])
   have t2:=s1.trans s2
   refine⟨_,rfl,p,_,rfl,.inl (SqL.of (s2 _ _ g1)),_,_,rfl,rfl,_,rfl,?_⟩
   by_cases h8:L.length > 8
   ·refine zJb (decide_eq_true (by rw[List.length_map];omega)) ?_
    refine⟨(by show 1<=sizeLine;decide),raise_ok 8 H2 _ t2 ?_⟩
    unfold zTa
    rw[hb]
    exact if_pos h8
   ·refine zZb (decide_eq_false (by rw[List.length_map];omega)) ?_
    refine⟨_,rfl,p,_,rfl,.inl ⟨SqL.of (s2 _ _ g1),fun y hy=>?_⟩⟩
    refine kQ ?_ y _ (t2.trans ((Same.refl H2).zao hy)) zc
    unfold zTa
    rw[hb]
    exact if_neg h8
end
def PtOk:Pt->Prop
 |.gap o=>∃s,o=some s
 |.word z=>Wd z
theorem zqc {ps:List Pt}{r:List Str}:misM ps r=none↔ps.length=r.length/\∀i,i<ps.length->zea ps r i=true:=by
 constructor
 ·intro h
  have hl:=zJe h
  refine⟨hl,fun i hi=>?_⟩
  unfold misM zNc at h
  rw[List.head?_eq_none_iff,List.append_eq_nil_iff,List.filter_eq_nil_iff] at h
  have q:=h.1 i (List.mem_range.mpr (by omega))
  simpa using q
 ·rintro⟨hl,h⟩
  rw[znh fun j hj=>h j (by omega),if_pos hl]
def FsAt (H:Hp)(vs:List V)(fs:List (List Pt)):Prop:=vs.length=fs.length/\∀(i:Nat)(ps:List Pt),fs[i]?=some ps->∃q us,vs[i]?=some (.ref q)/\H q=some (.tup us)/\FpAt H us ps
theorem FsAt.zro {H H':Hp}{vs:List V}{fs:List (List Pt)}(h:FsAt H vs fs)(s:zha H H'):FsAt H' vs fs:=⟨h.1,fun i ps e=>by
 obtain⟨q,us,h1,h2,h3⟩:=h.2 i ps e
 exact⟨q,us,h1,s _ _ h2,h3.zro s⟩⟩
def FmOk (fs:List (List Pt)):Prop:=fs.length<=8/\∀ps∈fs,ps.length<=8/\∀p∈ps,PtOk p
def firstM (fs:List (List Pt))(r:List Str):Option Nat:=fs.findIdx? fun ps=>(misM ps r).isNone
def spFx:Sp:=fun vs H Q _=>∃(f a:Addr)(vf:List V)(fs:List (List Pt))(r:List Str),vs=[.ref f,.ref a]/\H f=some (.tup vf)/\FsAt H vf fs/\FmOk fs/\H a=some (.tup (r.map V.str))/\r.length<=64/\(∀z∈r,Tx 1000 z)/\∀H',Same H H'->Q (oN (firstM fs r)) H'
section
variable {P:Program}{w:World}{K:W.Frag}{mg:zT3}{base:Heap}
theorem scFx:FnScope ["forms","row","number","form"] ["forms","row"] (zb sFx):=.of (by decide +kernel)
theorem zyn (F:Fun K "first_writing" "first_writing" sFx f fd)(enu:mg "enumerate"=none)
  (FW:Fun K "writes" "writes" sWr fW dW)(bW:Binds K dW ["form","row"] [])(gW:mg "writes"=some (.ref fW))(GW:FnOk P w K mg base CX0 8 fW dW ["form","row"] spWr):FnOk P w K mg base CX0 9 f fd ["forms","row"] spFx:=by
 refine F.ok scFx (fun vs H Q E h=>?_) (fun cdv A outer s H vs Q E hr h=>?_)
 ·obtain⟨f,a,vf,fs,r,rfl,_⟩:=h
  rfl
 ·obtain⟨f,a,vf,fs,r,rfl,hf,hF,hok,ha,rl,rt,k⟩:=h
  refine⟨_,ze (zta PassesOwn.never rfl (zEg rfl enu (za (pv 0) zd)) (zUc (n:=2) rfl (zpa (zC (i:=2) scFx.nd rfl (Or.inl rfl)) (zpa (zC (i:=3) scFx.nd rfl (Or.inl rfl)) zdc)))
    (zf (zM (zba (zi GW hr rfl gW FW.kp bW .nil zw (za (pv 3) (za (pv 1) zd)))) (zf (zp (pv 2))) zt)))
   (zf (zp zia)),?_⟩
  refine⟨_,rfl,f,rfl,⟨_,SqT.of hf⟩,?_⟩
  refine zQh (K:=K) (a:=f) (xs:=vf) (fun j σ H2=>(∃(v2 v3:Option V),σ=[some (.ref f),some (.ref a),v2,v3])/\Same H H2/\∀i ps,i<j->fs[i]?=some ps->(misM ps r).isNone=false)
   ⟨⟨none,none,rfl⟩,Same.refl H,fun i ps h _=>by omega⟩ (fun j σ H2 _ h=>SqT.of (h.2.1 _ _ hf)) ?_ ?_
  ·rintro j x σ H2 p hx ⟨⟨v2,v3,rfl⟩,s2,hno⟩ hp
   have hj:j<fs.length:=by rw[<- hF.1];exact(List.getElem?_eq_some_iff.mp hx).1
   have ej:fs[j]?=some fs[j]:=by simp
   obtain⟨q,us,e1,e2,e3⟩:=hF.2 j _ ej
   rw[hx] at e1
   cases e1
   have hm:=List.mem_of_getElem? ej
   generalize fs[j]=ps at ej e3 hm
   have s3:Same H (upd H2 p (.tup [.int (j:Nat),.ref q])):=s2.zao (s2.free hp)
   refine⟨p,_,rfl,SqT.of zc,rfl,_,_,rfl,_,_,rfl,rfl,?_⟩
   have h8:=(hok.2 ps hm).1
   refine⟨_,rfl,_,rfl,q,a,us,ps,r,rfl,s3 _ _ e2,e3.zro s3.tups,by omega,s3 _ _ ha,by omega,fun z hz=>rt z hz,fun H4 s4=>⟨_,rfl,?_⟩⟩
   have s5:=s3.trans s4
   cases q':(misM ps r).isNone with
   |true=>
    refine iteT ⟨_,rfl,?_⟩
    have e:firstM fs r=some j:=by
     unfold firstM
     rw[List.findIdx?_eq_some_iff_getElem]
     refine⟨hj,?_,fun i hi=>?_⟩
     ·have:fs[j]=ps:=by rw[List.getElem?_eq_getElem hj] at ej;exact Option.some.inj ej
      rw[this]
      exact q'
     ·rw[hno i fs[i] hi (by simp)]
      decide
    have:=k H4 s5
    rw[e] at this
    exact this
   |false=>
    refine iteF ⟨⟨_,_,rfl⟩,s5,fun i ps' hi he=>?_⟩
    by_cases h:i<j
    ·exact hno i ps' h he
    ·have:i=j:=by omega
     subst this
     rw[ej] at he
     cases he
     exact q'
  ·rintro σ H2 ⟨⟨v2,v3,rfl⟩,s2,hno⟩
   have e:firstM fs r=none:=by
    unfold firstM
    rw[List.findIdx?_eq_none_iff]
    intro ps hps
    obtain⟨i,hi,rfl⟩:=List.getElem_of_mem hps
    exact hno i _ (by rw[hF.1];exact hi) (by simp)
   have:=k H2 s2
   rw[e] at this
   exact this
end
end SL
namespace GL
open PySem L2 SL
def soOf (x:Str):Option So:=[So.num,So.nam,So.lis,So.mar].find? fun s=>decide (s.str=x)
theorem zHd (s:So):soOf s.str=some s:=by
 cases s<;>decide +kernel
def toP (e:Str×Str):Pt:=if e.1=sGap then .gap (soOf e.2) else .word e.2
def EOk (e:Str×Str):Prop:=(e.1=zBa/\Wd e.2)\/(e.1=sGap/\∃s:So,e.2=s.str)
theorem EOk.at {e:Str×Str}(h:EOk e){H:Hp}{q:Addr}(hq:H q=some (.tup [.str e.1,.str e.2])):SL.PtAt H q (toP e):=by
 obtain⟨x,y⟩:=e
 rcases h with⟨h1,h2⟩|⟨h1,s,h2⟩
 ·have h1:x=zBa:=h1
  subst h1
  unfold toP
  rw[if_neg (show ¬zBa=sGap by decide +kernel)]
  exact hq
 ·have h1:x=sGap:=h1
  have h2:y=s.str:=h2
  subst h1
  subst h2
  unfold toP
  rw[if_pos rfl,zHd]
  exact hq
theorem EOk.ok {e:Str×Str}(h:EOk e):PtOk (toP e):=by
 obtain⟨x,y⟩:=e
 rcases h with⟨h1,h2⟩|⟨h1,s,h2⟩
 ·have h1:x=zBa:=h1
  subst h1
  unfold toP
  rw[if_neg (show ¬zBa=sGap by decide +kernel)]
  exact h2
 ·have h1:x=sGap:=h1
  have h2:y=s.str:=h2
  subst h1
  subst h2
  unfold toP
  rw[if_pos rfl,zHd]
  exact⟨s,rfl⟩
theorem zzn {H:Hp}{vs:List V}{es:List (Str×Str)}(h:zOa H vs (es.map some))(ok:∀e∈es,EOk e):FpAt H vs (es.map toP):=by
 refine⟨by rw[h.len,List.length_map,List.length_map],fun i p e=>?_⟩
 rw[List.getElem?_map] at e
 cases he:es[i]? with
 |none=>rw[he] at e;cases e
 |some e'=>
  rw[he] at e
  cases e
  obtain⟨q,h1,h2⟩:=FoAt.get h he
  exact⟨q,h1,(ok e' (List.mem_of_getElem? he)).at h2⟩
theorem zAn {H:Hp}{us:List V}{fs:List (List (Str×Str))}(h:FsAt H us fs)(ok:∀es∈fs,∀e∈es,EOk e):SL.FsAt H us (fs.map (·.map toP)):=by
 refine⟨by rw[h.1,List.length_map],fun i ps e=>?_⟩
 rw[List.getElem?_map] at e
 cases he:fs[i]? with
 |none=>rw[he] at e;cases e
 |some es=>
  rw[he] at e
  cases e
  obtain⟨p,h1,vs,h2,h3⟩:=h.2 i es he
  exact⟨p,vs,h1,h2,zzn h3 (ok es (List.mem_of_getElem? he))⟩
theorem zqk {f:Str}{zs:List Str}{e:Str×Str}(hf:Wd f)(h:zCd f zs=some e):EOk e:=by
 unfold zCd at h
 split at h
 ·cases h
  exact .inl ⟨rfl,hf⟩
 ·split at h
  ·cases h
   exact .inr ⟨rfl,_,rfl⟩
  ·cases h
theorem zrk {rows:List (List Str)}{es:List (Str×Str)}(hne:1<=rows.length)(hok:∀r∈rows,zxa r)(h:zRa rows=some es):es.length<=8/\∀e∈es,EOk e:=by
 unfold zRa at h
 split at h
 ·rename_i hl
  split at h
  ·cases h
  ·rename_i hn
   cases h
   have hL:∀r∈rows,r.length=(rows.headD []).length:=fun r hr=>of_decide_eq_true (List.all_eq_true.mp hl r hr)
   obtain⟨r0,rest,rfl⟩:∃r0 rest,rows=r0::rest:=by
    cases rows with
    |nil=>simp at hne
    |cons a b=>exact⟨a,b,rfl⟩
   have o0:=hok r0 List.mem_cons_self
   refine⟨?_,fun e he=>?_⟩
   ·refine Nat.le_trans (List.length_filterMap_le _ _) ?_
    unfold zCa
    rw[List.length_map,List.length_range]
    exact o0.2.1
   ·obtain⟨x,hx,ex⟩:=List.mem_filterMap.mp he
    have ex:x=some e:=ex
    subst ex
    obtain⟨p,hp,q⟩:=List.mem_map.mp hx
    have hp:=List.mem_range.mp hp
    refine zqk ?_ q
    exact o0.2.2 _ (zKe hp)
 ·cases h
theorem zId {ks:List (List Str)}{most:Int}(hm:0<=most)(nd:ks.Nodup)(h8:ks.length<=8)(hok:∀r∈ks,zxa r):(zed ks most).length<=8/\∀es∈zed ks most,es.length<=8/\∀e∈es,EOk e:=by
 have PP:=zOb (ks:=ks) hm nd
 unfold zed
 generalize zPa ks most=gs at PP
 refine⟨?_,fun es he=>?_⟩
 ·rw[List.length_map]
  have e1:∀l:List (List Int),(∀g∈l,g≠[])->l.length<=l.flatten.length:=by
   intro l
   induction l with
   |nil=>intro _;exact Nat.le_refl _
   |cons g l ih=>
    intro hl
    have h1:=ih fun x hx=>hl x (List.mem_cons_of_mem _ hx)
    have h2:1<=g.length:=by
     cases g with
     |nil=>exact absurd rfl (hl [] List.mem_cons_self)
     |cons b g=>simp
    rw[List.flatten_cons,List.length_append,List.length_cons]
    omega
  have e2:=e1 gs fun g hg=>(PP.good g hg).ok.ne
  have e3:=PP.perm.length_eq
  have e4:(nums ks.length).length=ks.length:=by unfold nums;rw[List.length_map,List.length_range]
  omega
 ·obtain⟨g,hg,rfl⟩:=List.mem_map.mp he
  have gg:=PP.good g hg
  have hg1:1<=(rIn ks g).length:=by
   unfold rIn
   rw[List.length_map]
   cases g with
   |nil=>exact absurd rfl gg.ok.ne
   |cons x g=>simp
  exact zrk hg1 (zyh hok gg.ok.ran) (zQc gg)
end GL
namespace SL
open PySem L2
def rowM (z:Str):Option (List Str):=if (zTa (zh z)).isSome then none else some (zh z)
def RwV (H:Hp)(v:V):Option (List Str)->Prop
 |none=>v=.non
 |some r=>∃p,v=.ref p/\H p=some (.tup (r.map V.str))
def entM (fs:List (List Pt))(z:Str):Nat×List Str:=match rowM z with
 |none=>(8,[])
 |some r=>match firstM fs r with
  |none=>(8,[])
  |some i=>(i,zoa (fs.getD i []) r r.length)
theorem zsf {z:Str}(h:GL.zxa (zh z)):zTa (zh z)=none:=by
 unfold zTa
 have e:badM (zh z)=none:=by
  unfold badM
  rw[List.findIdx?_eq_none_iff]
  intro y hy
  rw[(h.2.2 y hy).sort]
  rfl
 rw[e]
 exact if_neg (by have:=h.2.1;omega)
theorem zcc {z:Str}(tz:Tx 1000 z):∀y∈zh z,Tx 1000 y:=fun y hy=>by
 unfold zh at hy
 rw[show Str.ofString " "=(⟨#[32]⟩:Str) from rfl,zKa _ (by decide)] at hy
 exact zYg 32 tz y hy
theorem zJd {z:Str}{r:List Str}(h:rowM z=some r):r=zh z/\zTa (zh z)=none/\r.length<=8:=by
 unfold rowM at h
 cases hb:zTa (zh z) with
 |some i=>rw[hb] at h;cases h
 |none=>
  rw[hb] at h
  cases h
  refine⟨rfl,rfl,?_⟩
  unfold zTa at hb
  cases hm:badM (zh z) with
  |some i=>rw[hm] at hb;cases hb
  |none=>
   rw[hm] at hb
   by_cases c:(zh z).length > 8
   ·have hb:(if (zh z).length > 8 then some 8 else none:Option Nat)=none:=hb
    rw[if_pos c] at hb
    cases hb
   ·omega
def zCi:Sp:=fun vs H Q _=>∃z:Str,vs=[.str z]/\Tx 1000 z/\∀(v:V)(H':Hp),Same H H'->RwV H' v (rowM z)->Q v H'
def spEo:Sp:=fun vs H Q _=>∃(f:Addr)(vf:List V)(fs:List (List Pt))(z:Str),vs=[.ref f,.str z]/\H f=some (.tup vf)/\FsAt H vf fs/\FmOk fs/\Tx 1000 z∧
 ∀(p g:Addr)(H':Hp),Same H H'->H' p=some (.tup [.int ((entM fs z).1:Nat),.ref g])->H' g=some (.tup ((entM fs z).2.map V.str))->Q (.ref p) H'
section
variable {P:Program}{w:World}{K:W.Frag}{mg:zT3}{base:Heap}{CN CF:Addr}{u8:Value}
theorem zBn:FnScope ["text"] ["text"] (zb sRof):=.of (by decide +kernel)
theorem zVl (F:Fun K "row_of" "row_of" sRof f fd)(gN:mg "NoRow"=some (.ref CN))(tN:zqb K CN (.ref CN)=true)
  (FW:Fun K "words_of" "words_of" sWd fW dW)(bW:Binds K dW ["text"] [])(gW:mg "words_of"=some (.ref fW))(GW:FnOk P w K mg base (CX1 P w) 6 fW dW ["text"] (spWd CN)):FnOk P w K mg base CX0 7 f fd ["text"] zCi:=by
 refine F.ok zBn (fun vs H Q E h=>?_) (fun cdv A outer s H vs Q E hr h=>?_)
 ·obtain⟨z,rfl,_⟩:=h
  rfl
 ·obtain⟨z,rfl,tz,k⟩:=h
  refine⟨_,zf (zVg ⟨rfl,rfl⟩ (zgf (zIj (zff GW hr rfl gW FW.kp bW .nil (za (pv 0) zd)))) (zYm ⟨by rfl,by decide,.inl gN⟩ (fun e=>zf (zp zia)) zaj)),?_⟩
  refine⟨_,rfl,z,rfl,tz,(fun i hi d H1 s1 hd=>⟨CN,rfl,fun a ha=>.inl ⟨tN,?_⟩⟩),fun hn p H1 s1 hp=>?_⟩
  ·refine k .non _ (s1.trans ((Same.refl H1).zao ha)) ?_
   unfold rowM
   rw[hi]
   exact rfl
  ·refine k (.ref p) H1 s1 ?_
   unfold rowM
   rw[hn]
   exact⟨p,rfl,hp⟩
abbrev nRsf:List Str:=["texts","rows"]
theorem zWl:FnScope nRsf ["texts"] (zb sRsf):=.of (by decide +kernel)
def zDi:Scope:=⟨.function,[(".0",.local),("text",.local),("row_of",.globalImplicit)],false,false,[]⟩
theorem zfj:BlkScope (zb sRsf) nRsf ["text"] [] [] zDi:=.of (by decide +kernel)
theorem scEo:FnScope ["forms","text","row","letter"] ["forms","text"] (zb sEo):=.of (by decide +kernel)
theorem zCn (F:Fun K "entry_of" "entry_of" sEo f fd)(g8:mg "STRANGE"=some u8)(r8:RelV (.int 8) u8)
  (FR:Fun K "row_of" "row_of" sRof fR dR)(bR:Binds K dR ["text"] [])(gR:mg "row_of"=some (.ref fR))(GR:FnOk P w K mg base CX0 7 fR dR ["text"] zCi)
  (FX:Fun K "first_writing" "first_writing" sFx fX dX)(bX:Binds K dX ["forms","row"] [])(gX:mg "first_writing"=some (.ref fX))(GX:FnOk P w K mg base CX0 9 fX dX ["forms","row"] spFx)
  (FG:Fun K "gaps_of" "gaps_of" sGs fG dG)(bG:Binds K dG ["form","row"] [])(gG:mg "gaps_of"=some (.ref fG))(GG:FnOk P w K mg base CX0 9 fG dG ["form","row"] (fun vs H Q _=>spGs CF vs H Q E0)):FnOk P w K mg base CX0 10 f fd ["forms","text"] spEo:=by
 refine F.ok scEo (fun vs H Q E h=>?_) (fun cdv A outer s H vs Q E hr h=>?_)
 ·obtain⟨f,vf,fs,z,rfl,_⟩:=h
  rfl
 ·obtain⟨f,vf,fs,z,rfl,hf,hF,hok,tz,k⟩:=h
  have hr7:Room 7 _:=hr.mono (by decide)
  refine⟨_,ze (zH (i:=2) scEo.nd rfl (Or.inl rfl) (zi GR hr7 rfl gR FR.kp bR .nil zw (za (pv 1) zd)))
   (ze (zH (i:=3) scEo.nd rfl (Or.inl rfl) (ztb (zr zVd (pv 2) zia (zu _)) zia (zi GX hr rfl gX FX.kp bX .nil zw (za (pv 0) (za (pv 2) zd)))))
   (zf (zp (ztb (zr zVd (pv 3) zia (zu _)) (zua (za (zra (v:=.int 8) (by rfl) g8 r8) (za (zua zd) zd)))
    (zua (za (pv 3) (za (zi GG hr rfl gG FG.kp bG .nil zw (za (zU zfa (pv 0) (pv 3) (fun _ _=>rfl)) (za (pv 2) zd))) zd))))))),?_⟩
  refine⟨_,rfl,z,rfl,tz,fun v H1 s1 hv=>?_⟩
  have odd:∀(H2:Hp),Same H H2->entM fs z=(8,[])->∀D:VK,(∀(p g:Addr)(H':Hp),Same H H'->H' p=some (.tup [.int ((entM fs z).1:Nat),.ref g])->H' g=some (.tup ((entM fs z).2.map V.str))->D (.ref p) H')→
    ([]:List V).length<=sizeLine/\∀g,H2 g=none->([V.int 8,.ref g]:List V).length<=sizeLine/\∀p,upd H2 g (.tup []) p=none->D (.ref p) (upd (upd H2 g (.tup [])) p (.tup [.int 8,.ref g])):=by
   intro H2 s2 e D hD
   refine⟨Nat.zero_le _,fun g hg=>⟨(by show 2<=sizeLine;decide),fun p hp=>?_⟩⟩
   have s3:=(Same.refl H2).zao (o:=.tup []) hg
   have ng:g≠p:=fun e=>by rw[<- e,zc] at hp;cases hp
   refine hD p g _ (s2.trans (s3.trans ((Same.refl _).zao hp))) ?_ ?_
   ·rw[e]
    exact zc
   ·rw[e,zy ng]
    exact zc
  cases hm:rowM z with
  |none=>
   rw[hm] at hv
   have hv:v=.non:=hv
   subst hv
   have e:entM fs z=(8,[]):=by unfold entM;rw[hm]
   exact⟨_,rfl,rfl,true,rfl,iteT ⟨_,rfl,rfl,true,rfl,iteT (odd H1 s1 e Q k)⟩⟩
  |some r=>
   rw[hm] at hv
   obtain⟨rp,rfl,hrp⟩:=hv
   obtain⟨er,_,r8'⟩:=zJd hm
   have rt:∀y∈r,Tx 1000 y:=by rw[er];exact zcc tz
   refine⟨_,rfl,rfl,false,rfl,iteF ⟨_,rfl,_,rfl,f,rp,vf,fs,r,rfl,s1 _ _ hf,hF.zro s1.tups,hok,hrp,by omega,rt,fun H2 s2=>?_⟩⟩
   have t2:=s1.trans s2
   cases hx:firstM fs r with
   |none=>
    have e:entM fs z=(8,[]):=by unfold entM;rw[hm];show(match firstM fs r with|none=>((8,[]):Nat×List Str)|some i=>(i,zoa (fs.getD i []) r r.length))=_;rw[hx]
    exact⟨_,rfl,rfl,true,rfl,iteT (odd H2 t2 e Q k)⟩
   |some i=>
    have e:entM fs z=(i,zoa (fs.getD i []) r r.length):=by unfold entM;rw[hm];show(match firstM fs r with|none=>((8,[]):Nat×List Str)|some i=>(i,zoa (fs.getD i []) r r.length))=_;rw[hx]
    have hi:=hx
    unfold firstM at hi
    rw[List.findIdx?_eq_some_iff_getElem] at hi
    obtain⟨il,hmis,_⟩:=hi
    have ei:fs[i]?=some fs[i]:=List.getElem?_eq_getElem il
    have eD:fs.getD i []=fs[i]:=by simp[List.getD,il]
    rw[eD] at e
    obtain⟨q,us,g1,g2,g3⟩:=hF.2 i _ ei
    have hps:=(hok.2 fs[i] (List.getElem_mem il)).1
    generalize fs[i]=ps at e g3 hps hmis
    have hmis:misM ps r=none:=Option.isNone_iff_eq_none.mp hmis
    refine⟨_,rfl,rfl,false,rfl,iteF ⟨_,rfl,_,rfl,_,rfl,f,_,_,_,rfl,rfl,SqT.of (t2 _ _ hf),zY g1,_,rfl,q,rp,us,ps,r,rfl,t2 _ _ g2,g3.zro t2.tups,by omega,s2 _ _ hrp,by omega,rt,(fun i' hi'=>by rw[hmis] at hi';cases hi'),fun _ g H3 s3 hg=>?_⟩⟩
    refine⟨(by show 2<=sizeLine;decide),fun p hp=>?_⟩
    have s4:=(Same.refl H3).zao (o:=.tup [.int (i:Int),.ref g]) hp
    refine k p g _ (t2.trans (s3.trans s4)) ?_ ?_
    ·rw[e]
     exact zc
    ·rw[e]
     exact s4 _ _ hg
end
end SL
namespace GL
theorem zAh {α:Type}[DecidableEq α]:∀(rs met:List α),(unlF met rs).length<=met.length+rs.length
 | [],_=>Nat.le_refl _
 |x::rs,met=>by
  unfold unlF
  have h:=zAh rs (if x∈met then met else met++[x])
  split at h
  ·rw[List.length_cons,if_pos (by assumption)]
   omega
  ·rw[List.length_append,List.length_singleton] at h
   rw[List.length_cons,if_neg (by assumption)]
   omega
theorem zXl {α:Type}[DecidableEq α](rs:List α):(unl rs).length<=rs.length:=by
 have:=zAh rs []
 rw[List.length_nil,Nat.zero_add] at this
 exact this
end GL
namespace SL
open PySem L2
structure LK (K:W.Frag)(C:Addr):Prop where
 cls:Cls K C
 nK:zlc K C "known"
 nT:zlc K C "taught"
abbrev loF (f:Addr):List (Str×V):=[("known",.ref f),("taught",.non)]
def LoAt (C:Addr)(H:Hp)(o f:Addr)(vf:List V)(fs:List (List Pt)):Prop:=(∃dx,H o=some (.ins C dx (loF f)))/\H f=some (.tup vf)/\FsAt H vf fs/\FmOk fs
theorem LoAt.same {C:Addr}{H H':Hp}{o f:Addr}{vf:List V}{fs:List (List Pt)}(h:LoAt C H o f vf fs)(s:Same H H'):LoAt C H' o f vf fs:=by
 obtain⟨⟨dx,h1⟩,h2,h3,h4⟩:=h
 exact⟨⟨dx,s _ _ h1⟩,s _ _ h2,h3.zro s.tups,h4⟩
def Kpt (H H':Hp)(p:Addr):Prop:=∀b o,H b=some o->b≠p->H' b=some o
theorem zEi {v:V}:putF ("taught":Str) .non [(("known":Str),v)]=[(("known":Str),v),("taught",.non)]:=by
 show(if ("known":Str)="taught" then _ else _)=_
 rw[if_neg (show ¬("known":Str)="taught" by decide +kernel)]
 rfl
def zYl (C:Addr):Sp:=fun vs H Q _=>∃(o f:Addr)(vf:List V)(fs:List (List Pt)),vs=[.ref o]/\LoAt C H o f vf fs/\Q (.ref f) H
def spOl (C:Addr):Sp:=fun vs H Q _=>∃(o f:Addr)(vf:List V)(fs:List (List Pt))(z:Str),vs=[.ref o,.str z]/\LoAt C H o f vf fs/\Tx 1000 z/\∀H',Same H H'->Q (.int ((entM fs z).1:Nat)) H'
section
variable {P:Program}{w:World}{K:W.Frag}{mg:zT3}{base:Heap}{C:Addr}
theorem scOi:FnScope ["self","texts","most"] ["self","texts","most"] (zb sOi):=.of (by decide +kernel)
theorem zDn:FnScope ["self"] ["self"] (zb sOf2):=.of (by decide +kernel)
theorem zZl (F:Fun K "forms" "Loom.forms" sOf2 f fd)(Y:LK K C):FnOk P w K mg base CX0 1 f fd ["self"] (zYl C):=by
 refine F.ok zDn (fun vs H Q E h=>?_) (fun cdv A outer s H vs Q E hr h=>?_)
 ·obtain⟨o,f,vf,fs,rfl,_⟩:=h
  rfl
 ·obtain⟨o,f,vf,fs,rfl,⟨⟨dx,ho⟩,_⟩,k⟩:=h
  exact⟨_,zf (zp (zhg (pv 0) rfl)),_,rfl,o,C,dx,_,_,rfl,ho,Y.cls,Y.nK,rfl,k⟩
theorem scOl:FnScope ["self","text"] ["self","text"] (zb sOl):=.of (by decide +kernel)
theorem zEn (F:Fun K "letter" "Loom.letter" sOl f fd)(Y:LK K C)
  (FE:Fun K "entry_of" "entry_of" sEo fE dE)(bE:Binds K dE ["forms","text"] [])(gE:mg "entry_of"=some (.ref fE))(GE:FnOk P w K mg base CX0 10 fE dE ["forms","text"] spEo):FnOk P w K mg base CX0 11 f fd ["self","text"] (spOl C):=by
 refine F.ok scOl (fun vs H Q E h=>?_) (fun cdv A outer s H vs Q E hr h=>?_)
 ·obtain⟨o,f,vf,fs,z,rfl,_⟩:=h
  rfl
 ·obtain⟨o,f,vf,fs,z,rfl,⟨⟨dx,ho⟩,hf,hF,hok⟩,tz,k⟩:=h
  refine⟨_,zf (zp (zU zfa (zi GE hr rfl gE FE.kp bE .nil zw (za (zhg (pv 0) rfl) (za (pv 1) zd))) zg (fun _ _=>rfl))),?_⟩
  refine⟨_,rfl,o,C,dx,_,_,rfl,ho,Y.cls,Y.nK,rfl,_,rfl,f,vf,fs,z,rfl,hf,hF,hok,tz,fun p g H1 s1 hp hg=>?_⟩
  exact⟨p,_,_,_,rfl,rfl,SqT.of hp,rfl,k H1 s1⟩
end
def spCe (K:W.Frag):Sp:=fun vs H Q _=>∃(a:Addr)(ns:List Int)(k:Int),vs=[.ref a,.int k]/\SqL K H a (ns.map V.int)/\ns.length<=1000/\0<=k/\∀(z:Int)(H':Hp),Same H H'->Q (.int z) H'
def spLb:Sp:=fun vs H Q _=>∃(c:Int)(m:Nat),vs=[.int c,.int (m:Int)]/\m<=8/\∀(p:Addr)(L:List Str)(H':Hp),Same H H'->H' p=some (.tup (L.map V.str))->L.length=m->(∀y∈L,Wd y)->Q (.ref p) H'
def spWq:Sp:=fun vs H Q _=>∃(x:Str)(c:Int),vs=[.str x,.int c]/\∀(y:Str)(H':Hp),Wd y->Same H H'->Q (.str y) H'
def PrAt (H:Hp)(vs:List V)(es:List (Str×Str)):Prop:=vs.length=es.length/\∀(i:Nat)(e:Str×Str),es[i]?=some e->∃q,vs[i]?=some (.ref q)/\H q=some (.tup [.str e.1,.str e.2])
theorem PrAt.zro {H H':Hp}{vs:List V}{es:List (Str×Str)}(h:PrAt H vs es)(s:zha H H'):PrAt H' vs es:=⟨h.1,fun i e q=>by
 obtain⟨v,h1,h2⟩:=h.2 i e q
 exact⟨v,h1,s _ _ h2⟩⟩
theorem PrAt.nil {H:Hp}:PrAt H [] []:=⟨rfl,fun i e q=>by simp at q⟩
theorem PrAt.snoc {H:Hp}{vs:List V}{es:List (Str×Str)}{p:Addr}{e:Str×Str}(h:PrAt H vs es)(hp:H p=some (.tup [.str e.1,.str e.2])):PrAt H (vs++[.ref p]) (es++[e]):=by
 refine⟨by rw[List.length_append,List.length_append,h.1];rfl,fun i e' q=>?_⟩
 by_cases hi:i<es.length
 ·rw[List.getElem?_append_left hi] at q
  obtain⟨u,h1,h2⟩:=h.2 i e' q
  exact⟨u,by rw[List.getElem?_append_left (by rw[h.1];exact hi)];exact h1,h2⟩
 ·have hl:i<(es++[e]).length:=(List.getElem?_eq_some_iff.mp q).1
  rw[List.length_append,List.length_singleton] at hl
  have hi':i=es.length:=by omega
  subst hi'
  rw[List.getElem?_append_right (Nat.le_refl _),Nat.sub_self] at q
  cases q
  exact⟨p,by rw[<- h.1,List.getElem?_append_right (Nat.le_refl _),Nat.sub_self];rfl,hp⟩
def BaAt (H:Hp)(v:V):Prop:=∃(b:Addr)(us:List V)(es:List (Str×Str)),v=.ref b/\H b=some (.lst us)/\PrAt H us es/\1<=es.length/\es.length<=5/\∀e∈es,GL.EOk e
theorem BaAt.same {H H':Hp}{v:V}(h:BaAt H v)(s:Same H H'):BaAt H' v:=by
 obtain⟨b,us,es,h1,h2,h3,h4⟩:=h
 exact⟨b,us,es,h1,s _ _ h2,h3.zro s.tups,h4⟩
def spBa (K:W.Frag):Sp:=fun vs H Q _=>∃(a:Addr)(ns:List Int),vs=[.ref a]/\SqL K H a (ns.map V.int)/\ns.length<=1000/\∀(l:Addr)(bs:List V)(H':Hp),Same H H'->H' l=some (.lst bs)->bs.length=3->(∀b∈bs,BaAt H' b)->Q (.ref l) H'
section
variable {P:Program}{w:World}{K:W.Frag}{mg:zT3}{base:Heap}
theorem scCe:FnScope ["_law_script","_law_k"] ["_law_script","_law_k"] (zb sCe):=.of (by decide +kernel)
theorem zFi (F:Fun K "_law_cell_at" "_law_cell_at" sCe f fd)(len:mg "len"=none):FnOk P w K mg base CX0 1 f fd ["_law_script","_law_k"] (spCe K):=by
 refine F.ok scCe (fun vs H Q E h=>?_) (fun cdv A outer s H vs Q E hr h=>?_)
 ·obtain⟨a,ns,k,rfl,_⟩:=h
  rfl
 ·obtain⟨a,ns,k,rfl,hS,hln,k0,kk⟩:=h
  refine⟨_,ze (zM (zr zoj (pv 1) (zq zo (by rfl) len PySem.boot_len (za (pv 0) zd)) (zu _)) (zf (zp (zU zEa (pv 0) (pv 1) (fun _ _=>rfl)))) zt)
   (zf (zp zg)),?_⟩
  refine⟨_,rfl,_,rfl,a,_,rfl,.inl hS,_,_,rfl,rfl,_,rfl,?_⟩
  refine ite2 (fun hlt=>?_) (fun hge=>?_)
  ·have hlt':k<((ns.map V.int).length:Int):=of_decide_eq_true hlt
   have hk:k.toNat<ns.length:=by rw[List.length_map] at hlt';omega
   have ex:∃z:Int,atI (ns.map V.int) k=some (V.int z):=by
    obtain⟨n,rfl⟩:∃n:Nat,k=(n:Int):=⟨k.toNat,by omega⟩
    exact⟨ns[n]'hk,zY (by rw[List.getElem?_map,List.getElem?_eq_getElem (by exact hk)];rfl)⟩
   obtain⟨z,ex⟩:=ex
   exact⟨_,rfl,_,rfl,a,_,_,_,rfl,rfl,hS,ex,kk _ H (Same.refl H)⟩
  ·exact kk _ H (Same.refl H)
theorem scLb:FnScope ["_law_cell","_law_many","_law_row","_law_k","_law_number"] ["_law_cell","_law_many"] (zb sLb):=.of (by decide +kernel)
theorem zFn (F:Fun K "_law_row_by" "_law_row_by" sLb f fd)(range:mg "range"=none)(tup:mg "tuple"=none)
  (FW:Fun K "_law_word" "_law_word" sWo fW fdW)(bW:Binds K fdW ["_law_cell"] [])(gW:mg "_law_word"=some (.ref fW))(GW:FnOk P w K mg base CX0 4 fW fdW ["_law_cell"] (spWx Wd)):FnOk P w K mg base CX0 5 f fd ["_law_cell","_law_many"] spLb:=by
 refine F.ok scLb (fun vs H Q E h=>?_) (fun cdv A outer s H vs Q E hr h=>?_)
 ·obtain⟨c,m,rfl,_⟩:=h
  rfl
 ·obtain⟨c,m,rfl,h12,k⟩:=h
  refine⟨_,ze (zH (i:=2) scLb.nd rfl (Or.inl rfl) (zva zd))
   (ze (zta PassesOwn.never rfl (zZ rfl range (za (pv 1) zd)) (zC (i:=3) scLb.nd rfl (Or.inl rfl))
    (ze (zH (i:=4) scLb.nd rfl (Or.inl rfl) (zz zR (zz zTb (zz zR (zz zSa (pv 0) (zz zTb (zz zTb zg (pv 3)) (pv 3))) zg) zg) zg))
    (zf (zHa (zQa PySem.F.plainAttrs_list PySem.F.slot_list_append PySem.F.type_list_append zka (pv 2) (za (zi GW hr rfl gW FW.kp bW .nil zw (za (zz zSa (pv 4) (zz zhi (pv 0) zg)) zd)) zd))))))
   (zf (zp (zS zL (by rfl) tup PyProof.Rows.boot_tuple (za (pv 2) zd))))),?_⟩
  refine⟨Nat.zero_le _,fun l hl=>?_⟩
  refine⟨_,rfl,_,rfl,by omega,by omega,?_⟩
  rw[Int.toNat_natCast]
  refine zma (n:=m) (fun i σ H2=>∃(zs:List Str)(v v2:Option V),σ=[some (.int c),some (.int (m:Int)),some (.ref l),v,v2]/\Same H H2/\H2 l=some (.lst (zs.map V.str))/\zs.length=i/\∀x∈zs,Wd x)
   ⟨[],none,none,rfl,(Same.refl H).zao hl,zc,rfl,fun x hx=>by simp at hx⟩ ?_ ?_
  ·rintro i σ H2 hi ⟨zs,v,v2,rfl,s2,hL,hlen,hin⟩
   have hsm:(zs.map V.str).length<sizeLine:=zv (by rw[List.length_map];omega)
   refine⟨_,rfl,_,rfl,_,_,rfl,rfl,.inl ⟨by decide,by decide⟩,_,rfl,_,_,rfl,rfl,.inr ⟨by omega,by omega⟩,_,_,rfl,rfl,_,_,rfl,rfl,(by show(0:Int)<2147483647;decide),_,_,rfl,rfl,.inr ⟨by decide,by decide⟩,_,_,rfl,rfl,(by show(0:Int)<2147483629;decide),?_⟩
   refine⟨_,rfl,.inl ⟨rfl,_,SqL.of hL⟩,_,rfl,_,rfl,_,_,rfl,rfl,⟨by decide,by decide⟩,_,_,rfl,rfl,_,rfl,fun y H3 ty s3=>⟨l,_,_,rfl,rfl,s3 _ _ hL,hsm,zs++[y],_,_,rfl,(s2.trans s3).zao hl,by rw[zc,List.map_append];rfl,by rw[List.length_append,List.length_singleton];omega,fun x hx=>?_⟩⟩
   rcases List.mem_append.mp hx with hx|hx
   ·exact hin x hx
   ·rw[List.mem_singleton] at hx
    rw[hx]
    exact ty
  ·rintro σ H2 ⟨zs,v,v2,rfl,s2,hL,hlen,hin⟩
   exact⟨_,rfl,l,_,rfl,.inl ⟨SqL.of hL,fun p hp=>k p zs _ (s2.trans ((Same.refl H2).zao hp)) zc hlen hin⟩⟩
theorem scWq:FnScope ["_law_sort_here","_law_cell"] ["_law_sort_here","_law_cell"] (zb sWq):=.of (by decide +kernel)
theorem zGn (F:Fun K "_law_word_of" "_law_word_of" sWq f fd)
  (FN:Fun K "_law_number_word" "_law_number_word" sNu fN fdN)(bN:Binds K fdN ["_law_cell"] [])(gN:mg "_law_number_word"=some (.ref fN))(GN:FnOk P w K mg base CX0 2 fN fdN ["_law_cell"] (spWx fun y=>isNum y=true))
  (FA:Fun K "_law_name_word" "_law_name_word" sNa fA fdA)(bA:Binds K fdA ["_law_cell"] [])(gA:mg "_law_name_word"=some (.ref fA))(GA:FnOk P w K mg base CX0 2 fA fdA ["_law_cell"] (spWx fun y=>isName y=true))
  (FL:Fun K "_law_list_word" "_law_list_word" sLi fL fdL)(bL:Binds K fdL ["_law_cell"] [])(gL:mg "_law_list_word"=some (.ref fL))(GL:FnOk P w K mg base CX0 3 fL fdL ["_law_cell"] (spWx fun z=>∃xs:List Str,xs.length<=4/\(∀x∈xs,zP x=true)/\z=zhb xs))
  (FM:Fun K "_law_mark_word" "_law_mark_word" sMk fM fdM)(bM:Binds K fdM ["_law_cell"] [])(gM:mg "_law_mark_word"=some (.ref fM))(GM:FnOk P w K mg base CX0 2 fM fdM ["_law_cell"] (spWx okMark)):FnOk P w K mg base CX0 4 f fd ["_law_sort_here","_law_cell"] spWq:=by
 refine F.ok scWq (fun vs H Q E h=>?_) (fun cdv A outer s H vs Q E hr h=>?_)
 ·obtain⟨x,c,rfl,_⟩:=h
  rfl
 ·obtain⟨x,c,rfl,k⟩:=h
  have hr2:Room 2 _:=hr.mono (by decide)
  refine⟨_,ze (zM (zr zV (pv 0) zx (zu _)) (zf (zp (zi GN hr2 rfl gN FN.kp bN .nil zw (za (pv 1) zd)))) zt)
   (ze (zM (zr zV (pv 0) zx (zu _)) (zf (zp (zi GA hr2 rfl gA FA.kp bA .nil zw (za (pv 1) zd)))) zt)
   (ze (zM (zr zV (pv 0) zx (zu _)) (zf (zp (zi GL hr rfl gL FL.kp bL .nil zw (za (pv 1) zd)))) zt)
   (zf (zp (zi GM hr2 rfl gM FM.kp bM .nil zw (za (pv 1) zd)))))),?_⟩
  refine⟨_,rfl,rfl,_,rfl,ifb ?_ ?_⟩
  ·exact⟨_,rfl,c,rfl,fun y H1 hy s1=>k y H1 (Wd.item (by unfold zP;rw[hy];rfl)) s1⟩
  refine⟨_,rfl,rfl,_,rfl,ifb ?_ ?_⟩
  ·exact⟨_,rfl,c,rfl,fun y H1 hy s1=>k y H1 (Wd.item (by unfold zP;rw[hy,Bool.or_true])) s1⟩
  refine⟨_,rfl,rfl,_,rfl,ifb ?_ ?_⟩
  ·refine⟨_,rfl,c,rfl,fun y H1 hy s1=>?_⟩
   obtain⟨xs,h4,hi,e⟩:=hy
   exact k y H1 (.lis xs h4 hi e) s1
  ·exact⟨_,rfl,c,rfl,fun y H1 hy s1=>k y H1 (.mar hy) s1⟩
abbrev nBa:List Str:=["_law_script","_law_found","_law_k","_law_cell","_law_row","_law_first","_law_second","_law_base","_law_at"]
theorem scBa:FnScope nBa ["_law_script"] (zb sBa):=.of (by decide +kernel)
theorem zHn (F:Fun K "_law_bases" "_law_bases" sBa f fd)(range:mg "range"=none)(len:mg "len"=none)
  (FC:Fun K "_law_cell_at" "_law_cell_at" sCe fC dC)(bC:Binds K dC ["_law_script","_law_k"] [])(gC:mg "_law_cell_at"=some (.ref fC))
  (FB:Fun K "_law_row_by" "_law_row_by" sLb fB dB)(bB:Binds K dB ["_law_cell","_law_many"] [])(gB:mg "_law_row_by"=some (.ref fB))(GB:FnOk P w K mg base CX0 5 fB dB ["_law_cell","_law_many"] spLb)
  (FS:Fun K "_law_sort" "_law_sort" sLs fS dS)(bS:Binds K dS ["_law_text_here"] [])(gS:mg "_law_sort"=some (.ref fS))(GS:FnOk P w K mg base CX0 4 fS dS ["_law_text_here"] spSo):FnOk P w K mg base CX0 6 f fd ["_law_script"] (spBa K):=by
 have GC:FnOk P w K mg base CX0 1 fC dC ["_law_script","_law_k"] (spCe K):=zFi FC len
 refine F.ok scBa (fun vs H Q E h=>?_) (fun cdv A outer s H vs Q E hr h=>?_)
 ·obtain⟨a,ns,rfl,_⟩:=h
  rfl
 ·obtain⟨a,ns,rfl,hS,hln,k⟩:=h
  have hr1:Room 1 _:=hr.mono (by decide)
  have hr4:Room 4 _:=hr.mono (by decide)
  refine⟨_,ze (zH (i:=1) scBa.nd rfl (Or.inl rfl) (zva zd))
   (ze (zta PassesOwn.never rfl (zZ rfl range (za zg zd)) (zC (i:=2) scBa.nd rfl (Or.inl rfl))
    (ze (zH (i:=3) scBa.nd rfl (Or.inl rfl) (zi GC hr1 rfl gC FC.kp bC .nil zw (za (pv 0) (za (zz zSa zg (pv 2)) zd))))
    (ze (zeb (zH (i:=4) scBa.nd rfl (Or.inl rfl) (zi GB hr rfl gB FB.kp bB .nil zw (za (zz zN (pv 3) zg) (za (zz zSa zg (zz zR (pv 3) zg)) zd)))))
    (ze (zeb (zH (i:=5) scBa.nd rfl (Or.inl rfl) (zz zR (zz zN (pv 3) zg) (zq zo (by rfl) len PySem.boot_len (za (pv 4) zd)))))
    (ze (zeb (zH (i:=6) scBa.nd rfl (Or.inl rfl) (zz zR (zz zN (pv 3) zg) (zz zTb zg (zq zo (by rfl) len PySem.boot_len (za (pv 4) zd))))))
    (ze (zH (i:=7) scBa.nd rfl (Or.inl rfl) (zva zd))
    (ze (zta PassesOwn.never rfl (zZ rfl range (za (zq zo (by rfl) len PySem.boot_len (za (pv 4) zd)) zd)) (zC (i:=8) scBa.nd rfl (Or.inl rfl))
     (zf (zM (PW.pt (zPb (zr zV (pv 8) (pv 5) (zu _)) (zDb (zr zV (pv 8) (pv 6) (zu _)))))
      (zf (zHa (zQa PySem.F.plainAttrs_list PySem.F.slot_list_append PySem.F.type_list_append zka (pv 7) (za (zua (za zx (za (zi GS hr4 rfl gS FS.kp bS .nil zw (za (zU zfa (pv 4) (pv 8) (fun _ _=>rfl)) zd)) zd))) zd))))
      (zf (zHa (zQa PySem.F.plainAttrs_list PySem.F.slot_list_append PySem.F.type_list_append zka (pv 7) (za (zua (za zx (za (zU zfa (pv 4) (pv 8) (fun _ _=>rfl)) zd))) zd)))))))
    (zf (zHa (zQa PySem.F.plainAttrs_list PySem.F.slot_list_append PySem.F.type_list_append zka (pv 1) (za (pv 7) zd)))))))))))
   (zf (zp (pv 1)))),?_⟩
  refine⟨Nat.zero_le _,fun l hl=>?_⟩
  refine⟨_,rfl,by decide,by decide,?_⟩
  refine zma (n:=(3:Int).toNat) (fun i σ H2=>∃(bs:List V)(v2 v3 v4 v5 v6 v7 v8:Option V),σ=[some (.ref a),some (.ref l),v2,v3,v4,v5,v6,v7,v8]/\Same H H2/\H2 l=some (.lst bs)/\bs.length=i/\∀b∈bs,BaAt H2 b/\b≠.ref l)
   ⟨[],none,none,none,none,none,none,none,rfl,(Same.refl H).zao hl,zc,rfl,fun b hb=>by cases hb⟩ ?_ ?_
  ·rintro i σ H2 hi ⟨bs,v2,v3,v4,v5,v6,v7,v8,rfl,s2,hL,bl,hb⟩
   have hi3:i<3:=hi
   refine⟨_,rfl,_,rfl,_,_,rfl,rfl,a,ns,_,rfl,s2.seq hS,hln,by omega,fun c H3 s3=>?_⟩
   have t3:=s2.trans s3
   refine⟨fun σ' H'=>∃(p:Addr)(L:List Str),σ'=[some (.ref a),some (.ref l),some (.int (0+(i:Int))),some (.int c),some (.ref p),v5,v6,v7,v8]/\Same H3 H'/\H' p=some (.tup (L.map V.str))/\1<=L.length/\L.length<=5/\∀y∈L,Wd y,?_,?_⟩
   ·have m0:0<=c%5:=Int.emod_nonneg _ (by decide)
    have m1:c%5<5:=Int.emod_lt_of_pos _ (by decide)
    refine⟨_,rfl,_,_,rfl,rfl,⟨by decide,by decide⟩,_,rfl,_,_,rfl,rfl,(by show(0:Int)<5;decide),_,_,rfl,rfl,c / 5,(1+c%5).toNat,?_,by omega,fun p L H4 s4 hp lL hw=>⟨p,L,rfl,s4,hp,by omega,by omega,hw⟩⟩
    rw[Int.toNat_of_nonneg (by omega)]
    rfl
   rintro σ' H4 ⟨p,L,rfl,s4,hp,l1,l5,hw⟩
   have lp:((L.map V.str).length:Int)=(L.length:Int):=by rw[List.length_map]
   refine⟨fun σ' H'=>∃x:Int,σ'=[some (.ref a),some (.ref l),some (.int (0+(i:Int))),some (.int c),some (.ref p),some (.int x),v6,v7,v8]/\H4=H',⟨_,rfl,_,_,rfl,rfl,⟨by decide,by decide⟩,_,rfl,p,_,rfl,.inr (SqT.of hp),_,_,rfl,rfl,(by show(0:Int)<((L.map V.str).length:Int);omega),_,rfl,rfl⟩,?_⟩
   rintro _ _ ⟨x,rfl,rfl⟩
   refine⟨fun σ' H'=>∃y:Int,σ'=[some (.ref a),some (.ref l),some (.int (0+(i:Int))),some (.int c),some (.ref p),some (.int x),some (.int y),v7,v8]/\H4=H',⟨_,rfl,_,_,rfl,rfl,⟨by decide,by decide⟩,_,rfl,p,_,rfl,.inr (SqT.of hp),_,_,rfl,rfl,.inl ⟨by decide,by decide⟩,_,_,rfl,rfl,(by show(0:Int)<2*((L.map V.str).length:Int);omega),_,rfl,rfl⟩,?_⟩
   rintro _ _ ⟨y,rfl,rfl⟩
   refine⟨Nat.zero_le _,fun b hb0=>?_⟩
   have t4:=t3.trans s4
   have s5:Same H4 (upd H4 b (.lst [])):=(Same.refl H4).zao hb0
   have q5:upd H4 b (.lst []) b=some (.lst []):=zc
   generalize upd H4 b (.lst [])=H5 at s5 q5 ⊢
   have hbH4:=hb0
   refine⟨_,rfl,p,_,rfl,.inr (SqT.of (s5 _ _ hp)),_,rfl,by omega,by omega,?_⟩
   rw[lp,Int.toNat_natCast]
   refine zma (n:=L.length) (fun j σ H6=>∃(us:List V)(es:List (Str×Str))(v8:Option V),σ=[some (.ref a),some (.ref l),some (.int (0+(i:Int))),some (.int c),some (.ref p),some (.int x),some (.int y),some (.ref b),v8]/\Same H4 H6/\H6 b=some (.lst us)/\PrAt H6 us es/\es.length=j/\∀e∈es,GL.EOk e)
    ⟨[],[],v8,rfl,s5,q5,PrAt.nil,rfl,fun e he=>by cases he⟩ ?_ ?_
   ·rintro j σ H6 hj ⟨us,es,v8,rfl,s6,hb6,hP,el,eok⟩
    have eat:atI (L.map V.str) (0+(j:Int))=some (.str L[j]):=by
     rw[Int.zero_add]
     refine zY ?_
     rw[List.getElem?_map]
     simp[hj]
    have hW:=hw _ (List.getElem_mem hj)
    have hsm:us.length<sizeLine:=zv (by rw[hP.1];omega)
    have put:∀(e:Str×Str)(q:Addr)(H7:Hp),GL.EOk e->Same H6 H7->H7 q=some (.tup [.str e.1,.str e.2])->∃(us':List V)(es':List (Str×Str))(v8':Option V),[some (V.ref a),some (.ref l),some (.int (0+(i:Int))),some (.int c),some (.ref p),some (.int x),some (.int y),some (.ref b),some (.int (0+(j:Int)))]=[some (.ref a),some (.ref l),some (.int (0+(i:Int))),some (.int c),some (.ref p),some (.int x),some (.int y),some (.ref b),v8']/\Same H4 (upd H7 b (.lst (us++[.ref q])))/\(upd H7 b (.lst (us++[.ref q]))) b=some (.lst us')/\PrAt (upd H7 b (.lst (us++[.ref q]))) us' es'/\es'.length=j+1/\∀e∈es',GL.EOk e:=by
     intro e q H7 ek s7 hq
     have ts:zha H7 (upd H7 b (.lst (us++[.ref q]))):=zha.zeo (fun _ _ e=>e) (s7 _ _ hb6)
     refine⟨us++[.ref q],es++[e],_,rfl,(s6.trans s7).zao hbH4,zc,((hP.zro s7.tups).snoc hq).zro ts,by rw[List.length_append,List.length_singleton,el],fun x hx=>?_⟩
     rcases List.mem_append.mp hx with hx|hx
     ·exact eok x hx
     ·rw[List.mem_singleton] at hx
      rw[hx]
      exact ek
    have p6:=SqT.of (K:=K) (s6 _ _ hp)
    refine⟨_,rfl,_,rfl,rfl,_,rfl,?_⟩
    refine ifb ?_ ?_
    ·refine iteT ?_
     refine⟨_,rfl,.inl ⟨rfl,_,SqL.of hb6⟩,_,rfl,_,rfl,p,_,_,_,rfl,rfl,p6,eat,L[j],rfl,hW.tn.tx.mono (by decide),fun H7 s7=>?_⟩
     refine⟨(by show 2<=sizeLine;decide),fun q hq=>?_⟩
     rw[hW.sort]
     have s8:=(Same.refl H7).zao (o:=.tup [V.str (Str.ofString "gap"),.str (lawS L[j]).str]) hq
     exact⟨b,_,_,rfl,rfl,(s7.trans s8) _ _ hb6,hsm,put (GL.sGap,(lawS L[j]).str) q _ (.inr ⟨rfl,_,rfl⟩) (s7.trans s8) zc⟩
    ·refine⟨_,rfl,_,rfl,rfl,_,rfl,?_⟩
     refine ifb ?_ ?_
     ·refine⟨_,rfl,.inl ⟨rfl,_,SqL.of hb6⟩,_,rfl,_,rfl,p,_,_,_,rfl,rfl,p6,eat,L[j],rfl,hW.tn.tx.mono (by decide),fun H7 s7=>?_⟩
      refine⟨(by show 2<=sizeLine;decide),fun q hq=>?_⟩
      rw[hW.sort]
      have s8:=(Same.refl H7).zao (o:=.tup [V.str (Str.ofString "gap"),.str (lawS L[j]).str]) hq
      exact⟨b,_,_,rfl,rfl,(s7.trans s8) _ _ hb6,hsm,put (GL.sGap,(lawS L[j]).str) q _ (.inr ⟨rfl,_,rfl⟩) (s7.trans s8) zc⟩
     ·refine⟨_,rfl,.inl ⟨rfl,_,SqL.of hb6⟩,_,rfl,_,rfl,p,_,_,_,rfl,rfl,p6,eat,(by show 2<=sizeLine;decide),fun q hq=>?_⟩
      have s8:=(Same.refl H6).zao (o:=.tup [V.str (Str.ofString "word"),.str L[j]]) hq
      exact⟨b,_,_,rfl,rfl,s8 _ _ hb6,hsm,put (GL.zBa,L[j]) q _ (.inl ⟨rfl,hW⟩) s8 zc⟩
   ·rintro σ H6 ⟨us,es,v8,rfl,s6,hb6,hP,el,eok⟩
    have s26:=s3.trans (s4.trans s6)
    refine⟨_,rfl,.inl ⟨rfl,_,SqL.of (s26 _ _ hL)⟩,_,rfl,l,_,_,rfl,rfl,s26 _ _ hL,zv (by omega),?_⟩
    have nbl:b≠l:=fun z=>by rw[z,(s3.trans s4) _ _ hL] at hbH4;cases hbH4
    have lH:H l=none:=hl
    have ts:zha H6 (upd H6 l (.lst (bs++[.ref b]))):=zha.zeo (fun _ _ e=>e) (s26 _ _ hL)
    refine⟨bs++[.ref b],_,_,_,_,_,_,_,rfl,(s2.trans s26).zao lH,zc,by rw[List.length_append,List.length_singleton];omega,fun v hv=>?_⟩
    rcases List.mem_append.mp hv with hv|hv
    ·obtain⟨b',us',es',h1,h2,h3,h4⟩:=(hb v hv).1.same s26
     have:b'≠l:=fun z=>(hb v hv).2 (by rw[h1,z])
     exact⟨⟨b',us',es',h1,by rw[zy this];exact h2,h3.zro ts,h4⟩,(hb v hv).2⟩
    ·rw[List.mem_singleton] at hv
     exact⟨⟨b,us,es,hv,by rw[zy nbl];exact hb6,hP.zro ts,by omega,by omega,eok⟩,fun z=>nbl (by rw[hv] at z;injection z)⟩
  ·rintro σ H2 ⟨bs,v2,v3,v4,v5,v6,v7,v8,rfl,s2,hL,bl,hb⟩
   exact⟨_,rfl,k l bs H2 s2 hL bl fun b hb'=>(hb b hb').1⟩
end
end SL
namespace L2
open PySem PySem.Spec PyProof.Rows
section
variable {X:Cx}
def zam (K:W.Frag):V->List V->Hp->VK->Prop:=fun x xs H Q=>∃sep l ys,x=.str sep/\xs=[.ref l]/\SqT K H l (ys.map V.str)/\(ys.map (·.length)).sum+ys.length*sep.length<=16777216/\Q (.str (Str.join sep ys)) H
theorem zGi:MtR X "str.join" (zam X.K):=by
 intro pins s σ H x xs v us Q I rx rs h
 obtain⟨sep,l,ys,rfl,rfl,hl,hz,q⟩:=h
 obtain⟨t,rfl⟩:=rx
 obtain⟨u,rfl,ru⟩:=rs.one
 cases ru
 obtain⟨its,rv,p,_⟩:=I.tuple hl
 refine join_tuple p (zad (by simpa using rv)) hz fun t' k=>?_
 have e:Txt.join sep ys=Str.join sep ys:=StrLaws.glued_eq_join sep ys
 rw[e]
 exact⟨.str _,H,I.tok k,⟨_,rfl⟩,q⟩
end
end L2
namespace SL
open PySem L2
def TOk (z:Str):Prop:=Tx 1000 z/\GL.zxa (zh z)
theorem zgj {ys:List Str}(h1:1<=ys.length)(h8:ys.length<=8)(hw:∀y∈ys,Wd y):TOk (Str.join (Str.ofString " ") ys):=by
 refine⟨(ztg (n:=60) (m:=1) (Str.ofString " ") ⟨by decide,by decide⟩ fun y hy=>(hw y hy).tn.tx).mono (by omega),?_⟩
 have e:zh (Str.join (Str.ofString " ") ys)=ys:=by
  unfold zh
  rw[show Str.ofString " "=(⟨#[32]⟩:Str) from rfl,zKa _ (by decide)]
  exact zAd ys [] (fun z=>by rw[z] at h1;simp at h1) fun x hx k hk=>((hw x hx).tn.2 k hk).2
 rw[e]
 exact⟨h1,h8,hw⟩
theorem zhj {n:Nat}:∀{ys:List Str},(∀y∈ys,y.length<=n)->(ys.map (·.length)).sum<=ys.length*n
 | [],_=>Nat.zero_le _
 |y::ys,h=>by
  have:=zhj (n:=n) fun z hz=>h z (List.mem_cons_of_mem y hz)
  have:=h y List.mem_cons_self
  rw[List.map_cons,List.sum_cons,List.length_cons,Nat.succ_mul]
  omega
theorem zbm {ys:List Str}(h8:ys.length<=8)(hw:∀y∈ys,Wd y):(ys.map (·.length)).sum+ys.length*(Str.ofString " ").length<=16777216:=by
 have h1:=zhj (n:=60) fun y hy=>(hw y hy).tn.1
 rw[show(Str.ofString " ").length=1 from rfl]
 omega
def spTe (K:W.Frag):Sp:=fun vs H Q _=>∃(a l:Addr)(ns:List Int)(bs:List V)(c:Int),vs=[.ref a,.ref l,.int c]/\SqL K H a (ns.map V.int)/\ns.length<=1000/\H l=some (.lst bs)/\bs.length=3/\(∀b∈bs,BaAt H b)/\∀(z:Str)(H':Hp),TOk z->Same H H'->Q (.str z) H'
def zsk:Sp:=fun vs H Q _=>∃(q:Addr)(p:Pt)(z:Str),vs=[.ref q,.str z]/\PtAt H q p/\Tx 1000 z/\∀H',Same H H'->Q (.bl (zGb p z)) H'
section
variable {P:Program}{w:World}{K:W.Frag}{mg:zT3}{base:Heap}
abbrev nTe:List Str:=["_law_script","_law_bases_here","_law_cell","_law_words","_law_number","_law_kind","_law_thing"]
theorem scTe:FnScope nTe ["_law_script","_law_bases_here","_law_cell"] (zb sTe):=.of (by decide +kernel)
theorem zIn (F:Fun K "_law_text" "_law_text" sTe f fd)(len:mg "len"=none)
  (FC:Fun K "_law_cell_at" "_law_cell_at" sCe fC dC)(bC:Binds K dC ["_law_script","_law_k"] [])(gC:mg "_law_cell_at"=some (.ref fC))
  (FW:Fun K "_law_word_of" "_law_word_of" sWq fW dW)(bW:Binds K dW ["_law_sort_here","_law_cell"] [])(gW:mg "_law_word_of"=some (.ref fW))(GW:FnOk P w K mg base CX0 4 fW dW ["_law_sort_here","_law_cell"] spWq):FnOk P w K mg base CX0 5 f fd ["_law_script","_law_bases_here","_law_cell"] (spTe K):=by
 have GC:FnOk P w K mg base CX0 1 fC dC ["_law_script","_law_k"] (spCe K):=zFi FC len
 refine F.ok scTe (fun vs H Q E h=>?_) (fun cdv A outer s H vs Q E hr h=>?_)
 ·obtain⟨a,l,ns,bs,c,rfl,_⟩:=h
  rfl
 ·obtain⟨a,l,ns,bs,c,rfl,hS,hln,hL,bl,hb,k⟩:=h
  have hr1:Room 1 _:=hr.mono (by decide)
  refine⟨_,ze (zH (i:=3) scTe.nd rfl (Or.inl rfl) (zva zd))
   (ze (zeb (zH (i:=4) scTe.nd rfl (Or.inl rfl) (zz zN (pv 2) zg)))
   (ze (zta PassesOwn.never rfl (zja (zU zEa (pv 1) (zz zR (pv 2) zg) (fun _ _=>rfl))) (zUc (n:=2) rfl (zpa (zC (i:=5) scTe.nd rfl (Or.inl rfl)) (zpa (zC (i:=6) scTe.nd rfl (Or.inl rfl)) zdc)))
    (ze (zeb (zM (zr zV (pv 5) zx (zu _))
     (ze (zH (i:=6) scTe.nd rfl (Or.inl rfl) (zi GW hr rfl gW FW.kp bW .nil zw (za (pv 6) (za (zz zSa (zz zN (zi GC hr1 rfl gC FC.kp bC .nil zw (za (pv 0) (za zg zd))) zg) (zz zTb (zz zR (pv 4) zg) zg)) zd))))
     (zf (zH (i:=4) scTe.nd rfl (Or.inl rfl) (zz zN (pv 4) zg)))) zt))
    (zf (zHa (zQa PySem.F.plainAttrs_list PySem.F.slot_list_append PySem.F.type_list_append zka (pv 3) (za (pv 6) zd))))))
   (zf (zp (zQa PySem.F.plainAttrs_str PySem.F.slot_str_join PySem.F.type_str_join zwg zx (za (pv 3) zd)))))),?_⟩
  refine⟨Nat.zero_le _,fun lw hlw=>?_⟩
  have s1:Same H (upd H lw (.lst [])):=(Same.refl H).zao hlw
  have q1:upd H lw (.lst []) lw=some (.lst []):=zc
  generalize upd H lw (.lst [])=H1 at s1 q1 ⊢
  refine⟨fun σ' H'=>∃n:Int,σ'=[some (.ref a),some (.ref l),some (.int c),some (.ref lw),some (.int n),none,none]/\H1=H',⟨_,rfl,_,_,rfl,rfl,⟨by decide,by decide⟩,_,rfl,rfl⟩,?_⟩
  rintro _ _ ⟨n0,rfl,rfl⟩
  have m0:0<=c%3:=Int.emod_nonneg _ (by decide)
  have m1:c%3<3:=Int.emod_lt_of_pos _ (by decide)
  obtain⟨b,hbm,eb⟩:=GL.zjf bs (c%3) m0 (by rw[bl];exact m1)
  obtain⟨ba,us,es,rfl,hba,hP,e1,e5,eok⟩:=hb b hbm
  refine⟨_,rfl,_,rfl,_,_,rfl,rfl,(by show(0:Int)<3;decide),l,_,_,_,rfl,rfl,SqL.of (s1 _ _ hL),eb,ba,rfl,⟨_,SqL.of (s1 _ _ hba)⟩,?_⟩
  refine zrc (K:=K) (a:=ba) (xs:=us) (fun j σ H2=>∃(ys:List Str)(n:Int)(v5 v6:Option V),σ=[some (.ref a),some (.ref l),some (.int c),some (.ref lw),some (.int n),v5,v6]/\Same H H2/\H2 lw=some (.lst (ys.map V.str))/\ys.length=j/\∀y∈ys,Wd y)
   ⟨[],n0,none,none,rfl,s1,q1,rfl,fun y hy=>by cases hy⟩ (fun j σ H2 _ h=>by obtain⟨_,_,_,_,_,h,_⟩:=h;exact SqL.of (h _ _ hba)) ?_ ?_
  ·rintro j x σ H2 hx ⟨ys,n,v5,v6,rfl,s2,hw2,yl,hy⟩
   have hj:j<es.length:=by rw[<- hP.1];exact(List.getElem?_eq_some_iff.mp hx).1
   have ej:es[j]?=some es[j]:=List.getElem?_eq_getElem hj
   have ek:=eok _ (List.getElem_mem hj)
   obtain⟨q,g1,g2⟩:=hP.2 j _ ej
   generalize es[j]=e at ek g2
   obtain⟨ki,th⟩:=e
   rw[hx] at g1
   cases g1
   refine⟨q,_,rfl,SqT.of (s2 _ _ g2),rfl,_,_,rfl,_,_,rfl,rfl,?_⟩
   refine⟨fun σ' H'=>∃(y:Str)(n:Int)(v5:Option V),σ'=[some (.ref a),some (.ref l),some (.int c),some (.ref lw),some (.int n),v5,some (.str y)]/\Same H2 H'/\Wd y,?_,?_⟩
   ·refine⟨_,rfl,rfl,decide (ki=Str.ofString "gap"),congrArg V.bl (decS _ _),?_⟩
    by_cases cg:ki=Str.ofString "gap"
    ·rw[decide_eq_true cg]
     refine iteT ⟨_,rfl,_,rfl,a,ns,4,rfl,s2.seq hS,hln,by decide,fun d H3 s3=>?_⟩
     refine⟨_,_,rfl,rfl,⟨by decide,by decide⟩,_,rfl,_,_,rfl,rfl,(by show(0:Int)<3;decide),_,_,rfl,rfl,.inr ⟨by decide,by decide⟩,_,_,rfl,rfl,th,_,rfl,fun y H4 ty s4=>?_⟩
     exact⟨_,rfl,_,_,rfl,rfl,⟨by decide,by decide⟩,y,_,_,rfl,s3.trans s4,ty⟩
    ·rw[decide_eq_false cg]
     rcases ek with⟨_,hw⟩|⟨hg,_⟩
     ·exact iteF ⟨th,n,_,rfl,Same.refl _,hw⟩
     ·exact absurd hg cg
   rintro σ' H3 ⟨y,n',v5',rfl,s3,ty⟩
   have hw3:=s3 _ _ hw2
   refine⟨_,rfl,.inl ⟨rfl,_,SqL.of hw3⟩,_,rfl,lw,_,_,rfl,rfl,hw3,zv (by rw[List.length_map];omega),?_⟩
   refine⟨ys++[y],n',_,_,rfl,(s2.trans s3).zao hlw,by rw[zc,List.map_append];rfl,by rw[List.length_append,List.length_singleton,yl],fun x hx=>?_⟩
   rcases List.mem_append.mp hx with hx|hx
   ·exact hy x hx
   ·rw[List.mem_singleton] at hx
    rw[hx]
    exact ty
  ·rintro σ H2 ⟨ys,n,v5,v6,rfl,s2,hw2,yl,hy⟩
   have l5:ys.length=es.length:=by rw[yl,hP.1]
   exact⟨rfl,_,rfl,Str.ofString " ",lw,ys,rfl,rfl,SqL.of hw2,zbm (by omega) hy,k _ H2 (zgj (by omega) (by omega) hy) s2⟩
theorem zJn:FnScope ["_law_part","_law_word_here"] ["_law_part","_law_word_here"] (zb sTk):=.of (by decide +kernel)
theorem zcm (F:Fun K "_law_takes" "_law_takes" sTk f fd)
  (FS:Fun K "_law_sort" "_law_sort" sLs fS dS)(bS:Binds K dS ["_law_text_here"] [])(gS:mg "_law_sort"=some (.ref fS))(GS:FnOk P w K mg base CX0 4 fS dS ["_law_text_here"] spSo):FnOk P w K mg base CX0 5 f fd ["_law_part","_law_word_here"] zsk:=by
 refine F.ok zJn (fun vs H Q E h=>?_) (fun cdv A outer s H vs Q E hr h=>?_)
 ·obtain⟨q,p,z,rfl,_⟩:=h
  rfl
 ·obtain⟨q,p,z,rfl,hq,tz,k⟩:=h
  refine⟨_,ze (zM (zr zV (zU zfa (pv 0) zg (fun _ _=>rfl)) zx (zu _)) (zf (zp (zQ zV (zU zfa (pv 0) zg (fun _ _=>rfl)) (pv 1) (zu _)))) zt)
   (zf (zp (zQ zV (zi GS hr rfl gS FS.kp bS .nil zw (za (pv 1) zd)) (zU zfa (pv 0) zg (fun _ _=>rfl)) (zu _)))),?_⟩
  have hq:H q=some (.tup [.str p.tag,p.val]):=hq
  refine⟨_,rfl,q,_,_,_,rfl,rfl,SqT.of hq,rfl,rfl,decide (p.tag=Str.ofString "word"),congrArg V.bl (decS _ _),?_⟩
  cases p with
  |word y=>
   rw[decide_eq_true (show(Pt.word y).tag=Str.ofString "word" from rfl)]
   refine iteT ⟨_,rfl,q,_,_,_,rfl,rfl,SqT.of hq,rfl,_,rfl,rfl,?_⟩
   have e:decide (Pt.val (.word y)=V.str z)=zGb (.word y) z:=decide_eq_decide.mpr ⟨fun e=>e.symm,fun e=>e.symm⟩
   rw[e]
   exact k H (Same.refl H)
  |gap o=>
   rw[decide_eq_false (show ¬(Pt.gap o).tag=Str.ofString "word" from(by decide +kernel:¬Str.ofString "gap"=Str.ofString "word"))]
   refine iteF ⟨_,rfl,z,rfl,tz,fun H1 s1=>?_⟩
   refine⟨_,rfl,q,_,_,_,rfl,rfl,SqT.of (s1 _ _ hq),rfl,?_,k H1 s1⟩
   exact zoh _ _
end
def badL (r:List Str):List Str:=r.filter fun y=>(zGa y).isNone
theorem ztf {z:Str}(h:8<(zh z).length):rowM z=none:=by
 unfold rowM zTa
 cases badM (zh z) with
 |some i=>rfl
 |none=>
  show(if (if (zh z).length > 8 then some 8 else none:Option Nat).isSome then none else some (zh z))=none
  rw[if_pos h]
  rfl
theorem zBh {z:Str}(h:¬8<(zh z).length):(rowM z).isNone=!decide (badL (zh z)=[]):=by
 unfold rowM zTa
 have e:badM (zh z)=none↔badL (zh z)=[]:=by
  unfold badM badL
  rw[List.findIdx?_eq_none_iff,List.filter_eq_nil_iff]
  exact⟨fun q y hy=>by rw[q y hy];exact Bool.false_ne_true,fun q y hy=>by
   cases c:(zGa y).isNone with
   |false=>rfl
   |true=>exact absurd c (q y hy)⟩
 cases hb:badM (zh z) with
 |some i=>
  rw[decide_eq_false fun q=>by rw[e.mpr q] at hb;cases hb]
  rfl
 |none=>
  rw[decide_eq_true (e.mp hb)]
  show(if (if (zh z).length > 8 then some 8 else none:Option Nat).isSome then none else some (zh z)).isNone=false
  rw[if_neg h]
  rfl
theorem zCh (l:List Str):PyData.eqv (.list (l.map PyData.str)) (.list [])=decide (l=[]):=by
 cases l with
 |nil=>rfl
 |cons a l=>rfl
theorem ztk (p:Pt):decide (V.str p.tag=V.str (Str.ofString "gap"))=p.zqo:=by
 cases p with
 |gap o=>
  show decide (V.str (Str.ofString "gap")=V.str (Str.ofString "gap"))=true
  exact decide_eq_true rfl
 |word z=>
  show decide (V.str (Str.ofString "word")=V.str (Str.ofString "gap"))=false
  decide +kernel
theorem zdm (ps:List Pt)(r:List Str):(decide (ps.length=r.length)&&(List.range (min ps.length r.length)).all (zea ps r))=(misM ps r).isNone:=by
 rw[Bool.eq_iff_iff,Option.isNone_iff_eq_none,zqc,Bool.and_eq_true,decide_eq_true_iff,List.all_eq_true]
 constructor
 ·rintro⟨h1,h2⟩
  exact⟨h1,fun i hi=>h2 i (List.mem_range.mpr (by omega))⟩
 ·rintro⟨h1,h2⟩
  exact⟨h1,fun i hi=>h2 i (by have:=List.mem_range.mp hi;omega)⟩
section
variable {P:Program}{w:World}{K:W.Frag}{mg:zT3}{base:Heap}
abbrev nEn:List Str:=["_law_forms","_law_text_here","_law_row","_law_word_here","_law_at","_law_form","_law_taken","_law_part"]
theorem scEn:FnScope nEn ["_law_forms","_law_text_here"] (zb sEn):=.of (by decide +kernel)
def zDh:Scope:=⟨.function,[(".0",.local),("_law_word_here",.local),("_law_sort",.globalImplicit)],false,false,[]⟩
theorem scE1:BlkScope (zb sEn) nEn ["_law_word_here"] [] [] zDh:=.of (by decide +kernel)
def zuk:Scope:=⟨.function,[(".0",.local),("_law_k",.local),("_law_form",.free),("_law_row",.free)],false,false,[]⟩
theorem scE2:BlkScope (zb sEn) nEn ["_law_k"] ["_law_form","_law_row"] [5,2] zuk:=.of (by decide +kernel)
theorem zKn (F:Fun K "_law_entry" "_law_entry" sEn f fd)(len:mg "len"=none)(range:mg "range"=none)(zip:mg "zip"=none)(tup:mg "tuple"=none)
  (FS:Fun K "_law_sort" "_law_sort" sLs fS dS)(bS:Binds K dS ["_law_text_here"] [])(gS:mg "_law_sort"=some (.ref fS))(GS:FnOk P w K mg base CX0 4 fS dS ["_law_text_here"] spSo)
  (FT:Fun K "_law_takes" "_law_takes" sTk fT dT)(bT:Binds K dT ["_law_part","_law_word_here"] [])(gT:mg "_law_takes"=some (.ref fT))(GT:FnOk P w K mg base CX0 5 fT dT ["_law_part","_law_word_here"] zsk):FnOk P w K mg base CX0 6 f fd ["_law_forms","_law_text_here"] spEo:=by
 refine F.ok scEn (fun vs H Q E h=>?_) (fun cdv A outer s H vs Q E hr h=>?_)
 ·obtain⟨f,vf,fs,z,rfl,_⟩:=h
  rfl
 ·obtain⟨f,vf,fs,z,rfl,hf,hF,hok,tz,k⟩:=h
  have hu:=hr.units
  have hr4:Room 4 _:=hr.mono (by decide)
  refine⟨_,ze (zH (i:=2) scEn.nd rfl (Or.inr rfl) (zQa PySem.F.plainAttrs_str PySem.F.slot_str_split PySem.F.type_str_split zVb (pv 1) (za zx zd)))
   (ze (zM (zgl (PW.pt (zPb (zr zld (zq zo (by rfl) len PySem.boot_len (za (pv 2) zd)) zg (zu _))
     (zDb (zr (zaf hu) (zWa scE1 rfl rfl rfl (zja (pv 2)) (fun fp C s1 H1=>zC (i:=0) scE1.nd rfl (Or.inl rfl)) (fun fp C s1 H1=>zIa (zr zVd (zi GS hr4 rfl gS FS.kp bS .nil zw (za (pv 0) zd)) zia (zu _))) (fun fp C s1 H1=>pv 0)) (zva zd) (zu _))))))
     (zf (zp (zua (za zg (za (zua zd) zd))))) zt)
   (ze (zta PassesOwn.never rfl (zZ rfl range (za (zq zo (by rfl) len PySem.boot_len (za (pv 0) zd)) zd)) (zC (i:=4) scEn.nd rfl (Or.inl rfl))
    (ze (zH (i:=5) scEn.nd rfl (Or.inr rfl) (zU zfa (pv 0) (pv 4) (fun _ _=>rfl)))
    (ze (zeb (zH (i:=6) scEn.nd rfl (Or.inl rfl) (zQ zV (zq zo (by rfl) len PySem.boot_len (za (pv 5) zd)) (zq zo (by rfl) len PySem.boot_len (za (pv 2) zd)) (zu _))))
    (ze (zta PassesOwn.never rfl (zLj true false rfl zip (za (pv 5) (za (pv 2) zd))) (zUc (n:=2) rfl (zpa (zC (i:=7) scEn.nd rfl (Or.inl rfl)) (zpa (zC (i:=3) scEn.nd rfl (Or.inl rfl)) zdc)))
     (zf (zH (i:=6) scEn.nd rfl (Or.inl rfl) (zQb (pv 6) (zjb (zi GT hr rfl gT FT.kp bT .nil zw (za (pv 7) (za (pv 3) zd))))))))
    (zf (zM (zba (pv 6)) (zf (zp (zua (za (pv 4) (za (zS zL (by rfl) tup PyProof.Rows.boot_tuple (za (zWa scE2 rfl rfl rfl (zZ rfl range (za (zq zo (by rfl) len PySem.boot_len (za (pv 2) zd)) zd)) (fun fp C s1 H1=>zC (i:=0) scE2.nd rfl (Or.inl rfl))
      (fun fp C s1 H1=>zIa (zr zV (zU (r:=rIxT K) zfa (zU (r:=rIxT K) zfa (pv 1) (pv 0) (fun _ _=>rfl)) zg (fun _ _=>rfl)) zx (zu _))) (fun fp C s1 H1=>zU (r:=rIxL K) zEa (pv 2) (pv 0) (fun _ _=>rfl))) zd)) zd))))) zt))))))
   (zf (zp (zua (za zg (za (zua zd) zd))))))),?_⟩
  have l1:=split_len z (Str.ofString " ")
  have l2:=zob z (Str.ofString " ")
  have l3:=tz.1
  have big:1002<=sizeLine:=by decide
  refine⟨_,rfl,rfl,z,_,rfl,rfl,rfl,zza tz (by decide),by omega,by omega,fun lr hlr=>?_⟩
  have rt:∀y∈zh z,Tx 1000 y:=zcc tz
  change (zh z).length<=z.length+2 at l1
  have s1:Same H (upd H lr (.lst ((zh z).map V.str))):=(Same.refl H).zao hlr
  have q1:upd H lr (.lst ((zh z).map V.str)) lr=some (.lst ((zh z).map V.str)):=zc
  change zfl _ _ (upd H lr (.lst ((zh z).map V.str))) _
  generalize upd H lr (.lst ((zh z).map V.str))=H1 at s1 q1 ⊢
  have strange:∀(H2:Hp),Same H H2->entM fs z=(8,[])->([]:List V).length<=sizeLine/\∀g,H2 g=none->([V.int 8,.ref g]:List V).length<=sizeLine/\∀p,upd H2 g (.tup []) p=none->Q (.ref p) (upd (upd H2 g (.tup [])) p (.tup [.int 8,.ref g])):=by
   intro H2 s2 e
   refine⟨Nat.zero_le _,fun g hg=>⟨(by show 2<=sizeLine;decide),fun p hp=>?_⟩⟩
   have s3:=(Same.refl H2).zao (o:=.tup []) hg
   have ng:g≠p:=fun e=>by rw[<- e,zc] at hp;cases hp
   refine k p g _ (s2.trans (s3.trans ((Same.refl _).zao hp))) ?_ ?_
   ·rw[e]
    exact zc
   ·rw[e,zy ng]
    exact zc
  refine⟨fun b H2=>Same H1 H2/\b=(rowM z).isNone,?_,?_⟩
  ·refine⟨_,rfl,lr,_,rfl,.inl (SqL.of q1),_,_,rfl,rfl,decide (8<(zh z).length),(congrArg V.bl (decide_eq_decide.mpr (by rw[List.length_map];exact Int.ofNat_lt))),?_⟩
   by_cases c:8<(zh z).length
   ·rw[decide_eq_true c]
    exact iteT ⟨Same.refl _,by rw[ztf c];rfl⟩
   ·rw[decide_eq_false c]
    refine iteF ⟨_,rfl,lr,rfl,⟨_,SqL.of q1⟩,fun D hD=>?_⟩
    refine zAa (K:=K) (a:=lr) (xs:=(zh z).map V.str) (fun j ys H3=>ys=(badL ((zh z).take j)).map V.str/\Same H1 H3/\H3 D=some (.lst ys)) (Nat.le_of_lt (zv (by rw[List.length_map];omega))) ⟨rfl,(Same.refl H1).zao hD,zc⟩
     (fun j ys H3 h=>by rw[h.1,List.length_map];refine Nat.le_trans (List.length_filter_le _ _) ?_;rw[List.length_take];exact Nat.min_le_left _ _) (fun j ys H3 h=>SqL.of (h.2.1 _ _ q1)) ?_ ?_
    ·rintro j ys H3 x N M hx ⟨rfl,s3,hD3⟩ hN hM
     rw[List.getElem?_map] at hx
     cases ey:(zh z)[j]? with
     |none=>rw[ey] at hx;cases hx
     |some y=>
      rw[ey] at hx
      cases hx
      have tk:badL ((zh z).take (j+1))=badL ((zh z).take j)++(if (zGa y).isNone then[y] else[]):=by
       unfold badL
       rw[List.take_add_one,ey,List.filter_append]
       show _++List.filter _ [y]=_
       rw[List.filter_cons,List.filter_nil]
      refine⟨_,rfl,y,rfl,rt y (List.mem_of_getElem? ey),fun H4 s4=>⟨rfl,(zGa y).isNone,?_,?_⟩⟩
      ·cases zGa y<;>rfl
      ·cases c2:(zGa y).isNone with
       |true=>
        refine iteT ⟨_,rfl,?_⟩
        have hD4:=s4 _ _ hD3
        refine hN _ H4 hD4 ⟨by rw[tk,c2,List.map_append];rfl,(s3.trans s4).zao hD,zc⟩
       |false=>
        refine iteF (hM H4 ⟨by rw[tk,c2];exact congrArg (List.map V.str) (List.append_nil _).symm,s3.trans s4,s4 _ _ hD3⟩)
    ·rintro ys H3 ⟨rfl,s3,hD3⟩
     rw[List.length_map,List.take_of_length_le (Nat.le_refl _)] at hD3
     refine⟨Nat.zero_le _,fun e he=>?_⟩
     have s4:=(Same.refl H3).zao (o:=.lst []) he
     refine⟨.list _,.list [],.lst (SqL.of (s4 _ _ hD3)) (GL.zKb _),.lst (SqL.of zc) .nil,GL.zkf (n:=1000) (fun y hy=>rt y ((List.mem_filter.mp hy).1)),GL.zph,!decide (badL (zh z)=[]),congrArg V.bl (congrArg (!·) (zCh _)),s3.trans s4,(zBh c).symm⟩
  rintro b H2 ⟨s2,rfl⟩
  have t2:=s1.trans s2
  cases hm:rowM z with
  |none=>
   exact iteT (strange H2 t2 (by unfold entM;rw[hm]))
  |some r=>
   obtain⟨er,_,r8⟩:=zJd hm
   rw[<- er] at rt
   have q2:=s2 _ _ q1
   rw[<- er] at q2
   clear l1 l2 er q1
   refine iteF ⟨_,rfl,f,_,rfl,.inr (SqT.of (t2 _ _ hf)),_,rfl,by omega,by rw[hF.1];have:=hok.1;omega,?_⟩
   rw[Int.toNat_natCast]
   have fl:=hF.1
   have ent:entM fs z=match firstM fs r with|none=>((8,[]):Nat×List Str)|some i=>(i,zoa (fs.getD i []) r r.length):=by unfold entM;rw[hm]<;>rfl
   refine zma (n:=vf.length) (fun j σ H3=>∃(v3 v4 v5 v6 v7:Option V),σ=[some (.ref f),some (.str z),some (.ref lr),v3,v4,v5,v6,v7]/\Same H2 H3/\∀i ps,i<j->fs[i]?=some ps->(misM ps r).isNone=false)
    ⟨none,none,none,none,none,rfl,Same.refl H2,fun i ps h _=>by omega⟩ ?_ ?_
   ·rintro j σ H3 hj ⟨v3,v4,v5,v6,v7,rfl,s3,hno⟩
    rw[Int.zero_add]
    have hj':j<fs.length:=by omega
    have ej:fs[j]?=some fs[j]:=List.getElem?_eq_getElem hj'
    have hps8:=(hok.2 fs[j] (List.getElem_mem hj')).1
    have eD:fs.getD j []=fs[j]:=by simp[List.getD,hj']
    obtain⟨q,us,g1,g2,g3⟩:=hF.2 j _ ej
    generalize fs[j]=ps at ej g3 hps8 eD
    have t3:=t2.trans s3
    have q3:=s3 _ _ q2
    refine⟨_,rfl,_,rfl,f,_,_,_,rfl,rfl,SqT.of (t3 _ _ hf),zY g1,?_⟩
    refine⟨fun σ' H'=>σ'=[some (.ref f),some (.str z),some (.ref lr),v3,some (.int (j:Int)),some (.ref q),some (.bl (decide (ps.length=r.length))),v7]/\H3=H',?_,?_⟩
    ·refine⟨_,rfl,q,_,rfl,.inr (SqT.of (t3 _ _ g2)),_,rfl,lr,_,rfl,.inl (SqL.of q3),rfl,?_,rfl⟩
     have e:decide (V.int (us.length:Int)=V.int ((r.map V.str).length:Int))=decide (ps.length=r.length):=decide_eq_decide.mpr (by
      rw[g3.1,List.length_map]
      exact⟨fun e=>by injection e with e;exact Int.ofNat_inj.mp e,fun e=>by rw[e]⟩)
     rw[e]
     rfl
    rintro _ _ ⟨rfl,rfl⟩
    refine⟨_,rfl,_,rfl,q,lr,rfl,⟨_,SqT.of (t3 _ _ g2)⟩,⟨_,SqL.of q3⟩,?_⟩
    refine zci (K:=K) (t:=true) (u:=false) (a:=q) (b:=lr) (xs:=us) (ys:=r.map V.str) (n:=min ps.length r.length) (by rw[g3.1,List.length_map])
     (fun i σ H4=>∃(v3 v7:Option V),σ=[some (.ref f),some (.str z),some (.ref lr),v3,some (.int (j:Int)),some (.ref q),some (.bl (decide (ps.length=r.length)&&(List.range i).all (zea ps r))),v7]/\Same H3 H4)
     ⟨v3,v7,by rw[List.range_zero,List.all_nil,Bool.and_true],Same.refl H3⟩ (fun i σ H4 _ ⟨_,_,_,h⟩=>⟨SqT.of ((t3.trans h) _ _ g2),SqL.of (h _ _ q3)⟩) ?_ ?_
    ·rintro i x y σ H4 p hx hy ⟨v3',v7',rfl,s4⟩ hp
     have hi:i<ps.length:=by rw[<- g3.1];exact(List.getElem?_eq_some_iff.mp hx).1
     have ei:ps[i]?=some ps[i]:=List.getElem?_eq_getElem hi
     obtain⟨qi,k1,k2⟩:=g3.2 i _ ei
     rw[hx] at k1
     cases k1
     rw[List.getElem?_map] at hy
     cases ew:r[i]? with
     |none=>rw[ew] at hy;cases hy
     |some wd=>
      rw[ew] at hy
      cases hy
      generalize ps[i]=pt at ei k2
      have s5:Same H4 (upd H4 p (.tup [.ref qi,.str wd])):=(Same.refl H4).zao hp
      have ta:zea ps r i=zGb pt wd:=by unfold zea;rw[ei,ew]
      have al:(List.range (i+1)).all (zea ps r)=((List.range i).all (zea ps r)&&zGb pt wd):=by
       rw[List.range_succ,List.all_append,List.all_cons,List.all_nil,Bool.and_true,ta]
      refine⟨p,_,rfl,SqT.of zc,rfl,_,_,rfl,_,_,rfl,rfl,?_⟩
      refine⟨_,rfl,_,rfl,?_⟩
      cases hb:(decide (ps.length=r.length)&&(List.range i).all (zea ps r)) with
      |false=>exact iteF ⟨_,_,by rw[al,<- Bool.and_assoc,hb,Bool.false_and];rfl,s4.trans s5⟩
      |true=>
       refine iteT ⟨_,rfl,_,rfl,qi,pt,wd,rfl,(t3.trans (s4.trans s5)) _ _ k2,rt wd (List.mem_of_getElem? ew),fun H5 s6=>?_⟩
       exact⟨_,_,by rw[al,<- Bool.and_assoc,hb,Bool.true_and];rfl,s4.trans (s5.trans s6)⟩
    ·rintro σ H4 ⟨v3',v7',rfl,s4⟩
     rw[zdm]
     refine⟨_,rfl,_,rfl,?_⟩
     have t4:=t3.trans s4
     have q4:=s4 _ _ q3
     cases hms:(misM ps r).isNone with
     |false=>
      refine iteF ⟨_,_,_,_,_,rfl,s3.trans s4,fun i ps' hi he=>?_⟩
      by_cases h:i<j
      ·exact hno i ps' h he
      ·have:i=j:=by omega
       subst this
       rw[ej] at he
       cases he
       exact hms
     |true=>
      have fe:firstM fs r=some j:=by
       unfold firstM
       rw[List.findIdx?_eq_some_iff_getElem]
       refine⟨hj',?_,fun i hi=>?_⟩
       ·have:fs[j]=ps:=by rw[List.getElem?_eq_getElem hj'] at ej;exact Option.some.inj ej
        rw[this]
        exact hms
       ·rw[hno i fs[i] hi (by simp)]
        decide
      rw[fe,] at ent
      have ent:entM fs z=(j,zoa ps r r.length):=by rw[ent];show(j,zoa (fs.getD j []) r r.length)=_;rw[eD]
      have pl:=zJe (Option.isNone_iff_eq_none.mp hms)
      refine iteT ⟨_,rfl,_,rfl,lr,_,rfl,.inl (SqL.of q4),_,rfl,by omega,by rw[List.length_map];omega,fun D hD=>?_⟩
      rw[List.length_map,Int.toNat_natCast]
      refine zsc (lo:=0) (n:=r.length) (fun i ys H5=>ys=(zoa ps r i).map V.str/\Same H4 H5/\H5 D=some (.lst ys)) (Nat.le_of_lt (zv (by omega))) ⟨rfl,(Same.refl H4).zao hD,zc⟩
       (fun i ys H5 h=>by rw[h.1,List.length_map];exact zdd ps r i) ?_ ?_
      ·rintro i ys H5 N M hi ⟨rfl,s5,hD5⟩ hN hM
       rw[Int.zero_add]
       have hi':i<ps.length:=by omega
       have ei:ps[i]?=some ps[i]:=List.getElem?_eq_getElem hi'
       obtain⟨qi,k1,k2⟩:=g3.2 i _ ei
       have ew:r[i]?=some r[i]:=List.getElem?_eq_getElem hi
       have ga:zIe ps i=ps[i].zqo:=by unfold zIe;rw[ei];rfl
       generalize ps[i]=pt at ei k2 ga
       generalize r[i]=wd at ew
       have k2:H qi=some (.tup [.str pt.tag,pt.val]):=k2
       have t5:=t4.trans s5
       refine⟨_,rfl,_,rfl,q,_,_,_,rfl,rfl,SqT.of (t5 _ _ g2),zY k1,qi,_,_,_,rfl,rfl,SqT.of (t5 _ _ k2),rfl,rfl,pt.zqo,congrArg V.bl (ztk pt),?_⟩
       cases hg:pt.zqo with
       |true=>
        refine iteT ⟨_,rfl,_,rfl,lr,_,_,_,rfl,rfl,SqL.of (s5 _ _ q4),zY (by rw[List.getElem?_map,ew];rfl),?_⟩
        refine hN _ H5 hD5 ⟨?_,s5.zao hD,zc⟩
        rw[zdb,ga,hg,if_pos rfl,List.map_append,ew]
        rfl
       |false=>
        refine iteF (hM H5 ⟨?_,s5,hD5⟩)
        rw[zdb,ga,hg,if_neg Bool.false_ne_true,List.append_nil]
      ·rintro ys H5 ⟨rfl,s5,hD5⟩
       refine⟨D,_,rfl,.inl ⟨SqL.of hD5,fun g hg=>?_⟩⟩
       have s6:=(Same.refl H5).zao (o:=.tup ((zoa ps r r.length).map V.str)) hg
       have q6:upd H5 g (.tup ((zoa ps r r.length).map V.str)) g=_:=zc
       generalize upd H5 g (.tup ((zoa ps r r.length).map V.str))=H6 at s6 q6 ⊢
       refine⟨(by show 2<=sizeLine;decide),fun p hp=>?_⟩
       have s7:=(Same.refl H6).zao (o:=.tup [.int (j:Int),.ref g]) hp
       refine k p g _ (t4.trans (s5.trans (s6.trans s7))) ?_ ?_
       ·rw[ent]
        exact zc
       ·rw[ent]
        exact s7 _ _ q6
   ·rintro σ H3 ⟨v3,v4,v5,v6,v7,rfl,s3,hno⟩
    have e:firstM fs r=none:=by
     unfold firstM
     rw[List.findIdx?_eq_none_iff]
     intro ps hps
     obtain⟨i,hi,rfl⟩:=List.getElem_of_mem hps
     exact hno i _ (by rw[fl];exact hi) (by simp)
    rw[e] at ent
    exact strange H3 (t2.trans s3) ent
end
end SL
namespace L2
open PySem PyProof
theorem FnOk.up1 {P:Program}{w:World}{K:W.Frag}{mg:zT3}{base:Heap}{k:Nat}{f:Addr}{fd:FuncData}{ps:List Str}{sp:Sp}(F:FnOk P w K mg base CX0 k f fd ps sp):FnOk P w K mg base (CX1 P w) k f fd ps sp:=
 ⟨F.len,fun A outer s H args us vs Q E hr he hb hv hs=>codeAny_mono (F.run A outer s H args us vs Q E hr he hb hv hs) fun r s' hq=>by
  cases r with
  |error e=>exact(show False from hq).elim
  |ok fl=>cases fl<;>exact hq⟩
theorem FunD.okX {P:Program}{w:World}{K:W.Frag}{mg:zT3}{base:Heap}{x qual:Str}{st:Stmt}{f:Addr}{fd:FuncData}{its:Array Value}{N ps:List Str}{k:Nat}{sp:Sp}(F:FunD K x qual st f fd its)(S:FnScope N ps (zb st))(len:∀vs H Q E,sp vs H Q E->vs.length=ps.length)
  (hbody:∀(cdv:Value)(A:Around)(outer:List Env)(s:Shared)(H:Hp)(vs:List V)(Q:VK)(E:XK),Room k (A.deeper (PyProof.Rows.envOfC qual (zb st) s.heap.objs.size f cdv))->sp vs H Q E→
   ∃t,PSs (cxOf (CX1 P w) P w K mg base N qual (zb st) f cdv A outer s H E) (zj st) t/\t { nx:=fun _ H'=>Q .non H',rt:=Q } (start N vs) H):FnOk P w K mg base (CX1 P w) (k+1) f fd ps sp:=by
 obtain⟨oc,od,dT,kV,doc,pm,an,cdv,ct,osl,rfl,lk,hcd,_⟩:=F.ex
 exact zMh lk hcd S len fun A outer s H vs Q E hr hsp=>hbody cdv A outer s H vs Q E hr hsp
theorem FnOk.orX {P:Program}{w:World}{K:W.Frag}{mg:zT3}{base:Heap}{CX:CXT}{k:Nat}{f:Addr}{fd:FuncData}{ps:List Str}{sp sq:Sp}(F:FnOk P w K mg base CX k f fd ps sp)(G:FnOk P w K mg base CX k f fd ps sq):FnOk P w K mg base CX k f fd ps (fun vs H Q E=>sp vs H Q E\/sq vs H Q E):=
 ⟨fun vs H Q E q=>q.elim (F.len vs H Q E) (G.len vs H Q E),fun A outer s H args us vs Q E hr he hb hv hs=>hs.elim (F.run A outer s H args us vs Q E hr he hb hv) (G.run A outer s H args us vs Q E hr he hb hv)⟩
end L2
namespace GL
open PySem L2 SL
def spNm (CN:Addr):Sp:=fun vs H Q _=>∃(a:Addr)(x:V),vs=[.ref a,x]/\H a=some (.ext (zaa a CN none))/\∀d,H d=none->d≠a->Q .non (upd (upd H a (.ext (zaa a CN (some d)))) d (.xd [("number",x)]))
theorem zij {K:W.Frag}{CN:Addr}{H:Hp}{E:XK}{x:V}(rz:zcb K CN=true)(kE:∀d H',Same H H'->H' d=some (.xd [("number",x)])->E (.ref CN) (some d) H')(H2:Hp)(E0':XK)(s2:Same H H2):∀a,H2 a=none->spNm CN (.ref a::([x]++[])) (upd H2 a (.ext (zaa a CN none))) (fun v H3=>v=.non/\∃a' C dd,V.ref a=.ref a'/\H3 a'=some (.ext (zaa a' C dd))/\H a'=none/\zcb K C=true/\E (.ref C) dd (untr H3 a')) E0':=by
 intro a ha
 have haH:H a=none:=s2.zoo ha
 refine⟨a,_,rfl,zc,fun d hd hn=>⟨rfl,a,CN,some d,rfl,by rw[zy (Ne.symm hn),zc],haH,rz,?_⟩⟩
 have hd2:H2 d=none:=by rw[zy hn] at hd;exact hd
 refine kE d _ (fun b o e=>?_) ?_
 ·have nb:b≠a:=zJ e haH
  rw[zVa nb,zy (zJ (s2 _ _ e) hd2),zy nb,zy nb]
  exact s2 _ _ e
 ·rw[zVa hn,zc]
def zUf (CM:Addr):Sp:=fun vs H Q E=>∃(a:Addr)(qs:List Addr)(rows:List (List Str))(most:Int),vs=[.ref a,.int most]/\H a=some (.tup (qs.map V.ref))/\zT H qs rows/\rows.length<=64/\8<(unl rows).length∧
 ∀d H',Same H H'->H' d=some (.xd [("number",.int ((unl rows).length:Int))])->E (.ref CM) (some d) H'
section
variable {P:Program}{w:World}{K:W.Frag}{mg:zT3}{base:Heap}{CM:Addr}
theorem scXm:FnScope ["self","number"] ["self","number"] (zb sXm):=.of (by decide +kernel)
theorem zLn (F:Fun K "__init__" "TooMany.__init__" sXm f fd)(hS:zFa K CM "number"=true):FnOk P w K mg base CX0 1 f fd ["self","number"] (spNm CM):=by
 refine F.ok scXm (fun vs H Q E h=>?_) (fun cdv A outer s H vs Q E hr h=>?_)
 ·obtain⟨a,x,rfl,_⟩:=h
  rfl
 ·obtain⟨a,x,rfl,ha,k⟩:=h
  exact⟨_,zf (zyd (pv 0) (pv 1) rfl),_,rfl,_,rfl,a,CM,rfl,ha,hS,fun d hd hn=>k d hd hn⟩
theorem zem {its:Array Value}(F:FunD K "groups" "groups" sGr f fd its)(T:Txt mg)(hmu:∃u,mg "MOST_UNLIKE"=some u/\RelV (.int 8) u)
  (FU:Fun K "unlike" "unlike" sUn fU fdU)(bU:Binds K fdU ["rows"] [])(gU:mg "unlike"=some (.ref fU))
  (M:MkX K CM fI)(gN:mg "TooMany"=some (.ref CM))(bI:Binds K dI ["self","number"] [])(GI:FnOk P w K mg base CX0 1 fI dI ["self","number"] (spNm CM))(rz:zcb K CM=true):
  FnOk P w K mg base (CX1 P w) 20 f fd ["rows","most"] (zUf CM):=by
 have GU:FnOk P w K mg base CX0 1 fU fdU ["rows"] spUn:=zvi FU T
 refine F.okX scGr (fun vs H Q E h=>?_) (fun cdv A outer s H vs Q E hr h=>?_)
 ·obtain⟨a,qs,rows,most,rfl,_⟩:=h
  rfl
 ·obtain⟨a,qs,rows,most,rfl,ha,hR,h64,h8,kE⟩:=h
  obtain⟨u8,g8,r8⟩:=hmu
  have hr1:Room 1 _:=hr.mono (by decide)
  have hr2:Room 2 _:=hr.mono (by decide)
  refine⟨_,ze (zH (i:=2) scGr.nd rfl (Or.inr rfl) (zi GU hr1 rfl gU FU.kp bU .nil zw (za (pv 0) zd)))
   (ze (zM (zr zld (zq zo (by rfl) T.len PySem.boot_len (za (pv 2) zd)) (zra (v:=.int 8) (by rfl) g8 r8) (zu _)) (zf (zrb rfl zYa (zXb M GI hr2 rfl gN bI .nil zw (za (zq zo (by rfl) T.len PySem.boot_len (za (pv 2) zd)) zd)))) zt)
   zzc),?_⟩
  refine⟨_,rfl,a,qs,rows,rfl,ha,hR,by omega,fun p qs' H1 s1 hp hU=>?_⟩
  have hql:(qs'.map V.ref).length=(unl rows).length:=by rw[List.length_map];exact hU.1
  refine⟨_,rfl,p,_,rfl,.inr (SqT.of hp),_,_,rfl,rfl,_,rfl,?_⟩
  refine zJb (decide_eq_true (by rw[hql];omega)) ?_
  refine⟨_,rfl,p,_,rfl,.inr (SqT.of hp),(by show 1<=sizeLine;decide),?_⟩
  rw[hql]
  exact zij rz kE H1 _ s1
theorem zfm {its itg:Array Value}(F:FunD K "forms_of" "forms_of" sFo f fd its)(T:Txt mg)
  (FU:Fun K "unlike" "unlike" sUn fU fdU)(bU:Binds K fdU ["rows"] [])(gU:mg "unlike"=some (.ref fU))
  (FG:FunD K "groups" "groups" sGr fG fdG itg)(bG:Binds K fdG ["rows","most"] [])(gG:mg "groups"=some (.ref fG))(GG:FnOk P w K mg base (CX1 P w) 20 fG fdG ["rows","most"] (zUf CM))
  (FL:Fun K "least_form" "least_form" sLf fL fdL)(bL:Binds K fdL ["rows"] [])(gL:mg "least_form"=some (.ref fL))(GLf:FnOk P w K mg base CX0 7 fL fdL ["rows"] zsh)
  (FR:Fun K "rows_in" "rows_in" sRi fR fdR)(bR:Binds K fdR ["group","known"] [])(gR:mg "rows_in"=some (.ref fR)):
  FnOk P w K mg base (CX1 P w) 21 f fd ["rows","most"] (zUf CM):=by
 have GU:FnOk P w K mg base CX0 1 fU fdU ["rows"] spUn:=zvi FU T
 have GR:FnOk P w K mg base CX0 1 fR fdR ["group","known"] spRi:=zkk FR
 refine F.okX scFo (fun vs H Q E h=>?_) (fun cdv A outer s H vs Q E hr h=>?_)
 ·obtain⟨a,qs,rows,most,rfl,_⟩:=h
  rfl
 ·obtain⟨a,qs,rows,most,rfl,ha,hR,h64,h8,kE⟩:=h
  have hr1:Room 1 _:=hr.mono (by decide)
  have hr7:Room 7 _:=hr.mono (by decide)
  refine⟨_,ze (zH (i:=2) scFo.nd rfl (Or.inr rfl) (zi GU hr1 rfl gU FU.kp bU .nil zw (za (pv 0) zd)))
   (zf (zp (zS zL (by rfl) T.tuple PyProof.Rows.boot_tuple (za (zWa zBi rfl rfl rfl (zkc (zi GG hr rfl gG FG.kp bG .nil zOg (za (pv 0) (za (pv 1) zd)))) (fun fp C s1 H1=>zC (i:=0) zBi.nd rfl (Or.inl rfl)) (fun fp C s1 H1=>zla)
    (fun fp C s1 H1=>zi GLf hr7 rfl gL FL.kp bL .nil zw (za (zi GR hr1 rfl gR FR.kp bR .nil zw (za (pv 0) (za (pv 1) zd))) zd))) zd)))),?_⟩
  refine⟨_,rfl,a,qs,rows,rfl,ha,hR,by omega,fun p qs' H1 s1 hp hU=>?_⟩
  exact⟨_,rfl,_,rfl,a,qs,rows,most,rfl,s1 _ _ ha,hR.zro s1.tups,h64,h8,fun d H' s' hd=>kE d H' (s1.trans s') hd⟩
end
theorem zvk:¬zBa=sGap:=by decide +kernel
def gapB (rows:List (List Str))(p:Nat):Bool:=!(rows.map (wAt p)).all fun w=>decide (w=(rows.map (wAt p)).headD Str.empty)
structure FormOk (rows:List (List Str))(n:Nat):Prop where
 len:∀r∈rows,r.length=n
 srt:∀p,p<n->∀r∈rows,∀q∈rows,lawS (wAt p r)=lawS (wAt p q)
theorem zEh {rows:List (List Str)}{p:Nat}(hne:rows≠[])(h:∀r∈rows,∀q∈rows,lawS (wAt p r)=lawS (wAt p q)):zTc (rows.map (wAt p))=some (if gapB rows p then(sGap,(lawS ((rows.map (wAt p)).headD Str.empty)).str) else(zBa,(rows.map (wAt p)).headD Str.empty)):=by
 cases rows with
 |nil=>exact absurd rfl hne
 |cons r0 rows=>
  unfold zTc zCd gapB
  have hs:((r0::rows).map (wAt p)).all (fun w=>decide (lawS w=lawS (((r0::rows).map (wAt p)).headD Str.empty)))=true:=by
   rw[List.all_eq_true]
   intro x hx
   obtain⟨r,hr,rfl⟩:=List.mem_map.mp hx
   exact decide_eq_true (h r hr r0 List.mem_cons_self)
  cases hw:((r0::rows).map (wAt p)).all (fun w=>decide (w=((r0::rows).map (wAt p)).headD Str.empty)) with
  |true=>rfl
  |false=>
   rw[if_neg Bool.false_ne_true,if_pos hs]
   rfl
theorem zHi {rows:List (List Str)}{p:Nat}(h:zTc (rows.map (wAt p))≠none):∀r∈rows,∀q∈rows,lawS (wAt p r)=lawS (wAt p q):=by
 have key:∀r∈rows,lawS (wAt p r)=lawS ((rows.map (wAt p)).headD Str.empty):=by
  intro r hr
  unfold zTc zCd at h
  split at h
  ·rename_i q
   rw[of_decide_eq_true (List.all_eq_true.mp q (wAt p r) (List.mem_map.mpr ⟨r,hr,rfl⟩))]
  ·split at h
   ·rename_i q
    exact of_decide_eq_true (List.all_eq_true.mp q (wAt p r) (List.mem_map.mpr ⟨r,hr,rfl⟩))
   ·exact absurd rfl h
 exact fun r hr q hq=>(key r hr).trans (key q hq).symm
theorem zse {rows:List (List Str)}{es:List (Str×Str)}(h:zRa rows=some es):FormOk rows (rows.headD []).length:=by
 unfold zRa at h
 split at h
 ·rename_i ha
  split at h
  ·cases h
  ·rename_i hn
   refine⟨fun r hr=>of_decide_eq_true (List.all_eq_true.mp ha r hr),fun p hp=>zHi fun z=>hn ?_⟩
   exact List.mem_map.mpr ⟨p,List.mem_range.mpr hp,z⟩
 ·cases h
theorem zIi {rows:List (List Str)}{p:Nat}:gapB rows p=false↔∀r∈rows,∀q∈rows,wAt p r=wAt p q:=by
 unfold gapB
 rw[Bool.not_eq_false',List.all_eq_true]
 constructor
 ·intro h r hr q hq
  have a:=of_decide_eq_true (h (wAt p r) (List.mem_map.mpr ⟨r,hr,rfl⟩))
  have b:=of_decide_eq_true (h (wAt p q) (List.mem_map.mpr ⟨q,hq,rfl⟩))
  rw[a,b]
 ·intro h x hx
  obtain⟨r,hr,rfl⟩:=List.mem_map.mp hx
  cases rows with
  |nil=>cases hr
  |cons r0 rows=>exact decide_eq_true (h r hr r0 List.mem_cons_self)
theorem zVf {rows:List (List Str)}{most:Int}{es:List (Str×Str)}(h:zBb most rows=some es):zRa rows=some es/\(zsb es:Int)<=most:=by
 unfold zBb at h
 cases hf:zRa rows with
 |none=>rw[hf] at h;cases h
 |some fs=>
  rw[hf] at h
  have h':(if most<(zsb fs:Int) then none else some fs)=some es:=h
  by_cases z:most<(zsb fs:Int)
  ·rw[if_pos z] at h'
   cases h'
  ·rw[if_neg z] at h'
   cases h'
   exact⟨rfl,by omega⟩
theorem zWf {rows:List (List Str)}{es:List (Str×Str)}(hne:rows≠[])(h:zRa rows=some es){i:Nat}(hi:i<(rows.headD []).length):es[i]?=some (if gapB rows i then(sGap,(lawS ((rows.map (wAt i)).headD Str.empty)).str) else(zBa,(rows.map (wAt i)).headD Str.empty)):=by
 have ok:=zse h
 have e:es=(List.range (rows.headD []).length).map fun p=>if gapB rows p then(sGap,(lawS ((rows.map (wAt p)).headD Str.empty)).str) else(zBa,(rows.map (wAt p)).headD Str.empty):=by
  unfold zRa at h
  rw[if_pos (List.all_eq_true.mpr fun r hr=>decide_eq_true (ok.len r hr))] at h
  have e1:zCa (rows.headD []).length rows=(List.range (rows.headD []).length).map fun p=>some (if gapB rows p then(sGap,(lawS ((rows.map (wAt p)).headD Str.empty)).str) else(zBa,(rows.map (wAt p)).headD Str.empty)):=by
   unfold zCa
   exact List.map_congr_left fun p hp=>zEh hne (ok.srt p (List.mem_range.mp hp))
  rw[e1] at h
  split at h
  ·cases h
  ·cases h
   rw[List.filterMap_map]
   generalize List.range (rows.headD []).length=l
   clear e1
   induction l with
   |nil=>rfl
   |cons p l ih=>
    rw[List.map_cons,<- ih]
    rfl
 rw[e,List.getElem?_map,List.getElem?_range hi]
 rfl
theorem zFh {rows:List (List Str)}{es:List (Str×Str)}(h:zRa rows=some es){r:List Str}(hr:r∈rows):zNb es r=true:=by
 have hne:rows≠[]:=fun z=>by rw[z] at hr;cases hr
 have ok:=zse h
 have hl:=zrf h
 rw[zzb]
 refine⟨by rw[hl,ok.len r hr],fun i e z he hz=>?_⟩
 have hi:i<(rows.headD []).length:=by rw[<- hl];exact(List.getElem?_eq_some_iff.mp he).1
 rw[zWf hne h hi] at he
 have ez:wAt i r=z:=by
  unfold wAt
  rw[List.getD_eq_getElem?_getD,hz]
  rfl
 have hd:∃r0∈rows,(rows.map (wAt i)).headD Str.empty=wAt i r0:=by
  cases rows with
  |nil=>cases hr
  |cons r0 rows=>exact⟨r0,List.mem_cons_self,rfl⟩
 obtain⟨r0,hr0,e0⟩:=hd
 rw[e0] at he
 cases hg:gapB rows i with
 |true=>
  rw[hg,if_pos rfl] at he
  cases he
  unfold takes
  rw[if_pos rfl]
  refine decide_eq_true ?_
  rw[<- ez,ok.srt i hi r hr r0 hr0]
 |false=>
  rw[hg,if_neg Bool.false_ne_true] at he
  cases he
  unfold takes
  rw[if_neg zvk]
  refine decide_eq_true ?_
  rw[<- ez]
  exact zIi.mp hg r hr r0 hr0
theorem zfd {α:Type}{p:α->Bool}{a:α}:∀{l:List α},l.Nodup->a∈l->p a=true->(∀b∈l,p b=true->b=a)->l.filter p=[a]
 | [],_,h,_,_=>by cases h
 |x::l,hn,ha,hp,hu=>by
  obtain⟨n1,n2⟩:=List.nodup_cons.mp hn
  by_cases e:x=a
  ·subst e
   rw[List.filter_cons_of_pos hp]
   have:l.filter p=[]:=by
    rw[List.filter_eq_nil_iff]
    intro b hb hpb
    exact n1 (by rw[<- hu b (List.mem_cons_of_mem _ hb) hpb];exact hb)
   rw[this]
  ·have hx:¬p x=true:=fun z=>e (hu x List.mem_cons_self z)
   rw[List.filter_cons_of_neg hx]
   exact zfd n2 ((List.mem_cons.mp ha).resolve_left (fun z=>e z.symm)) hp fun b hb=>hu b (List.mem_cons_of_mem _ hb)
def ownM (gs:zT1)(k:Int):List Nat:=(List.range gs.length).filter fun a=>decide (k∈gs.getD a [])
theorem zte:∀{gs:zT1},gs.flatten.Nodup->∀{a b:Nat}{k:Int},k∈gs.getD a []->k∈gs.getD b []->a=b
 | [],_,a,b,k,h,_=>by simp at h
 |g::gs,hn,a,b,k,ha,hb=>by
  rw[List.flatten_cons,List.nodup_append] at hn
  obtain⟨_,n2,n3⟩:=hn
  have inF:∀{c:Nat},k∈gs.getD c []->k∈gs.flatten:=fun {c} h=>by
   rw[List.getD_eq_getElem?_getD] at h
   cases e:gs[c]? with
   |none=>rw[e] at h;cases h
   |some g'=>rw[e] at h;exact List.mem_flatten.mpr ⟨g',List.mem_of_getElem? e,h⟩
  cases a with
  |zero=>
   cases b with
   |zero=>rfl
   |succ b=>exact absurd rfl (n3 k ha k (inF hb))
  |succ a=>
   cases b with
   |zero=>exact absurd rfl (n3 k hb k (inF ha))
   |succ b=>rw[zte n2 (a:=a) (b:=b) ha hb]
theorem own_one {gs:zT1}{n:Nat}(hp:gs.flatten.Perm (nums n)){k:Int}(h0:0<=k)(h1:k<(n:Int)):∃a,a<gs.length/\k∈gs.getD a []/\ownM gs k=[a]:=by
 have hk:k∈gs.flatten:=hp.mem_iff.mpr (zAb.mpr ⟨h0,h1⟩)
 obtain⟨g,hg,hkg⟩:=List.mem_flatten.mp hk
 obtain⟨a,ha,rfl⟩:=List.getElem_of_mem hg
 have hn:gs.flatten.Nodup:=hp.nodup_iff.mpr ((zGd n).imp fun h=>by omega)
 have hka:k∈gs.getD a []:=by simpa [List.getD,ha] using hkg
 exact⟨a,ha,hka,zfd List.nodup_range (List.mem_range.mpr ha) (decide_eq_true hka) fun b hb hpb=>zte hn (of_decide_eq_true hpb) hka⟩
theorem zwk {ks:List (List Str)}{most:Int}{g:List Int}(h:GGood ks most g){k:Nat}(hk:k<ks.length):zNb (fOf ks g) (ks.getD k [])=decide ((k:Int)∈g):=by
 have hf:=zQc h
 by_cases hm:(k:Int)∈g
 ·rw[decide_eq_true hm]
  refine zFh hf ?_
  unfold rIn
  exact List.mem_map.mpr ⟨(k:Int),hm,by rw[Int.toNat_natCast]⟩
 ·rw[decide_eq_false hm]
  obtain⟨es,h1,h2⟩:=h.wr
  have he:es=fOf ks g:=by
   have:=(zVf h1).1
   rw[hf] at this
   cases this
   rfl
  rw[<- he]
  unfold zsa at h2
  rw[List.any_eq_false] at h2
  have:=h2 k (List.mem_filter.mpr ⟨List.mem_range.mpr hk,by simp[hm]⟩)
  simpa using this
end GL
namespace L2
open PySem PySem.Spec PyProof.Rows
section
variable {X:Cx}
def rIdx (K:W.Frag):V->List V->Hp->VK->Prop:=fun x args H Q=>∃l xs y dx ds j,x=.ref l/\args=[y]/\SqL K H l xs/\DsAt K H xs ds/\DAt K H y dx/\DOk dx/\PyData.canLayAll0 ds=true/\(ds.findIdx? fun d=>PyData.eqv d dx)=some j/\ds.length<=10000/\Q (.int (j:Int)) H
theorem zJi (hu:X.A.units+64<cLine):MtR X "list.index" (rIdx X.K):=by
 intro pins s σ H x xs v us Q I rx rs h
 obtain⟨l,xs,y,dx,ds,j,rfl,rfl,hl,hds,hy,okx,okd,hj,hsz,q⟩:=h
 obtain⟨u,rfl,ru⟩:=rs.one
 obtain⟨bs,r2⟩:=hy.reads I ru
 cases rx
 obtain⟨as,r1⟩:=(DAt.lst hl hds).reads I (u:=.ref l) rfl
 cases r1 with
 |list h1 h2 h3 h4=>
  rename_i o its n as1
  obtain⟨cls,dd,data,sl⟩:=o
  simp only at h2 h3
  subst h2 h3
  have hm:=SeqAt.readsAll_map ds _ _ okd h4
  obtain⟨hjl,hje,hjn⟩:=List.findIdx?_eq_some_iff_getElem.mp hj
  have hlen:its.toList.length=ds.length:=by rw[<- hm,List.length_map]
  have at_:∀(i:Nat)(h:i<its.size),PyData.eqv (SeqAt.readOf s.heap its[i]) dx=PyData.eqv (ds[i]'(by rw[<- hlen];simpa using h)) dx:=fun i h=>by
   have e:(its.toList.map (SeqAt.readOf s.heap))[i]?=ds[i]?:=by rw[hm]
   rw[List.getElem?_map,List.getElem?_eq_getElem (by simpa using h),List.getElem?_eq_getElem (by rw[<- hlen];simpa using h)] at e
   have e':=Option.some.inj e
   have:SeqAt.readOf s.heap its[i]=ds[i]'(by rw[<- hlen];simpa using h):=by simpa using e'
   rw[this]
  have hji:j<its.size:=by have:=hlen;simp at this;omega
  refine call_meets PySem.F.slot_list_index ⟨_,h1,rfl⟩ PySem.F.entry_list_index (PySem.F.args_list_index_2 _ _)
   (SeqAt.list_indexAt l its n dd sl u (fun y=>PyData.eqv (SeqAt.readOf s.heap y) dx) j hji (by omega) ?_ ?_) ⟨h1,SeqAt.items_eqAt h4 r2 okd okx.1 (zGc hu okx.2 _),?_⟩
  ·show PyData.eqv (SeqAt.readOf s.heap its[j]) dx=true
   rw[at_ j hji]
   exact hje
  ·intro m hm' hlt
   show PyData.eqv (SeqAt.readOf s.heap its[m]) dx=false
   rw[at_ m hm']
   have:=hjn m hlt
   simpa using this
  ·exact⟨.int _,H,I.tok _,⟨_,rfl⟩,q⟩
end
end L2
namespace SL
open PySem L2
def PTx (z:Str):Prop:=Tx 1000 z/\(GL.zxa (zh z)\/rowM z=none)
theorem TOk.p {z:Str}(h:TOk z):PTx z:=⟨h.1,.inl h.2⟩
def spOd:Sp:=fun vs H Q _=>∃c:Int,vs=[.int c]/\∀(z:Str)(H':Hp),PTx z->Same H H'->Q (.str z) H'
def spUk:Sp:=fun vs H Q _=>∃(l:Addr)(zs:List Str)(m:Nat),vs=[.ref l,.int (m:Int)]/\H l=some (.lst (zs.map V.str))/\zs.length<=64/\(∀z∈zs,Tx 1000 z)/\64<m/\∀(r:Addr)(H':Hp),Same H H'->H' r=some (.lst ((GL.unl zs).map V.str))->Q (.ref r) H'
def odS:List Str:=[Str.ofString "",Str.ofString " ",Str.ofString "a  b",Str.ofString " a",Str.ofString "a ",Str.ofString "[",Str.ofString "x;y z",Str.ofString "1 2 3 4 5 6 7 8 9",Str.ofString "no [1,] row",Str.ofString "a b c d e f g h i j",Str.ofString "#"]
theorem zgm:∀z∈odS,PTx z:=by
 intro z hz
 simp only[odS,List.mem_cons,List.not_mem_nil,or_false] at hz
 rcases hz with rfl|rfl|rfl|rfl|rfl|rfl|rfl|rfl|rfl|rfl|rfl<;>exact⟨⟨by decide,by decide +kernel⟩,.inr (by decide +kernel)⟩
section
variable {P:Program}{w:World}{K:W.Frag}{mg:zT3}{base:Heap}
theorem scOd:FnScope ["_law_cell","_law_some"] ["_law_cell"] (zb sOd):=.of (by decide +kernel)
theorem zMn (F:Fun K "_law_odd_text" "_law_odd_text" sOd f fd)
  (FB:Fun K "_law_row_by" "_law_row_by" sLb fB dB)(bB:Binds K dB ["_law_cell","_law_many"] [])(gB:mg "_law_row_by"=some (.ref fB))(GB:FnOk P w K mg base CX0 5 fB dB ["_law_cell","_law_many"] spLb):FnOk P w K mg base CX0 6 f fd ["_law_cell"] spOd:=by
 refine F.ok scOd (fun vs H Q E h=>?_) (fun cdv A outer s H vs Q E hr h=>?_)
 ·obtain⟨c,rfl,_⟩:=h
  rfl
 ·obtain⟨c,rfl,k⟩:=h
  refine⟨_,@ze _ _ _ _ _ (@zH _ _ 1 _ _ _ _ scOd.nd rfl (Or.inl rfl) (@zva _ _ _ _ (@za _ _ _ _ _ zx (@za _ _ _ _ _ zx (@za _ _ _ _ _ zx (@za _ _ _ _ _ zx (@za _ _ _ _ _ zx (@za _ _ _ _ _ zx (@za _ _ _ _ _ zx (@za _ _ _ _ _ zx (@za _ _ _ _ _ zx (@za _ _ _ _ _ zx (@za _ _ _ _ _ zx zd (by rfl)) (by rfl)) (by rfl)) (by rfl)) (by rfl)) (by rfl)) (by rfl)) (by rfl)) (by rfl)) (by rfl)) (by rfl))) (by rfl) (by first|exact Or.inl rfl|exact Or.inr rfl))
   (@ze _ _ _ _ _ (zM (zr zV (zz zR (pv 0) zg) zg (zu _)) (zf (zp (zQa PySem.F.plainAttrs_str PySem.F.slot_str_join PySem.F.type_str_join zGi zx (za (zi GB hr rfl gB FB.kp bB .nil zw (za (zz zN (pv 0) zg) (za (zz zSa zg (zz zR (zz zN (pv 0) zg) zg)) zd))) zd)))) zt)
   (zf (zp (zU zEa (pv 1) (zz zR (zz zN (pv 0) zg) zg) (fun _ _=>rfl))))),?_⟩
  refine⟨(by show 11<=sizeLine;decide),fun l hl=>?_⟩
  have s1:Same H (upd H l (.lst (odS.map V.str))):=(Same.refl H).zao hl
  have q1:upd H l (.lst (odS.map V.str)) l=some (.lst (odS.map V.str)):=zc
  refine⟨_,rfl,_,_,rfl,rfl,(by show(0:Int)<3;decide),rfl,_,rfl,?_⟩
  refine ifb ?_ ?_
  ·have m0:0<=c / 3%8:=Int.emod_nonneg _ (by decide)
   have m1:c / 3%8<8:=Int.emod_lt_of_pos _ (by decide)
   refine⟨rfl,_,rfl,_,_,rfl,rfl,⟨by decide,by decide⟩,_,rfl,_,_,rfl,rfl,⟨by decide,by decide⟩,_,_,rfl,rfl,(by show(0:Int)<8;decide),_,_,rfl,rfl,c / 3,(1+c / 3%8).toNat,?_,by omega,fun p L H4 s4 hp lL hw=>?_⟩
   ·rw[Int.toNat_of_nonneg (by omega)]
    rfl
   ·exact⟨Str.ofString " ",p,L,rfl,rfl,SqT.of hp,zbm (by omega) hw,k _ H4 (zgj (by omega) (by omega) hw).p (s1.trans s4)⟩
  ·have m0:0<=c / 3%11:=Int.emod_nonneg _ (by decide)
   have m1:c / 3%11<11:=Int.emod_lt_of_pos _ (by decide)
   obtain⟨v,hv,ev⟩:=GL.zjf (odS.map V.str) (c / 3%11) m0 m1
   obtain⟨z,hz,rfl⟩:=List.mem_map.mp hv
   exact⟨_,rfl,_,rfl,_,_,rfl,rfl,⟨by decide,by decide⟩,_,_,rfl,rfl,(by show(0:Int)<11;decide),l,_,_,_,rfl,rfl,SqL.of q1,ev,k z _ (zgm z hz) s1⟩
theorem zuf (p:Str):∀zs:List Str,((zs.map PyData.str).any fun d=>PyData.eqv d (.str p))=decide (p∈zs)
 | []=>rfl
 |z::zs=>by
  rw[List.map_cons,List.any_cons,zuf p zs,PyData.eqv]
  by_cases h:z=p
  ·subst h
   rw[decide_eq_true (List.mem_cons_self),beq_self_eq_true]
   rfl
  ·have hb:(z==p)=false:=beq_eq_false_iff_ne.mpr h
   rw[hb,Bool.false_or]
   refine decide_eq_decide.mpr ⟨fun q=>List.mem_cons_of_mem _ q,fun q=>?_⟩
   rcases List.mem_cons.mp q with q|q
   ·exact absurd q.symm h
   ·exact q
theorem scUk:FnScope ["_law_texts_here","_law_most_here","_law_found","_law_text_here"] ["_law_texts_here","_law_most_here"] (zb sUk):=.of (by decide +kernel)
theorem zNn (F:Fun K "_law_unlike" "_law_unlike" sUk f fd)(len:mg "len"=none):FnOk P w K mg base CX0 1 f fd ["_law_texts_here","_law_most_here"] spUk:=by
 refine F.ok scUk (fun vs H Q E h=>?_) (fun cdv A outer s H vs Q E hr h=>?_)
 ·obtain⟨l,zs,m,rfl,_⟩:=h
  rfl
 ·obtain⟨l,zs,m,rfl,hL,z64,tz,m100,k⟩:=h
  have hu:=hr.units
  refine⟨_,ze (zH (i:=2) scUk.nd rfl (Or.inl rfl) (zva zd))
   (ze (zta PassesOwn.never rfl (zja (pv 0)) (zC (i:=3) scUk.nd rfl (Or.inl rfl))
    (zf (zM (PW.pt (zRd (zr (zfe hu) (pv 3) (pv 2) (by with_unfolding_all rfl)) (zjd (zr zoj (zq zo (by rfl) len PySem.boot_len (za (pv 2) zd)) (pv 1) (zu _)))))
     (zf (zHa (zQa PySem.F.plainAttrs_list PySem.F.slot_list_append PySem.F.type_list_append zka (pv 2) (za (pv 3) zd)))) zt)))
   (zf (zp (pv 2)))),?_⟩
  refine⟨Nat.zero_le _,fun r hr0=>?_⟩
  have s1:Same H (upd H r (.lst [])):=(Same.refl H).zao hr0
  refine⟨_,rfl,l,rfl,⟨_,SqL.of (s1 _ _ hL)⟩,?_⟩
  refine zrc (K:=K) (a:=l) (xs:=zs.map V.str) (fun j σ H2=>∃(v3:Option V),σ=[some (.ref l),some (.int (m:Int)),some (.ref r),v3]/\Same H H2/\H2 r=some (.lst ((GL.unl (zs.take j)).map V.str)))
   ⟨none,rfl,s1,zc⟩ (fun j σ H2 _ h=>by obtain⟨_,_,h,_⟩:=h;exact SqL.of (h _ _ hL)) ?_ ?_
  ·rintro j x σ H2 hx ⟨v3,rfl,s2,hr2⟩
   rw[List.getElem?_map] at hx
   cases ez:zs[j]? with
   |none=>rw[ez] at hx;cases hx
   |some z=>
    rw[ez] at hx
    cases hx
    have tk:zs.take (j+1)=zs.take j++[z]:=by rw[List.take_add_one,ez];rfl
    have yl:=GL.zXl (zs.take j)
    rw[List.length_take] at yl
    have ty:∀y∈GL.unl (zs.take j),Tx 1000 y:=fun y h=>tz y (List.mem_of_mem_take ((GL.zMb y _).mp h))
    refine⟨_,rfl,_,rfl,r,_,_,_,rfl,.inl (SqL.of hr2),GL.zKb _,.str z,⟨(tz z (List.mem_of_getElem? ez)).ok,by rw[PyData.depth];decide⟩,GL.zyb _ ty,!decide (z∈GL.unl (zs.take j)),congrArg V.bl (congrArg (!·) (zuf z _)),?_⟩
    by_cases c:z∈GL.unl (zs.take j)
    ·rw[decide_eq_true c]
     exact iteF ⟨_,rfl,s2,by rw[tk,GL.zvc,if_pos c];exact hr2⟩
    ·rw[decide_eq_false c]
     refine iteT ⟨_,rfl,r,_,rfl,.inl (SqL.of hr2),_,rfl,_,_,rfl,rfl,true,(congrArg V.bl (decide_eq_true (by rw[List.length_map];omega))),iteT ?_⟩
     refine⟨_,rfl,.inl ⟨rfl,_,SqL.of hr2⟩,_,rfl,r,_,_,rfl,rfl,hr2,zv (by rw[List.length_map];omega),?_⟩
     refine⟨_,rfl,s2.zao hr0,?_⟩
     rw[zc,tk,GL.zvc,if_neg c,List.map_append]
     rfl
  ·rintro σ H2 ⟨v3,rfl,s2,hr2⟩
   rw[List.length_map,List.take_of_length_le (Nat.le_refl _)] at hr2
   exact⟨_,rfl,k r H2 s2 hr2⟩
end
end SL
namespace GL
open PySem L2 SL
theorem zT.cons {H:Hp}{qs:List Addr}{rows:List (List Str)}{r:List Str}{q:Addr}(h1:H q=some (.tup (r.map V.str)))(h2:r.length<=8/\∀z∈r,Tx 60 z)(h:zT H qs rows):zT H (q::qs) (r::rows):=by
 refine⟨by rw[List.length_cons,List.length_cons,h.1],fun i x ex=>?_⟩
 cases i with
 |zero=>
  cases ex
  exact⟨q,rfl,h1,h2⟩
 |succ i=>exact h.2 i x ex
end GL
namespace SL
open PySem L2
def badI (zs:List Str):Option Nat:=zs.findIdx? fun z=>(rowM z).isNone
def RwsV (H:Hp):List V->List Str->Prop
 | [],[]=>True
 |v::vs,z::zs=>RwV H v (rowM z)/\RwsV H vs zs
 |_,_=>False
theorem RwV.zro {H H':Hp}{v:V}{o:Option (List Str)}(h:RwV H v o)(s:zha H H'):RwV H' v o:=by
 cases o with
 |none=>exact h
 |some r=>
  obtain⟨p,h1,h2⟩:=h
  exact⟨p,h1,s _ _ h2⟩
theorem RwsV.zro {H H':Hp}(s:zha H H'):∀{vs:List V}{zs:List Str},RwsV H vs zs->RwsV H' vs zs
 | [],[],_=>True.intro
 |_::_,_::_,h=>⟨h.1.zro s,RwsV.zro s h.2⟩
theorem RwsV.len {H:Hp}:∀{vs:List V}{zs:List Str},RwsV H vs zs->vs.length=zs.length
 | [],[],_=>rfl
 |_::_,_::_,h=>by rw[List.length_cons,List.length_cons,RwsV.len h.2]
theorem RwsV.snoc {H:Hp}{v:V}{z:Str}(h:RwV H v (rowM z)):∀{vs:List V}{zs:List Str},RwsV H vs zs->RwsV H (vs++[v]) (zs++[z])
 | [],[],_=>⟨h,True.intro⟩
 |_::_,_::_,q=>⟨q.1,RwsV.snoc h q.2⟩
def dRw (z:Str):PyData:=match rowM z with
 |none=>.none
 |some r=>.tuple (r.map PyData.str)
theorem zjj (z:Str):PyData.eqv (dRw z) .none=(rowM z).isNone:=by
 unfold dRw
 cases rowM z<;>rfl
theorem RwsV.data {K:W.Frag}{H:Hp}:∀{vs:List V}{zs:List Str},RwsV H vs zs->(∀z∈zs,Tx 1000 z)->DsAt K H vs (zs.map dRw)/\PyData.canLayAll0 (zs.map dRw)=true
 | [],[],_,_=>⟨.nil,rfl⟩
 |v::vs,z::zs,h,t=>by
  have ih:=RwsV.data (K:=K) h.2 fun x hx=>t x (List.mem_cons_of_mem _ hx)
  have h1:=h.1
  rw[List.map_cons,PyData.canLayAll0,ih.2,Bool.and_true]
  unfold dRw
  cases hm:rowM z with
  |none=>
   rw[hm] at h1
   have h1:v=.non:=h1
   subst h1
   exact⟨.cons .non ih.1,by decide +kernel⟩
  |some r=>
   rw[hm] at h1
   obtain⟨p,rfl,hp⟩:=h1
   obtain⟨er,_,_⟩:=zJd hm
   refine⟨.cons (.tup (SqT.of hp) (GL.zKb r)) ih.1,GL.zyb (n:=1000) r ?_⟩
   rw[er]
   exact zcc (t z List.mem_cons_self)
theorem RwsV.rows {H:Hp}:∀{vs:List V}{zs:List Str},RwsV H vs zs->(∀z∈zs,GL.zxa (zh z))->∃qs:List Addr,vs=qs.map V.ref/\GL.zT H qs (zs.map zh)
 | [],[],_,_=>⟨[],rfl,GL.zT.nil⟩
 |v::vs,z::zs,h,t=>by
  obtain⟨qs,e,hR⟩:=RwsV.rows h.2 fun x hx=>t x (List.mem_cons_of_mem _ hx)
  have h1:=h.1
  have rz:=t z List.mem_cons_self
  have e1:rowM z=some (zh z):=by unfold rowM;rw[zsf rz];rfl
  rw[e1] at h1
  obtain⟨p,rfl,hp⟩:=h1
  exact⟨p::qs,by rw[e];rfl,GL.zT.cons hp rz.tx hR⟩
theorem zxk (zs:List Str):((zs.map dRw).any fun d=>PyData.eqv d .none)=(badI zs).isSome:=by
 unfold badI
 rw[List.findIdx?_isSome,List.any_map]
 congr 1
 funext z
 exact zjj z
theorem zyk (zs:List Str):((zs.map dRw).findIdx? fun d=>PyData.eqv d .none)=badI zs:=by
 unfold badI
 rw[List.findIdx?_map]
 congr 1
 funext z
 exact zjj z
theorem zKd {zs:List Str}(h:badI zs=none)(p:∀z∈zs,PTx z):∀z∈zs,GL.zxa (zh z):=fun z hz=>by
 rcases(p z hz).2 with q|q
 ·exact q
 ·unfold badI at h
  rw[List.findIdx?_eq_none_iff] at h
  have:=h z hz
  rw[q] at this
  cases this
def zzk (CU:Addr):Sp:=fun vs H Q E=>∃(a:Addr)(zs:List Str),vs=[.ref a]/\H a=some (.tup (zs.map V.str))/\zs.length<=64/\(∀z∈zs,PTx z)∧
 (∀i,badI zs=some i->∀d H',Same H H'->H' d=some (.xd [("number",.int (i:Int))])->E (.ref CU) (some d) H')∧
 (badI zs=none->∀(p:Addr)(qs:List Addr)(H':Hp),Same H H'->H' p=some (.tup (qs.map V.ref))->GL.zT H' qs (zs.map zh)->Q (.ref p) H')
section
variable {P:Program}{w:World}{K:W.Frag}{mg:zT3}{base:Heap}{CU:Addr}
theorem scXu:FnScope ["self","number"] ["self","number"] (zb sXu):=.of (by decide +kernel)
theorem zOn (F:Fun K "__init__" "Unknown.__init__" sXu f fd)(hS:zFa K CU "number"=true):FnOk P w K mg base CX0 1 f fd ["self","number"] (GL.spNm CU):=by
 refine F.ok scXu (fun vs H Q E h=>?_) (fun cdv A outer s H vs Q E hr h=>?_)
 ·obtain⟨a,x,rfl,_⟩:=h
  rfl
 ·obtain⟨a,x,rfl,ha,k⟩:=h
  exact⟨_,zf (zyd (pv 0) (pv 1) rfl),_,rfl,_,rfl,a,CU,rfl,ha,hS,fun d hd hn=>k d hd hn⟩
theorem zhm (F:Fun K "rows_of" "rows_of" sRsf f fd)(tup:mg "tuple"=none)
  (FR:Fun K "row_of" "row_of" sRof fR dR)(bR:Binds K dR ["text"] [])(gR:mg "row_of"=some (.ref fR))(GR:FnOk P w K mg base CX0 7 fR dR ["text"] zCi)
  (M:MkX K CU fI)(gN:mg "Unknown"=some (.ref CU))(bI:Binds K dI ["self","number"] [])(GI:FnOk P w K mg base CX0 1 fI dI ["self","number"] (GL.spNm CU))(rz:zcb K CU=true):FnOk P w K mg base (CX1 P w) 8 f fd ["texts"] (zzk CU):=by
 refine F.okX zWl (fun vs H Q E h=>?_) (fun cdv A outer s H vs Q E hr h=>?_)
 ·obtain⟨a,zs,rfl,_⟩:=h
  rfl
 ·obtain⟨a,zs,rfl,ha,z64,hz,kE,k⟩:=h
  have hu:=hr.units
  have hr2:Room 2 _:=hr.mono (by decide)
  refine⟨_,ze (zbb (i:=1) zfj rfl rfl rfl (zkc (pv 0)) (fun fp C s1 H1=>zC (i:=0) zfj.nd rfl (Or.inl rfl)) (fun fp C s1 H1=>zla) (fun fp C s1 H1=>zi GR hr rfl gR FR.kp bR .nil zw (za (pv 0) zd)) zWl.nd rfl rfl rfl)
   (ze (zM (zr (zWi hu) zia (pv 1) (by with_unfolding_all rfl)) (zf (zrb rfl zYa (zXb M GI hr2 rfl gN bI .nil zw (za (zQa PySem.F.plainAttrs_list PySem.F.slot_list_index PySem.F.type_list_index (zJi hu) (pv 1) (za zia zd)) zd)))) zt)
   (zf (zp (zS zL (by rfl) tup PyProof.Rows.boot_tuple (za (pv 1) zd))))),?_⟩
  refine⟨_,rfl,a,rfl,⟨_,SqT.of ha⟩,fun D hD=>?_⟩
  refine zee (K:=K) (a:=a) (xs:=zs.map V.str) (fun j ys H3=>RwsV H3 ys (zs.take j)/\Same H H3/\H3 D=some (.lst ys)) (Nat.le_of_lt (zv (by rw[List.length_map];omega))) ⟨True.intro,(Same.refl H).zao hD,zc⟩
   (fun j ys H3 h=>by rw[h.1.len,List.length_take];exact Nat.min_le_left _ _) (fun j ys H3 h=>SqT.of (h.2.1 _ _ ha)) ?_ ?_
  ·rintro j ys H3 x N M hx ⟨hR,s3,hD3⟩ hN hM
   rw[List.getElem?_map] at hx
   cases ez:zs[j]? with
   |none=>rw[ez] at hx;cases hx
   |some z=>
    rw[ez] at hx
    cases hx
    refine⟨_,rfl,z,rfl,(hz z (List.mem_of_getElem? ez)).1,fun v H4 s4 hv=>?_⟩
    have hD4:=s4 _ _ hD3
    have ts:zha H4 (upd H4 D (.lst (ys++[v]))):=zha.zeo (fun _ _ e=>e) hD4
    refine hN _ H4 hD4 ⟨?_,(s3.trans s4).zao hD,zc⟩
    rw[List.take_add_one,ez]
    exact RwsV.snoc (hv.zro ts) ((hR.zro s4.tups).zro ts)
  ·rintro ys H3 ⟨hR,s3,hD3⟩
   rw[List.length_map,List.take_of_length_le (Nat.le_refl _)] at hR
   have hd:=hR.data (K:=K) fun z h=>(hz z h).1
   have nok:DOk .none:=⟨by decide +kernel,by decide +kernel⟩
   refine⟨_,rfl,D,_,_,_,rfl,.inl (SqL.of hD3),hd.1,.non,nok,hd.2,(badI zs).isSome,congrArg V.bl (zxk zs),?_⟩
   cases hb:badI zs with
   |some i=>
    refine iteT ⟨_,rfl,.inl ⟨rfl,_,SqL.of hD3⟩,D,_,_,_,_,i,rfl,rfl,SqL.of hD3,hd.1,.non,nok,hd.2,by rw[zyk,hb],by rw[List.length_map];omega,(by show 1<=sizeLine;decide),?_⟩
    exact GL.zij rz (kE i hb) H3 _ s3
   |none=>
    obtain⟨qs,rfl,hR'⟩:=hR.rows (zKd hb hz)
    refine iteF ⟨_,rfl,D,_,rfl,.inl ⟨SqL.of hD3,fun p hp=>?_⟩⟩
    have s4:=(Same.refl H3).zao (o:=.tup (qs.map V.ref)) hp
    exact k hb p qs _ (s3.trans s4) zc (hR'.zro s4.tups)
end
def rwsM (zs:List Str):List (List Str):=GL.unl (zs.map zh)
def fsS (zs:List Str)(most:Int):List (List (Str×Str)):=GL.zed (rwsM zs) most
def fsP (zs:List Str)(most:Int):List (List Pt):=(fsS zs most).map (·.map GL.toP)
structure LoX (CU CM:Addr)(zs:List Str)(H:Hp)(E:XK)(G:Prop):Prop where
 u:∀i,badI zs=some i->∀d H',Same H H'->H' d=some (.xd [("number",.int (i:Int))])->E (.ref CU) (some d) H'
 m:badI zs=none->8<(rwsM zs).length->∀d H',Same H H'->H' d=some (.xd [("number",.int ((rwsM zs).length:Int))])->E (.ref CM) (some d) H'
 g:badI zs=none->(rwsM zs).length<=8->G
def zKi (C CU CM:Addr):Sp:=fun vs H Q E=>∃(o a dx:Addr)(zs:List Str)(most:Int),vs=[.ref o,.ref a,.int most]/\H o=some (.ins C dx [])/\H a=some (.tup (zs.map V.str))/\zs.length<=64/\(∀z∈zs,PTx z)/\0<=most∧
 LoX CU CM zs H E (∀(f:Addr)(vf:List V)(H':Hp),Kpt H H' o->LoAt C H' o f vf (fsP zs most)->GL.FsAt H' vf (fsS zs most)->Q .non H')
def spOm (C:Addr):Sp:=fun vs H Q _=>∃(o f:Addr)(vf:List V)(fs:List (List Pt)),vs=[.ref o]/\LoAt C H o f vf fs/\Q .non H
section
variable {P:Program}{w:World}{K:W.Frag}{mg:zT3}{base:Heap}{C CU CM:Addr}
theorem zim {its itf:Array Value}(F:FunD K "__init__" "Loom.__init__" sOi f fd its)(Y:LK K C)
  (FF:FunD K "forms_of" "forms_of" sFo fF dF itf)(bF:Binds K dF ["rows","most"] [])(gF:mg "forms_of"=some (.ref fF))(GF:FnOk P w K mg base (CX1 P w) 21 fF dF ["rows","most"] (fun vs H Q E=>GL.spFo vs H Q E\/GL.zUf CM vs H Q E))
  (FR:Fun K "rows_of" "rows_of" sRsf fR dR)(bR:Binds K dR ["texts"] [])(gR:mg "rows_of"=some (.ref fR))(GR:FnOk P w K mg base (CX1 P w) 8 fR dR ["texts"] (zzk CU)):FnOk P w K mg base (CX1 P w) 22 f fd ["self","texts","most"] (zKi C CU CM):=by
 refine F.okX scOi (fun vs H Q E h=>?_) (fun cdv A outer s H vs Q E hr h=>?_)
 ·obtain⟨o,a,dx,zs,most,rfl,_⟩:=h
  rfl
 ·obtain⟨o,a,dx,zs,most,rfl,ho,ha,z8,hz,m0,⟨kU,kM,k⟩⟩:=h
  have hr8:Room 8 _:=hr.mono (by decide)
  refine⟨_,ze (zTi (pv 0) (zi GF hr rfl gF FF.kp bF .nil zOg (za (zi GR hr8 rfl gR FR.kp bR .nil zOg (za (pv 1) zd)) (za (pv 2) zd))) rfl) (zf (zTi (pv 0) zia rfl)),?_⟩
  refine⟨_,rfl,a,zs,rfl,ha,by omega,hz,kU,fun hb p qs H1 s1 hp hR=>?_⟩
  have hrow:=zKd hb hz
  have hok:∀r∈zs.map zh,GL.zxa r:=fun r hr'=>by
   obtain⟨z,hz',rfl⟩:=List.mem_map.mp hr'
   exact hrow z hz'
  by_cases l8:(rwsM zs).length<=8
  ·refine⟨_,rfl,.inl ⟨p,qs,zs.map zh,most,rfl,hp,hR,by rw[List.length_map];omega,hok,l8,m0,fun pf us H2 s2 hpf hFs=>?_⟩⟩
   have t2:=s1.trans s2
   have FO:=GL.zId (most:=most) m0 (GL.zre (zs.map zh)) l8 fun r hr'=>hok r ((GL.zMb r _).mp hr')
   have ho2:=t2 _ _ ho
   refine⟨_,rfl,o,C,dx,_,rfl,ho2,Y.cls,Y.nK,(by show 0<1000;decide),?_⟩
   refine⟨_,rfl,o,C,dx,_,rfl,zc,Y.cls,Y.nT,(by show 1<1000;decide),?_⟩
   have ts:zha H2 (upd (upd H2 o (.ins C dx (putF "known" (.ref pf) []))) o (.ins C dx (putF "taught" .non (putF "known" (.ref pf) [])))):=fun b xs e=>by
    have nb:b≠o:=fun z=>by rw[z,ho2] at e;cases e
    rw[zy nb,zy nb]
    exact e
   refine k hb l8 pf us _ (fun b x e nb=>?_) ⟨⟨dx,?_⟩,ts _ _ hpf,?_,?_⟩ (hFs.zro ts)
   ·rw[zy nb,zy nb]
    exact t2 _ _ e
   ·rw[zc,show putF ("known":Str) (.ref pf) []=[(("known":Str),.ref pf)] from rfl,zEi]
   ·exact(GL.zAn hFs fun es he=>(FO.2 es he).2).zro ts
   ·refine⟨by unfold fsP;rw[List.length_map];exact FO.1,fun ps hps=>?_⟩
    obtain⟨es,he,rfl⟩:=List.mem_map.mp hps
    refine⟨by rw[List.length_map];exact(FO.2 es he).1,fun q hq=>?_⟩
    obtain⟨e,he',rfl⟩:=List.mem_map.mp hq
    exact((FO.2 es he).2 e he').ok
  ·refine⟨_,rfl,.inr ⟨p,qs,zs.map zh,most,rfl,hp,hR,by rw[List.length_map];omega,Nat.lt_of_not_le l8,fun d H' s' hd=>kM hb (Nat.lt_of_not_le l8) d H' (s1.trans s') hd⟩⟩
theorem scOm:FnScope ["self"] ["self"] (zb sOm):=.of (by decide +kernel)
theorem zPn (F:Fun K "machine" "Loom.machine" sOm f fd)(Y:LK K C):FnOk P w K mg base CX0 1 f fd ["self"] (spOm C):=by
 refine F.ok scOm (fun vs H Q E h=>?_) (fun cdv A outer s H vs Q E hr h=>?_)
 ·obtain⟨o,f,vf,fs,rfl,_⟩:=h
  rfl
 ·obtain⟨o,f,vf,fs,rfl,⟨⟨dx,ho⟩,_⟩,k⟩:=h
  exact⟨_,zf (zp (zhg (pv 0) rfl)),_,rfl,o,C,dx,_,_,rfl,ho,Y.cls,Y.nT,rfl,k⟩
end
def zDa (c:Int):Int:=if c%4=3 then c / 4%9 else if c%4=1 then 1 else 2
theorem zLd (c:Int):0<=zDa c:=by
 unfold zDa
 split
 ·exact Int.emod_nonneg _ (by decide)
 ·split<;>decide
def spMs:Sp:=fun vs H Q _=>∃c:Int,vs=[.int c]/\∀H',Same H H'->Q (.int (zDa c)) H'
def spMa (C CU CM:Addr):Sp:=fun vs H Q E=>∃(l:Addr)(zs:List Str)(c:Int),vs=[.ref l,.int c]/\H l=some (.lst (zs.map V.str))/\zs.length<=64/\(∀z∈zs,PTx z)∧
 LoX CU CM zs H E (∀(o f:Addr)(vf:List V)(H':Hp),Same H H'->LoAt C H' o f vf (fsP zs (zDa c))->GL.FsAt H' vf (fsS zs (zDa c))->Q (.ref o) H')
def spRf:Sp:=fun vs H Q _=>∃(l:Addr)(zs:List Str)(c:Int)(wn:Str)(n:Nat),vs=[.ref l,.int c,.str wn,.int (n:Int)]/\H l=some (.lst (zs.map V.str))/\zs.length<=64/\(∀z∈zs,PTx z)∧
 ((badI zs=some n/\wn=Str.ofString "unknown")\/(badI zs=none/\8<(rwsM zs).length/\n=(rwsM zs).length/\wn=Str.ofString "many"))/\∀H',Same H H'->Q (.bl true) H'
structure RfK (K:W.Frag)(mg:zT3)(CL CU CM:Addr):Prop where
 gL:mg "LoomError"=some (.ref CL)
 gU:mg "Unknown"=some (.ref CU)
 gM:mg "TooMany"=some (.ref CM)
 tU:zqb K CU (.ref CL)=true
 tM:zqb K CM (.ref CL)=true
 eU:zgb K CU=true
 eM:zgb K CM=true
 fU:zIb K CU "number"=true
 fM:zIb K CM "number"=true
 uu:W.kitOne K (.ref CU) (.ref CU)=some true
 um:W.kitOne K (.ref CU) (.ref CM)=some false
 mu:W.kitOne K (.ref CM) (.ref CU)=some false
 mm:W.kitOne K (.ref CM) (.ref CM)=some true
section
variable {P:Program}{w:World}{K:W.Frag}{mg:zT3}{base:Heap}{C CU CM CL:Addr}
theorem scMs:FnScope ["_law_cell"] ["_law_cell"] (zb sMs):=.of (by decide +kernel)
theorem zjm (F:Fun K "_law_most" "_law_most" sMs f fd):FnOk P w K mg base CX0 1 f fd ["_law_cell"] spMs:=by
 refine F.ok scMs (fun vs H Q E h=>?_) (fun cdv A outer s H vs Q E hr h=>?_)
 ·obtain⟨c,rfl,_⟩:=h
  rfl
 ·obtain⟨c,rfl,k⟩:=h
  refine⟨_,zf (zp (zU zEa (zva (za zg (za zg (za zg (za (zz zR (zz zN (pv 0) zg) zg) zd))))) (zz zR (pv 0) zg) (fun _ _=>rfl))),?_⟩
  refine⟨_,rfl,_,_,rfl,rfl,⟨by decide,by decide⟩,_,_,rfl,rfl,(by show(0:Int)<9;decide),(by show 4<=sizeLine;decide),fun l hl=>?_⟩
  refine⟨_,rfl,_,_,rfl,rfl,(by show(0:Int)<4;decide),l,_,_,_,rfl,rfl,SqL.of zc,?_,k _ ((Same.refl H).zao hl)⟩
  have m0:0<=c%4:=Int.emod_nonneg _ (by decide)
  have m1:c%4<4:=Int.emod_lt_of_pos _ (by decide)
  show atI [V.int 2,.int 1,.int 2,.int (c / 4%9)] (c%4)=some (.int (zDa c))
  unfold zDa
  rcases(by omega:c%4=0\/c%4=1\/c%4=2\/c%4=3) with e|e|e|e
  ·rw[e,if_neg (by decide),if_neg (by decide)];rfl
  ·rw[e,if_neg (by decide),if_pos rfl];rfl
  ·rw[e,if_neg (by decide),if_neg (by decide)];rfl
  ·rw[e,if_pos rfl];rfl
theorem scMa:FnScope ["_law_texts_here","_law_cell"] ["_law_texts_here","_law_cell"] (zb sMa):=.of (by decide +kernel)
theorem zQn {d2:Value}(F:Fun K "_law_made" "_law_made" sMa f fd)(tup:mg "tuple"=none)
  (M:Mk K C fI)(g:mg "Loom"=some (.ref C))(b1:Binds K dI ["self","texts","most"] [d2])(r2:RelV (.int 2) d2)(b2:Binds K dI ["self","texts","most"] [])(o:FnOk P w K mg base (CX1 P w) 22 fI dI ["self","texts","most"] (zKi C CU CM))
  (FM:Fun K "_law_most" "_law_most" sMs fM dM)(bM:Binds K dM ["_law_cell"] [])(gM:mg "_law_most"=some (.ref fM)):FnOk P w K mg base (CX1 P w) 24 f fd ["_law_texts_here","_law_cell"] (spMa C CU CM):=by
 have GM:FnOk P w K mg base CX0 1 fM dM ["_law_cell"] spMs:=zjm FM
 refine F.okX scMa (fun vs H Q E h=>?_) (fun cdv A outer s H vs Q E hr h=>?_)
 ·obtain⟨l,zs,c,rfl,_⟩:=h
  rfl
 ·obtain⟨l,zs,c,rfl,hl,z64,hz,⟨kU,kM,k⟩⟩:=h
  have hr1:Room 1 _:=hr.mono (by decide)
  refine⟨_,ze (zM (zr zV (zz zR (pv 1) zg) zg (zu _)) (zf (zp (zjg M o hr rfl g b1 (.cons r2 .nil) zOg (za (zS zL (by rfl) tup PyProof.Rows.boot_tuple (za (pv 0) zd)) zd)))) zt)
   (zf (zp (zjg M o hr rfl g b2 .nil zOg (za (zS zL (by rfl) tup PyProof.Rows.boot_tuple (za (pv 0) zd)) (za (zi GM hr1 rfl gM FM.kp bM .nil zw (za (pv 1) zd)) zd))))),?_⟩
  have make:∀(H1:Hp)(ta:Addr)(most:Int),Same H H1->H1 ta=some (.tup (zs.map V.str))->most=zDa c->∀x dx,H1 x=none->H1 dx=none->dx≠x→
    zKi C CU CM [.ref x,.ref ta,.int most] (upd (upd H1 dx (.own x)) x (.ins C dx [])) (fun v H2=>v=.non/\Q (.ref x) H2) E:=by
   intro H1 ta most s1 hta em x dx nx nd ne
   have sx:Same H (upd (upd H1 dx (.own x)) x (.ins C dx [])):=fun b o e=>by
    have e1:=s1 _ _ e
    rw[zy (zJ e1 nx),zy (zJ e1 nd)]
    exact e1
   refine⟨x,ta,dx,zs,most,rfl,zc,?_,z64,hz,by rw[em];exact zLd c,⟨fun i hi d H' s' hd=>kU i hi d H' (sx.trans s') hd,fun hb h8 d H' s' hd=>kM hb h8 d H' (sx.trans s') hd,fun hb h8 f vf H' kp lo hF=>⟨rfl,?_⟩⟩⟩
   ·rw[zy (zJ hta nx),zy (zJ hta nd)]
    exact hta
   ·rw[em] at lo hF
    refine k hb h8 x f vf H' (fun b o e=>?_) lo hF
    have e1:=s1 _ _ e
    exact kp b o (by rw[zy (zJ e1 nx),zy (zJ e1 nd)];exact e1) (zJ e1 nx)
  refine⟨_,rfl,_,_,rfl,rfl,(by show(0:Int)<4;decide),rfl,decide (c%4=0),congrArg V.bl (decide_eq_decide.mpr ⟨fun e=>by injection e,fun e=>by rw[<- e]⟩),?_⟩
  by_cases c0:c%4=0
  ·rw[decide_eq_true c0]
   refine iteT ⟨_,rfl,l,_,rfl,.inl ⟨SqL.of hl,fun ta hta=>?_⟩⟩
   have s1:=(Same.refl H).zao (o:=.tup (zs.map V.str)) hta
   exact make _ ta 2 s1 zc (by unfold zDa;rw[c0,if_neg (by decide),if_neg (by decide)])
  ·rw[decide_eq_false c0]
   refine iteF ⟨_,rfl,l,_,rfl,.inl ⟨SqL.of hl,fun ta hta=>?_⟩⟩
   have s1:=(Same.refl H).zao (o:=.tup (zs.map V.str)) hta
   have q1:upd H ta (.tup (zs.map V.str)) ta=some (.tup (zs.map V.str)):=zc
   generalize upd H ta (.tup (zs.map V.str))=H1 at s1 q1 ⊢
   exact⟨_,rfl,c,rfl,fun H2 s2=>make H2 ta (zDa c) (s1.trans s2) (s2 _ _ q1) rfl⟩
abbrev nRf:List Str:=["_law_texts_here","_law_cell","_law_wanted","_law_number","_law_error","e"]
theorem scRf:FnScope nRf ["_law_texts_here","_law_cell","_law_wanted","_law_number"] (zb sRf):=.of (by decide +kernel)
theorem zRn (F:Fun K "_law_refused" "_law_refused" sRf f fd)(T:T1 mg)(int:mg "int"=none)(R:RfK K mg CL CU CM)
  (FM:Fun K "_law_made" "_law_made" sMa fM dM)(bM:Binds K dM ["_law_texts_here","_law_cell"] [])(gM:mg "_law_made"=some (.ref fM))(GM:FnOk P w K mg base (CX1 P w) 24 fM dM ["_law_texts_here","_law_cell"] (spMa C CU CM)):FnOk P w K mg base CX0 25 f fd ["_law_texts_here","_law_cell","_law_wanted","_law_number"] spRf:=by
 refine F.ok scRf (fun vs H Q E h=>?_) (fun cdv A outer s H vs Q E hr h=>?_)
 ·obtain⟨l,zs,c,wn,n,rfl,_⟩:=h
  rfl
 ·obtain⟨l,zs,c,wn,n,rfl,hl,z64,hz,hc,k⟩:=h
  refine⟨_,ze (zH (i:=4) scRf.nd rfl (Or.inl rfl) zia)
   (ze (zVg ⟨rfl,rfl⟩ (zgf (zXh (zff GM hr rfl gM FM.kp bM .nil (za (pv 0) (za (pv 1) zd)))))
    (zXm (i:=5) scRf.nd rfl rfl ⟨by rfl,by decide,.inl R.gL⟩ (fun e=>zf (zH (i:=4) scRf.nd rfl (Or.inl rfl) (pv 5))) zaj))
   (ze (zM (PW.pt (zPb (zr zVd (pv 4) zia (zu _)) (zDb (zr zTd (zq zYb (by rfl) T.isin PyProof.Rows.boot_isinstance (za (pv 4) (za (zra (v:=.ref CU) (by rfl) R.gU rfl) zd))) (zQ zV (pv 2) zx (zu _)) (zu _))))) (zf (zp zHb)) zt)
   (ze (zM (zr zTd (zq zYb (by rfl) T.isin PyProof.Rows.boot_isinstance (za (pv 4) (za (zra (v:=.ref CM) (by rfl) R.gM rfl) zd))) (zQ zV (pv 2) zx (zu _)) (zu _)) (zf (zp zHb)) zt)
   (zf (zp (zQb (zq zJa (by rfl) T.isin PyProof.Rows.boot_isinstance (za (zEe (pv 4) rfl) (za (zxc (v:=.ty "int") (by rfl) int PyProof.Rows.boot_int rfl) zd)))
    (zQb (zQi (zq zJa (by rfl) T.isin PyProof.Rows.boot_isinstance (za (zEe (pv 4) rfl) (za (zxc (v:=.ty "bool") (by rfl) T.bool PyProof.Rows.boot_bool rfl) zd)))) (zjb (zQ zV (zEe (pv 4) rfl) (pv 3) (zu _)))))))))),?_⟩
  have bne:∀b:Bool,(!decide (V.bl b=V.bl b))=false:=fun b=>by rw[decide_eq_true rfl];rfl
  rcases hc with⟨hb,rfl⟩|⟨hb,h8,hn,rfl⟩
  ·refine⟨_,rfl,_,rfl,l,zs,c,rfl,hl,z64,hz,⟨fun i hi d H1 s1 hd=>⟨CU,rfl,fun a ha=>.inl ⟨R.tU,?_⟩⟩,(fun hb'=>by rw[hb] at hb';cases hb'),(fun hb'=>by rw[hb] at hb';cases hb')⟩⟩
   have ei:i=n:=by rw[hb] at hi;injection hi with hi;exact hi.symm
   subst ei
   have s2:=(Same.refl H1).zao (o:=.ext (ExcAt a CU (some d))) ha
   have q2:upd H1 a (.ext (ExcAt a CU (some d))) a=some (.ext (ExcAt a CU (some d))):=zc
   generalize upd H1 a (.ext (ExcAt a CU (some d)))=H2 at s2 q2 ⊢
   have hd2:=s2 _ _ hd
   have dd:∀d',some d=some d'->∃o,H2 d'=some o:=fun d' e=>by cases e;exact⟨_,hd2⟩
   refine⟨_,rfl,?_⟩
   refine⟨_,rfl,rfl,false,rfl,iteF ?_⟩
   refine⟨_,rfl,a,_,CU,some d,true,rfl,q2,dd,R.eU,R.uu,_,rfl,rfl,rfl,false,?_,iteF ?_⟩
   ·rw[decS,decide_eq_true rfl];rfl
   refine⟨_,rfl,a,_,CU,some d,false,rfl,q2,dd,R.eU,R.um,_,rfl,rfl,rfl,false,?_,iteF ?_⟩
   ·rw[decS,show decide (Str.ofString "unknown"=Str.ofString "many")=false from by decide +kernel];rfl
   refine⟨_,rfl,a,CU,d,_,.int (i:Int),rfl,q2,hd2,rfl,R.fU,_,_,_,true,rfl,.int _,rfl,true,rfl,iteT ?_⟩
   refine⟨_,rfl,a,CU,d,_,.int (i:Int),rfl,q2,hd2,rfl,R.fU,_,_,_,false,rfl,.int _,rfl,false,rfl,true,rfl,iteT ?_⟩
   refine⟨_,rfl,a,CU,d,_,.int (i:Int),rfl,q2,hd2,rfl,R.fU,_,rfl,rfl,?_⟩
   rw[decide_eq_true rfl]
   exact k H2 (s1.trans s2)
  ·refine⟨_,rfl,_,rfl,l,zs,c,rfl,hl,z64,hz,⟨(fun i hi=>by rw[hb] at hi;cases hi),fun hb' h8' d H1 s1 hd=>⟨CM,rfl,fun a ha=>.inl ⟨R.tM,?_⟩⟩,(fun _ h8'=>absurd h8' (Nat.not_le_of_lt h8))⟩⟩
   rw[<- hn] at hd
   have s2:=(Same.refl H1).zao (o:=.ext (ExcAt a CM (some d))) ha
   have q2:upd H1 a (.ext (ExcAt a CM (some d))) a=some (.ext (ExcAt a CM (some d))):=zc
   generalize upd H1 a (.ext (ExcAt a CM (some d)))=H2 at s2 q2 ⊢
   have hd2:=s2 _ _ hd
   have dd:∀d',some d=some d'->∃o,H2 d'=some o:=fun d' e=>by cases e;exact⟨_,hd2⟩
   refine⟨_,rfl,?_⟩
   refine⟨_,rfl,rfl,false,rfl,iteF ?_⟩
   refine⟨_,rfl,a,_,CM,some d,false,rfl,q2,dd,R.eM,R.mu,_,rfl,rfl,rfl,false,?_,iteF ?_⟩
   ·rw[decS,show decide (Str.ofString "many"=Str.ofString "unknown")=false from by decide +kernel];rfl
   refine⟨_,rfl,a,_,CM,some d,true,rfl,q2,dd,R.eM,R.mm,_,rfl,rfl,rfl,false,?_,iteF ?_⟩
   ·rw[decS,decide_eq_true rfl];rfl
   refine⟨_,rfl,a,CM,d,_,.int (n:Int),rfl,q2,hd2,rfl,R.fM,_,_,_,true,rfl,.int _,rfl,true,rfl,iteT ?_⟩
   refine⟨_,rfl,a,CM,d,_,.int (n:Int),rfl,q2,hd2,rfl,R.fM,_,_,_,false,rfl,.int _,rfl,false,rfl,true,rfl,iteT ?_⟩
   refine⟨_,rfl,a,CM,d,_,.int (n:Int),rfl,q2,hd2,rfl,R.fM,_,rfl,rfl,?_⟩
   rw[decide_eq_true rfl]
   exact k H2 (s1.trans s2)
end
def glue (c:Nat):List Str->List Nat
 | []=>[]
 | [p]=>p.cps.toList
 |p::q::r=>p.cps.toList++c::glue c (q::r)
theorem zue (c x:Nat)(p:Str):∀d:List Str,glue c (d++[p++⟨#[x]⟩])=glue c (d++[p])++[x]
 | []=>by
  show(p++⟨#[x]⟩:Str).cps.toList=p.cps.toList++[x]
  rw[Str.cps_append,Array.toList_append]
 | [a]=>by
  show a.cps.toList++c::(p++⟨#[x]⟩:Str).cps.toList=(a.cps.toList++c::p.cps.toList)++[x]
  rw[Str.cps_append,Array.toList_append,List.append_assoc]
  rfl
 |a::b::d=>by
  have ih:=zue c x p (b::d)
  show a.cps.toList++c::glue c ((b::d)++[p++⟨#[x]⟩])=(a.cps.toList++c::glue c ((b::d)++[p]))++[x]
  rw[ih,List.append_assoc]
  rfl
theorem zvf (c:Nat)(p:Str):∀d:List Str,glue c (d++[p]++[Str.empty])=glue c (d++[p])++[c]
 | []=>rfl
 | [a]=>by
  show a.cps.toList++c::(p.cps.toList++c::[])=(a.cps.toList++c::p.cps.toList)++[c]
  rw[List.append_assoc]
  rfl
 |a::b::d=>by
  have ih:=zvf c p (b::d)
  show a.cps.toList++c::glue c ((b::d)++[p]++[Str.empty])=(a.cps.toList++c::glue c ((b::d)++[p]))++[c]
  rw[ih,List.append_assoc]
  rfl
theorem zve (c:Nat):∀(l:List Nat)(s:List Str×Str),glue c ((l.foldl (zna c) s).1++[(l.foldl (zna c) s).2])=glue c (s.1++[s.2])++l
 | [],s=>(List.append_nil _).symm
 |x::l,s=>by
  rw[List.foldl_cons,zve c l,show x::l=[x]++l from rfl,<- List.append_assoc]
  congr 1
  unfold zna
  by_cases e:x=c
  ·rw[if_pos e,e]
   exact zvf c s.2 s.1
  ·rw[if_neg e]
   exact zue c x s.2 s.1
theorem zXf {y z:Str}(h:zh y=zh z):y=z:=by
 have g:∀z:Str,glue 32 (zh z)=z.cps.toList:=fun z=>by
  unfold zh
  rw[show Str.ofString " "=(⟨#[32]⟩:Str) from rfl,zKa _ (by decide)]
  exact zve 32 z.cps.toList ([],Str.empty)
 refine Str.ext' (Array.toList_inj.mp ?_)
 rw[<- g y,h,g z]
theorem zMd {α β:Type}[DecidableEq α][DecidableEq β]{f:α->β}(hf:∀a b,f a=f b->a=b):∀(rs met:List α),GL.unlF (met.map f) (rs.map f)=(GL.unlF met rs).map f
 | [],met=>rfl
 |r::rs,met=>by
  have e:(f r∈met.map f)↔r∈met:=by
   rw[List.mem_map]
   exact⟨fun⟨a,h1,h2⟩=>by rw[<- hf a r h2];exact h1,fun h=>⟨r,h,rfl⟩⟩
  show GL.unlF (if f r∈met.map f then met.map f else met.map f++[f r]) (rs.map f)=(GL.unlF (if r∈met then met else met++[r]) rs).map f
  by_cases h:r∈met
  ·rw[if_pos h,if_pos (e.mpr h),zMd hf rs met]
  ·rw[if_neg h,if_neg fun q=>h (e.mp q),show met.map f++[f r]=(met++[r]).map f by rw[List.map_append];rfl,zMd hf rs]
theorem zAk (zs:List Str):(rwsM zs).length=(GL.unl zs).length:=by
 unfold rwsM GL.unl
 rw[show([]:List (List Str))=([]:List Str).map zh from rfl,zMd (fun _ _=>zXf),List.length_map]
theorem zwe {e:Str×Str}(h:GL.EOk e){x:Str}(hx:Wd x):zGb (GL.toP e) x=GL.takes e x:=by
 obtain⟨t,y⟩:=e
 rcases h with⟨h1,_⟩|⟨h1,s,h2⟩
 ·have h1:t=GL.zBa:=h1
  subst h1
  unfold GL.toP GL.takes
  rw[if_neg (show ¬GL.zBa=GL.sGap by decide +kernel),if_neg (show ¬GL.zBa=GL.sGap by decide +kernel)]
  exact decS x y
 ·have h1:t=GL.sGap:=h1
  have h2:y=s.str:=h2
  subst h1
  subst h2
  unfold GL.toP GL.takes
  rw[if_pos rfl,if_pos rfl,GL.zHd]
  show decide (vS (zGa x)=vS (some s))=_
  rw[hx.sort]
  exact decS _ _
theorem zLi {es:List (Str×Str)}(he:∀e∈es,GL.EOk e){r:List Str}(hr:∀x∈r,Wd x):(misM (es.map GL.toP) r).isNone=GL.zNb es r:=by
 rw[Bool.eq_iff_iff,Option.isNone_iff_eq_none,zqc,GL.zzb,List.length_map]
 refine and_congr_right fun hl=>⟨fun h i e x h1 h2=>?_,fun h i hi=>?_⟩
 ·have hi:i<es.length:=(List.getElem?_eq_some_iff.mp h1).1
  have:=h i hi
  unfold zea at this
  rw[List.getElem?_map,h1,h2] at this
  rw[<- zwe (he e (List.mem_of_getElem? h1)) (hr x (List.mem_of_getElem? h2))]
  exact this
 ·have h1:es[i]?=some es[i]:=List.getElem?_eq_getElem hi
  have h2:r[i]?=some (r[i]'(by omega)):=List.getElem?_eq_getElem (by omega)
  unfold zea
  rw[List.getElem?_map,h1,h2]
  show zGb (GL.toP es[i]) _=true
  rw[zwe (he _ (List.getElem_mem hi)) (hr _ (List.getElem_mem _))]
  exact h i _ _ h1 h2
def wrtM (fs:List (List Pt))(z:Str):List Nat:=(List.range fs.length).filter fun i=>decide ((entM [fs.getD i []] z).1=0)
theorem zBk {ps:List Pt}{z:Str}{r:List Str}(h:rowM z=some r):decide ((entM [ps] z).1=0)=(misM ps r).isNone:=by
 unfold entM
 rw[h]
 show decide ((match firstM [ps] r with|none=>((8,[]):Nat×List Str)|some i=>(i,zoa ([ps].getD i []) r r.length)).1=0)=_
 unfold firstM
 rw[List.findIdx?_cons,List.findIdx?_nil]
 cases(misM ps r).isNone<;>rfl
theorem zCk {zs:List Str}{most:Int}(m0:0<=most)(hb:∀z∈zs,GL.zxa (zh z))(h8:(rwsM zs).length<=8){z:Str}(hz:z∈zs):wrtM (fsP zs most) z=[(entM (fsP zs most) z).1]:=by
 have rz:=hb z hz
 have rm:rowM z=some (zh z):=by unfold rowM;rw[zsf rz];rfl
 have hok:∀r∈rwsM zs,GL.zxa r:=fun r hr=>by
  obtain⟨y,hy,rfl⟩:=List.mem_map.mp ((GL.zMb r _).mp hr)
  exact hb y hy
 have hm:zh z∈rwsM zs:=(GL.zMb _ _).mpr (List.mem_map.mpr ⟨z,hz,rfl⟩)
 obtain⟨k,hk,ek⟩:=List.getElem_of_mem hm
 have PP:=GL.zOb (ks:=rwsM zs) (most:=most) m0 (GL.zre _)
 have FO:=GL.zId (most:=most) m0 (GL.zre (zs.map zh)) h8 hok
 have eF:fsP zs most=((GL.zPa (rwsM zs) most).map (GL.fOf (rwsM zs))).map (·.map GL.toP):=rfl
 have FO2:∀es∈(GL.zPa (rwsM zs) most).map (GL.fOf (rwsM zs)),∀e∈es,GL.EOk e:=fun es he=>(FO.2 es he).2
 rw[eF]
 generalize GL.zPa (rwsM zs) most=gs at PP FO2
 generalize rwsM zs=ks at hk ek PP h8 FO2
 obtain⟨a,al,ha,ho⟩:=GL.own_one (gs:=gs) PP.perm (k:=(k:Int)) (by omega) (by omega)
 have fit:∀i,i<gs.length->(misM ((((gs.map (GL.fOf ks)).map (·.map GL.toP))).getD i []) (zh z)).isNone=decide ((k:Int)∈gs.getD i []):=by
  intro i hi
  have e1:((gs.map (GL.fOf ks)).map (·.map GL.toP)).getD i []=(GL.fOf ks gs[i]).map GL.toP:=by simp[List.getD,hi]
  have e2:gs.getD i []=gs[i]:=by simp[List.getD,hi]
  have e3:ks.getD k []=zh z:=by rw[<- ek];simp[List.getD,hk]
  rw[e1,e2,zLi (FO2 _ (List.mem_map.mpr ⟨gs[i],List.getElem_mem hi,rfl⟩)) rz.2.2,<- e3]
  exact GL.zwk (PP.good _ (List.getElem_mem hi)) hk
 have gl:((gs.map (GL.fOf ks)).map (·.map GL.toP)).length=gs.length:=by rw[List.length_map,List.length_map]
 generalize (gs.map (GL.fOf ks)).map (·.map GL.toP)=fs at fit gl
 have w1:wrtM fs z=[a]:=by
  rw[<- ho]
  unfold wrtM GL.ownM
  rw[gl]
  refine List.filter_congr fun i hi=>?_
  rw[zBk rm]
  exact fit i (List.mem_range.mp hi)
 have w2:firstM fs (zh z)=some a:=by
  unfold firstM
  rw[List.findIdx?_eq_some_iff_getElem]
  have g:∀i (hi:i<fs.length),(misM fs[i] (zh z)).isNone=decide ((k:Int)∈gs.getD i []):=fun i hi=>by
   rw[<- fit i (by omega)]
   simp[List.getD,hi]
  refine⟨by omega,?_,fun i hi=>?_⟩
  ·rw[g a (by omega)]
   exact decide_eq_true ha
  ·rw[g i (by omega)]
   have:¬(k:Int)∈gs.getD i []:=fun q=>by
    have mi:i∈GL.ownM gs (k:Int):=by
     unfold GL.ownM
     exact List.mem_filter.mpr ⟨List.mem_range.mpr (by omega),decide_eq_true q⟩
    rw[ho,List.mem_singleton] at mi
    omega
   rw[decide_eq_false this]
   exact Bool.false_ne_true
 rw[w1]
 unfold entM
 rw[rm]
 show[a]=[(match firstM fs (zh z) with|none=>((8,[]):Nat×List Str)|some i=>(i,zoa (fs.getD i []) (zh z) (zh z).length)).1]
 rw[w2]
def spIr:Sp:=fun vs H Q _=>∃z:Str,vs=[.str z]/\Tx 1000 z/\∀H',Same H H'->Q (.bl (rowM z).isSome) H'
def spWs:Sp:=fun vs H Q _=>∃(f:Addr)(vf:List V)(fs:List (List Pt))(z:Str),vs=[.ref f,.str z]/\H f=some (.tup vf)/\FsAt H vf fs/\FmOk fs/\Tx 1000 z∧
 ∀(l:Addr)(H':Hp),Same H H'->H' l=some (.lst ((wrtM fs z).map fun(i:Nat)=>V.int (i:Int)))->Q (.ref l) H'
def spTs (K:W.Frag):Sp:=fun vs H Q _=>∃(a:Addr)(ns:List Int),vs=[.ref a]/\SqL K H a (ns.map V.int)/\ns.length<=63/\∀(l:Addr)(zs:List Str)(H':Hp),Same H H'->H' l=some (.lst (zs.map V.str))->zs.length<=64->(∀z∈zs,PTx z)->Q (.ref l) H'
theorem zMi (ns:List Int)(lo hi:Nat):∃ms:List Int,cutV (ns.map V.int) (some (lo:Int)) (some (hi:Int))=ms.map V.int/\ms.length<=hi-lo:=by
 unfold cutV
 rw[HT.zod,HT.zod,List.length_map,<- List.map_drop,<- List.map_take]
 refine⟨_,rfl,?_⟩
 rw[List.length_take]
 omega
theorem zkm (zs:List Str)(hi:Nat):cutV (zs.map V.str) none (some (hi:Int))=(zs.take hi).map V.str:=by
 unfold cutV
 rw[HT.zod,HT.zVe,List.drop_zero,Nat.sub_zero,<- List.take_take,List.take_length,List.map_take]
theorem zlm (zs:List Str)(k:Nat):cutV (zs.map V.str) (some (k:Int)) none=(zs.drop k).map V.str:=by
 unfold cutV
 rw[HT.zod,HT.zVe,List.map_drop]
 by_cases h:k<=(zs.map V.str).length
 ·rw[Nat.min_eq_left h,List.take_of_length_le (by rw[List.length_drop];omega)]
 ·rw[Nat.min_eq_right (by omega),List.drop_eq_nil_of_le (Nat.le_refl _),List.drop_eq_nil_of_le (by omega),List.take_nil]
section
variable {P:Program}{w:World}{K:W.Frag}{mg:zT3}{base:Heap}
theorem scIr:FnScope ["_law_text_here","_law_row"] ["_law_text_here"] (zb sIr):=.of (by decide +kernel)
theorem zmm:BlkScope (zb sIr) ["_law_text_here","_law_row"] ["_law_word_here"] [] [] zDh:=.of (by decide +kernel)
theorem zSn (F:Fun K "_law_is_row" "_law_is_row" sIr f fd)(len:mg "len"=none)
  (FS:Fun K "_law_sort" "_law_sort" sLs fS dS)(bS:Binds K dS ["_law_text_here"] [])(gS:mg "_law_sort"=some (.ref fS))(GS:FnOk P w K mg base CX0 4 fS dS ["_law_text_here"] spSo):FnOk P w K mg base CX0 5 f fd ["_law_text_here"] spIr:=by
 refine F.ok scIr (fun vs H Q E h=>?_) (fun cdv A outer s H vs Q E hr h=>?_)
 ·obtain⟨z,rfl,_⟩:=h
  rfl
 ·obtain⟨z,rfl,tz,k⟩:=h
  have hu:=hr.units
  refine⟨_,ze (zH (i:=1) scIr.nd rfl (Or.inl rfl) (zQa PySem.F.plainAttrs_str PySem.F.slot_str_split PySem.F.type_str_split zVb (pv 0) (za zx zd)))
   (zf (zp (zQb (zQ zRc (zq zo (by rfl) len PySem.boot_len (za (pv 1) zd)) zg (zu _))
    (zjb (zQ (zdl hu) (zWa zmm rfl rfl rfl (zja (pv 1)) (fun fp C s1 H1=>zC (i:=0) zmm.nd rfl (Or.inl rfl)) (fun fp C s1 H1=>zIa (zr zVd (zi GS hr rfl gS FS.kp bS .nil zw (za (pv 0) zd)) zia (zu _))) (fun fp C s1 H1=>pv 0)) (zva zd) (zu _)))))),?_⟩
  have l1:=split_len z (Str.ofString " ")
  have l2:=zob z (Str.ofString " ")
  have l3:=tz.1
  have big:1002<=sizeLine:=by decide
  refine⟨_,rfl,rfl,z,_,rfl,rfl,rfl,zza tz (by decide),by omega,by omega,fun lr hlr=>?_⟩
  have rt:∀y∈zh z,Tx 1000 y:=zcc tz
  change (zh z).length<=z.length+2 at l1
  have s1:Same H (upd H lr (.lst ((zh z).map V.str))):=(Same.refl H).zao hlr
  have q1:upd H lr (.lst ((zh z).map V.str)) lr=some (.lst ((zh z).map V.str)):=zc
  refine⟨_,rfl,lr,_,rfl,.inl (SqL.of q1),_,_,rfl,rfl,decide ((zh z).length<=8),(congrArg V.bl (decide_eq_decide.mpr (by rw[List.length_map];exact Int.ofNat_le))),?_⟩
  generalize upd H lr (.lst ((zh z).map V.str))=H1 at s1 q1 ⊢
  by_cases c:8<(zh z).length
  ·rw[decide_eq_false (by omega)]
   refine iteF ?_
   have:=k H1 s1
   rw[ztf c] at this
   exact this
  ·rw[decide_eq_true (by omega)]
   refine iteT ⟨_,rfl,lr,rfl,⟨_,SqL.of q1⟩,fun D hD=>?_⟩
   refine zAa (K:=K) (a:=lr) (xs:=(zh z).map V.str) (fun j ys H3=>ys=(badL ((zh z).take j)).map V.str/\Same H1 H3/\H3 D=some (.lst ys)) (Nat.le_of_lt (zv (by rw[List.length_map];omega))) ⟨rfl,(Same.refl H1).zao hD,zc⟩
    (fun j ys H3 h=>by rw[h.1,List.length_map];refine Nat.le_trans (List.length_filter_le _ _) ?_;rw[List.length_take];exact Nat.min_le_left _ _) (fun j ys H3 h=>SqL.of (h.2.1 _ _ q1)) ?_ ?_
   ·rintro j ys H3 x N M hx ⟨rfl,s3,hD3⟩ hN hM
    rw[List.getElem?_map] at hx
    cases ey:(zh z)[j]? with
    |none=>rw[ey] at hx;cases hx
    |some y=>
     rw[ey] at hx
     cases hx
     have tk:badL ((zh z).take (j+1))=badL ((zh z).take j)++(if (zGa y).isNone then[y] else[]):=by
      unfold badL
      rw[List.take_add_one,ey,List.filter_append]
      show _++List.filter _ [y]=_
      rw[List.filter_cons,List.filter_nil]
     refine⟨_,rfl,y,rfl,rt y (List.mem_of_getElem? ey),fun H4 s4=>⟨rfl,(zGa y).isNone,?_,?_⟩⟩
     ·cases zGa y<;>rfl
     ·cases c2:(zGa y).isNone with
      |true=>
       refine iteT ⟨_,rfl,?_⟩
       have hD4:=s4 _ _ hD3
       refine hN _ H4 hD4 ⟨by rw[tk,c2,List.map_append];rfl,(s3.trans s4).zao hD,zc⟩
      |false=>
       refine iteF (hM H4 ⟨by rw[tk,c2];exact congrArg (List.map V.str) (List.append_nil _).symm,s3.trans s4,s4 _ _ hD3⟩)
   ·rintro ys H3 ⟨rfl,s3,hD3⟩
    rw[List.length_map,List.take_of_length_le (Nat.le_refl _)] at hD3
    refine⟨Nat.zero_le _,fun e he=>?_⟩
    have s4:=(Same.refl H3).zao (o:=.lst []) he
    refine⟨.list _,.list [],.lst (SqL.of (s4 _ _ hD3)) (GL.zKb _),.lst (SqL.of zc) .nil,GL.zkf (n:=1000) (fun y hy=>rt y (List.mem_filter.mp hy).1),GL.zph,?_⟩
    have:=k _ (s1.trans (s3.trans s4))
    have e2:(rowM z).isSome=PyData.eqv (.list ((badL (zh z)).map PyData.str)) (.list []):=by
     have q:=zBh c
     rw[zCh]
     cases hm:rowM z<;>rw[hm] at q<;>simpa using q
    rw[e2] at this
    exact this
abbrev nWs:List Str:=["_law_forms","_law_text_here"]
theorem scWs:FnScope nWs nWs (zb sWs):=.of (by decide +kernel)
def zDk:Scope:=⟨.function,[(".0",.local),("_law_at",.local),("_law_entry",.globalImplicit),("_law_forms",.free),("_law_text_here",.free)],false,false,[]⟩
theorem znm:BlkScope (zb sWs) nWs ["_law_at"] ["_law_forms","_law_text_here"] [0,1] zDk:=.of (by decide +kernel)
theorem zTn (F:Fun K "_law_writers" "_law_writers" sWs f fd)(len:mg "len"=none)(range:mg "range"=none)
  (FE:Fun K "_law_entry" "_law_entry" sEn fE dE)(bE:Binds K dE ["_law_forms","_law_text_here"] [])(gE:mg "_law_entry"=some (.ref fE))(GE:FnOk P w K mg base CX0 6 fE dE ["_law_forms","_law_text_here"] spEo):FnOk P w K mg base CX0 7 f fd nWs spWs:=by
 refine F.ok scWs (fun vs H Q E h=>?_) (fun cdv A outer s H vs Q E hr h=>?_)
 ·obtain⟨f,vf,fs,z,rfl,_⟩:=h
  rfl
 ·obtain⟨f,vf,fs,z,rfl,hf,hF,hok,tz,k⟩:=h
  refine⟨_,zf (zp (zWa znm rfl rfl rfl (zZ rfl range (za (zq zo (by rfl) len PySem.boot_len (za (pv 0) zd)) zd)) (fun fp C s1 H1=>zC (i:=0) znm.nd rfl (Or.inl rfl))
   (fun fp C s1 H1=>zIa (zr zV (zU (r:=rIxT K) zfa (zi GE hr rfl gE FE.kp bE .nil zw (za (zua (za (zU (r:=rIxT K) zfa (pv 1) (pv 0) (fun _ _=>rfl)) zd)) (za (pv 2) zd))) zg (fun _ _=>rfl)) zg (zu _))) (fun fp C s1 H1=>pv 0))),?_⟩
  have h8:=hok.1
  have fl:=hF.1
  refine⟨_,rfl,f,_,rfl,.inr (SqT.of hf),_,rfl,by omega,by omega,fun D hD=>?_⟩
  rw[Int.toNat_natCast]
  refine zsc (lo:=0) (n:=vf.length) (fun j ys H3=>ys=((List.range j).filter fun i=>decide ((entM [fs.getD i []] z).1=0)).map (fun(i:Nat)=>V.int (i:Int))/\Same H H3/\H3 D=some (.lst ys)) (Nat.le_of_lt (zv (by omega))) ⟨rfl,(Same.refl H).zao hD,zc⟩
   (fun j ys H3 h=>by rw[h.1,List.length_map];refine Nat.le_trans (List.length_filter_le _ _) ?_;rw[List.length_range];exact Nat.le_refl _) ?_ ?_
  ·rintro j ys H3 N M hj ⟨rfl,s3,hD3⟩ hN hM
   rw[Int.zero_add]
   have hj':j<fs.length:=by omega
   have ej:fs[j]?=some fs[j]:=List.getElem?_eq_getElem hj'
   have eD:fs.getD j []=fs[j]:=by simp[List.getD,hj']
   have hps:=hok.2 fs[j] (List.getElem_mem hj')
   obtain⟨q,us,g1,g2,g3⟩:=hF.2 j _ ej
   have sn:((List.range (j+1)).filter fun i=>decide ((entM [fs.getD i []] z).1=0))=((List.range j).filter fun i=>decide ((entM [fs.getD i []] z).1=0))++if decide ((entM [fs.getD j []] z).1=0) then[j] else[]:=by
    rw[List.range_succ,List.filter_append,List.filter_cons,List.filter_nil]
   rw[eD] at sn
   generalize fs[j]=ps at g3 hps sn
   refine⟨_,rfl,_,rfl,f,_,_,_,rfl,rfl,SqT.of (s3 _ _ hf),zY g1,(by show 1<=sizeLine;decide),fun t ht=>?_⟩
   have s4:=(Same.refl H3).zao (o:=.tup [V.ref q]) ht
   have q4:upd H3 t (.tup [V.ref q]) t=some (.tup [V.ref q]):=zc
   generalize upd H3 t (.tup [V.ref q])=H4 at s4 q4 ⊢
   have t4:=s3.trans s4
   refine⟨_,rfl,t,[V.ref q],[ps],z,rfl,q4,⟨rfl,fun i ps' e=>?_⟩,⟨(by show 1<=8;decide),fun ps' e=>by rw[List.mem_singleton.mp e];exact hps⟩,tz,fun p g H5 s5 hp hg=>?_⟩
   ·cases i with
    |zero=>
     cases e
     exact⟨q,us,rfl,t4 _ _ g2,g3.zro t4.tups⟩
    |succ i=>simp at e
   refine⟨p,_,_,_,rfl,rfl,SqT.of hp,rfl,rfl,decide ((entM [ps] z).1=0),(congrArg V.bl (decide_eq_decide.mpr ⟨fun e=>by injection e with e;exact Int.ofNat_inj.mp e,fun e=>by rw[e];rfl⟩)),?_⟩
   cases hb:decide ((entM [ps] z).1=0) with
   |true=>
    refine iteT ⟨_,rfl,hN _ H5 ((s4.trans s5) _ _ hD3) ⟨?_,(s3.trans (s4.trans s5)).zao hD,zc⟩⟩
    rw[sn,hb,List.map_append]
    rfl
   |false=>
    refine iteF (hM H5 ⟨?_,s3.trans (s4.trans s5),(s4.trans s5) _ _ hD3⟩)
    rw[sn,hb]
    exact congrArg _ (List.append_nil _).symm
  ·rintro ys H3 ⟨rfl,s3,hD3⟩
   refine k D H3 s3 ?_
   unfold wrtM
   rw[<- fl]
   exact hD3
abbrev nTs:List Str:=["_law_script","_law_bases_here","_law_texts_here","_law_at"]
theorem scTs:FnScope nTs ["_law_script"] (zb sTs):=.of (by decide +kernel)
def zEk:Scope:=⟨.function,[(".0",.local),("_law_cell",.local),("_law_text",.globalImplicit),("_law_bases_here",.free),("_law_script",.free)],false,false,[]⟩
theorem zom:BlkScope (zb sTs) nTs ["_law_cell"] ["_law_bases_here","_law_script"] [1,0] zEk:=.of (by decide +kernel)
theorem zUn (F:Fun K "_law_texts" "_law_texts" sTs f fd)(len:mg "len"=none)
  (FB:Fun K "_law_bases" "_law_bases" sBa fB dB)(bB:Binds K dB ["_law_script"] [])(gB:mg "_law_bases"=some (.ref fB))(GB:FnOk P w K mg base CX0 6 fB dB ["_law_script"] (spBa K))
  (FT:Fun K "_law_text" "_law_text" sTe fT dT)(bT:Binds K dT ["_law_script","_law_bases_here","_law_cell"] [])(gT:mg "_law_text"=some (.ref fT))(GT:FnOk P w K mg base CX0 5 fT dT ["_law_script","_law_bases_here","_law_cell"] (spTe K))
  (FC:Fun K "_law_cell_at" "_law_cell_at" sCe fC dC)(bC:Binds K dC ["_law_script","_law_k"] [])(gC:mg "_law_cell_at"=some (.ref fC))
  (FO:Fun K "_law_odd_text" "_law_odd_text" sOd fO dO)(bO:Binds K dO ["_law_cell"] [])(gO:mg "_law_odd_text"=some (.ref fO))(GO:FnOk P w K mg base CX0 6 fO dO ["_law_cell"] spOd):FnOk P w K mg base CX0 7 f fd ["_law_script"] (spTs K):=by
 have GC:FnOk P w K mg base CX0 1 fC dC ["_law_script","_law_k"] (spCe K):=zFi FC len
 refine F.ok scTs (fun vs H Q E h=>?_) (fun cdv A outer s H vs Q E hr h=>?_)
 ·obtain⟨a,ns,rfl,_⟩:=h
  rfl
 ·obtain⟨a,ns,rfl,hS,hln,k⟩:=h
  have hr1:Room 1 _:=hr.mono (by decide)
  have hr5:Room 5 _:=hr.mono (by decide)
  refine⟨_,ze (zH (i:=1) scTs.nd rfl (Or.inr rfl) (zi GB hr rfl gB FB.kp bB .nil zw (za (pv 0) zd)))
   (ze (zbb (i:=2) zom rfl rfl rfl (zja (zab zze (pv 0) (zUa zg) (zUa zg))) (fun fp C s1 H1=>zC (i:=0) zom.nd rfl (Or.inl rfl)) (fun fp C s1 H1=>zla) (fun fp C s1 H1=>zi GT hr5 rfl gT FT.kp bT .nil zw (za (pv 2) (za (pv 1) (za (pv 0) zd)))) scTs.nd rfl rfl rfl)
   (ze (zeb (zM (zr zV (zz zR (zi GC hr1 rfl gC FC.kp bC .nil zw (za (pv 0) (za zg zd))) zg) zg (zu _))
    (ze (zeb (zH (i:=3) scTs.nd rfl (Or.inl rfl) (zz zR (zz zN (zi GC hr1 rfl gC FC.kp bC .nil zw (za (pv 0) (za zg zd))) zg) (zz zSa (zq zo (by rfl) len PySem.boot_len (za (pv 2) zd)) zg))))
    (zf (zH (i:=2) scTs.nd rfl (Or.inl rfl) (zz zxg (zz zxg (zab zze (pv 2) zpd (zUa (pv 3))) (zva (za (zi GO hr rfl gO FO.kp bO .nil zw (za (zz zN (zi GC hr1 rfl gC FC.kp bC .nil zw (za (pv 0) (za zg zd))) zg) zd)) zd))) (zab zze (pv 2) (zUa (pv 3)) zpd))))) zt))
   (ze (zeb (zM (zr zV (zz zR (zi GC hr1 rfl gC FC.kp bC .nil zw (za (pv 0) (za zg zd))) zg) zg (zu _))
    (zf (zH (i:=2) scTs.nd rfl (Or.inl rfl) (zz zal (pv 2) (zz zSa zg (zz zR (zz zN (zi GC hr1 rfl gC FC.kp bC .nil zw (za (pv 0) (za zg zd))) zg) zg))))) zt))
   (zf (zp (pv 2)))))),?_⟩
  refine⟨_,rfl,a,ns,rfl,hS,by omega,fun lb bs H1 s1 hlb bl hb=>?_⟩
  obtain⟨ms,em,ml⟩:=zMi ns 6 18
  refine⟨_,rfl,_,rfl,_,rfl,a,_,rfl,s1.seq hS,fun lc hlc=>?_⟩
  rw[show cutV (ns.map V.int) (some 6) (some 18)=ms.map V.int from em]
  have s2:=(Same.refl H1).zao (o:=.lst (ms.map V.int)) hlc
  have q2:upd H1 lc (.lst (ms.map V.int)) lc=some (.lst (ms.map V.int)):=zc
  generalize upd H1 lc (.lst (ms.map V.int))=H2 at s2 q2 ⊢
  have t2:=s1.trans s2
  refine⟨lc,rfl,⟨_,SqL.of q2⟩,fun D hD=>?_⟩
  refine zAa (K:=K) (a:=lc) (xs:=ms.map V.int) (fun j ys H3=>∃zs:List Str,ys=zs.map V.str/\zs.length=j/\(∀z∈zs,PTx z)/\Same H2 H3/\H3 D=some (.lst ys)) (Nat.le_of_lt (zv (by rw[List.length_map];omega))) ⟨[],rfl,rfl,(fun z hz=>by cases hz),(Same.refl H2).zao hD,zc⟩
   (fun j ys H3 h=>by obtain⟨zs,rfl,h,_⟩:=h;rw[List.length_map,h];exact Nat.le_refl _) (fun j ys H3 h=>by obtain⟨_,_,_,_,h,_⟩:=h;exact SqL.of (h _ _ q2)) ?_ ?_
  ·rintro j ys H3 x N M hx ⟨zs,rfl,zl,hz,s3,hD3⟩ hN hM
   obtain⟨c,_,rfl⟩:=List.mem_map.mp (List.mem_of_getElem? hx)
   have t3:=s2.trans s3
   refine⟨_,rfl,_,rfl,_,rfl,a,lb,ns,bs,c,rfl,(s1.trans t3).seq hS,by omega,t3 _ _ hlb,bl,fun b hb'=>(hb b hb').same t3,fun z H4 tz s4=>?_⟩
   have hD4:=s4 _ _ hD3
   refine hN _ H4 hD4 ⟨zs++[z],by rw[List.map_append];rfl,by rw[List.length_append,zl];rfl,fun y hy=>?_,(s3.trans s4).zao hD,zc⟩
   rcases List.mem_append.mp hy with hy|hy
   ·exact hz y hy
   ·rw[List.mem_singleton.mp hy]
    exact tz.p
  rintro ys H3 ⟨zs0,rfl,zl0,hz0,s3,hD3⟩
  rw[List.length_map] at zl0
  have t3:=t2.trans s3
  have z12:zs0.length<=12:=by omega
  have big0:1000<=sizeLine:=by decide
  refine⟨fun σ' H'=>∃(l:Addr)(zs:List Str)(v3:Option V),σ'=[some (.ref a),some (.ref lb),some (.ref l),v3]/\Same H3 H'/\H' l=some (.lst (zs.map V.str))/\zs.length<=13/\∀z∈zs,PTx z,?_,?_⟩
  ·refine⟨_,rfl,a,ns,5,rfl,t3.seq hS,by omega,by decide,fun c H4 s4=>⟨_,_,rfl,rfl,(by show(0:Int)<4;decide),rfl,_,rfl,?_⟩⟩
   refine ifb ?_ ⟨D,zs0,none,rfl,s4,s4 _ _ hD3,by omega,hz0⟩
   have D4:=s4 _ _ hD3
   refine⟨fun σ' H'=>∃n:Nat,σ'=[some (.ref a),some (.ref lb),some (.ref D),some (.int (n:Int))]/\n<=zs0.length/\Same H4 H',?_,?_⟩
   ·refine⟨_,rfl,a,ns,5,rfl,(t3.trans s4).seq hS,by omega,by decide,fun c2 H5 s5=>⟨_,_,rfl,rfl,⟨by decide,by decide⟩,_,rfl,D,_,rfl,.inl (SqL.of (s5 _ _ D4)),_,_,rfl,rfl,_,_,rfl,rfl,?_,?_⟩⟩
    ·show(0:Int)<((zs0.map V.str).length:Int)+1
     omega
    ·have m0:0<=c2 / 4%(((zs0.map V.str).length:Int)+1):=Int.emod_nonneg _ (by omega)
     have m1:c2 / 4%(((zs0.map V.str).length:Int)+1)<((zs0.map V.str).length:Int)+1:=Int.emod_lt_of_pos _ (by omega)
     refine⟨(c2 / 4%(((zs0.map V.str).length:Int)+1)).toNat,?_,?_,s5⟩
     ·rw[Int.toNat_of_nonneg m0]
      rfl
     ·rw[List.length_map] at *
      omega
   rintro _ H5 ⟨n,rfl,nl,s5⟩
   have D5:=s5 _ _ D4
   refine⟨_,rfl,_,rfl,_,rfl,D,_,rfl,SqL.of D5,fun r1 h1=>?_⟩
   rw[zkm]
   have s6:=(Same.refl H5).zao (o:=.lst ((zs0.take n).map V.str)) h1
   have q6:upd H5 r1 (.lst ((zs0.take n).map V.str)) r1=some (.lst ((zs0.take n).map V.str)):=zc
   generalize upd H5 r1 (.lst ((zs0.take n).map V.str))=H6 at s6 q6 ⊢
   have t6:=t3.trans (s4.trans (s5.trans s6))
   refine⟨_,rfl,a,ns,5,rfl,t6.seq hS,by omega,by decide,fun c3 H7 s7=>⟨_,_,rfl,rfl,⟨by decide,by decide⟩,_,rfl,fun z H8 tz s8=>?_⟩⟩
   refine⟨(by show 1<=sizeLine;decide),fun r2 h2=>?_⟩
   have s9:=(Same.refl H8).zao (o:=.lst [V.str z]) h2
   have q9:upd H8 r2 (.lst [V.str z]) r2=some (.lst [V.str z]):=zc
   generalize upd H8 r2 (.lst [V.str z])=H9 at s9 q9 ⊢
   have u69:=s7.trans (s8.trans s9)
   refine⟨r1,r2,_,_,rfl,rfl,SqL.of (u69 _ _ q6),SqL.of q9,(by rw[List.length_map,List.length_take];show _+1<=_;omega),fun r3 h3=>?_⟩
   have s10:=(Same.refl H9).zao (o:=.lst ((zs0.take n).map V.str++[V.str z])) h3
   have q10:upd H9 r3 (.lst ((zs0.take n).map V.str++[V.str z])) r3=some (.lst ((zs0.take n).map V.str++[V.str z])):=zc
   generalize upd H9 r3 (.lst ((zs0.take n).map V.str++[V.str z]))=H10 at s10 q10 ⊢
   have u510:=s6.trans (u69.trans s10)
   refine⟨_,rfl,_,rfl,_,rfl,D,_,rfl,SqL.of (u510 _ _ D5),fun r4 h4=>?_⟩
   rw[zlm]
   have s11:=(Same.refl H10).zao (o:=.lst ((zs0.drop n).map V.str)) h4
   have q11:upd H10 r4 (.lst ((zs0.drop n).map V.str)) r4=some (.lst ((zs0.drop n).map V.str)):=zc
   generalize upd H10 r4 (.lst ((zs0.drop n).map V.str))=H11 at s11 q11 ⊢
   refine⟨r3,r4,_,_,rfl,rfl,SqL.of (s11 _ _ q10),SqL.of q11,(by rw[List.length_append,List.length_map,List.length_map,List.length_take,List.length_drop];show _+1+_<=_;omega),fun r5 h5=>?_⟩
   have s12:=(Same.refl H11).zao (o:=.lst ((zs0.take n).map V.str++[V.str z]++(zs0.drop n).map V.str)) h5
   refine⟨r5,zs0.take n++[z]++zs0.drop n,_,rfl,s4.trans (s5.trans (u510.trans (s11.trans s12))),by rw[zc,List.map_append,List.map_append];rfl,by rw[List.length_append,List.length_append,List.length_take,List.length_drop,List.length_singleton];omega,fun y hy=>?_⟩
   rcases List.mem_append.mp hy with hy|hy
   ·rcases List.mem_append.mp hy with hy|hy
    ·exact hz0 y (List.mem_of_mem_take hy)
    ·rw[List.mem_singleton.mp hy]
     exact tz
   ·exact hz0 y (List.mem_of_mem_drop hy)
  rintro _ H4 ⟨l1,zs1,v3,rfl,s4,hl1,zl1,hz1⟩
  have t4:=t3.trans s4
  refine⟨fun σ' H'=>∃(l:Addr)(zs:List Str)(v3:Option V),σ'=[some (.ref a),some (.ref lb),some (.ref l),v3]/\Same H4 H'/\H' l=some (.lst (zs.map V.str))/\zs.length<=64/\∀z∈zs,PTx z,?_,?_⟩
  ·refine⟨_,rfl,a,ns,5,rfl,t4.seq hS,by omega,by decide,fun c H5 s5=>⟨_,_,rfl,rfl,(by show(0:Int)<4;decide),rfl,_,rfl,?_⟩⟩
   refine ifb ?_ ⟨l1,zs1,v3,rfl,s5,s5 _ _ hl1,by omega,hz1⟩
   refine⟨_,rfl,_,rfl,a,ns,5,rfl,(t4.trans s5).seq hS,by omega,by decide,fun c2 H6 s6=>⟨_,_,rfl,rfl,⟨by decide,by decide⟩,_,_,rfl,rfl,(by show(0:Int)<2;decide),_,_,rfl,rfl,?_⟩⟩
   have m0:0<=c2 / 4%2:=Int.emod_nonneg _ (by decide)
   have m1:c2 / 4%2<2:=Int.emod_lt_of_pos _ (by decide)
   obtain⟨t,ht⟩:∃t:Nat,(2+c2 / 4%2).toNat=t:=⟨_,rfl⟩
   have t3':t<=3:=by omega
   have tm:zs1.length*t<=13*3:=Nat.mul_le_mul zl1 t3'
   have big:1000<=sizeLine:=by decide
   refine⟨l1,2+c2 / 4%2,_,rfl,rfl,(s5.trans s6) _ _ hl1,by omega,by omega,by rw[ht,List.length_map];omega,fun lr hlr=>?_⟩
   rw[ht]
   have er:(List.replicate t (zs1.map V.str)).flatten=((List.replicate t zs1).flatten).map V.str:=by
    rw[List.map_flatten,List.map_replicate]
   refine⟨lr,(List.replicate t zs1).flatten,_,rfl,s5.trans (s6.trans ((Same.refl H6).zao hlr)),by rw[zc,er],by rw[len_rep,Nat.mul_comm];omega,fun y hy=>?_⟩
   obtain⟨x,hx,hy⟩:=List.mem_flatten.mp hy
   rw[List.eq_of_mem_replicate hx] at hy
   exact hz1 y hy
  rintro _ H5 ⟨l2,zs2,v3,rfl,s5,hl2,zl2,hz2⟩
  exact⟨_,rfl,k l2 zs2 H5 (t4.trans s5) hl2 zl2 hz2⟩
end
end SL
namespace L2
open PySem PySem.Spec PyProof.Rows
section
variable {X:Cx}
theorem zpm {K:W.Frag}(hK:X.K=K){o e:Expr}{es:List Expr}{to:TE}{t:TA}{name:Str}{apos cpos:Pos}{T id:String}{r:V->List V->Hp->VK->Prop}(pa:PlainAttrs T)(slot:Slot T name id)(hty:typeOf (.builtin id)=pure (.type "method_descriptor"))(hm:MtR X id r)(ho:PE X o to)(ha:PA X (e::es) t)
  (hbase:attributeBase o name X.env (eval o X.env)=eval o X.env:=by rfl)
  (hfew:((backTo cpos (starEach (e::es) X.env)).all (fun x=>!x.1)&&(backToKw cpos (keywordEach [] X.env)).all (fun x=>x.1.isSome)
   &&decide ((e::es).length+([]:List Keyword).length+(if ([]:List Keyword).isEmpty then 0 else 1)<30))=true:=by rfl)
  (hline:(apos.endLine==cpos.line)=true:=by rfl) (hs:starEach (e::es) X.env=(false,eval e X.env)::starEach es X.env:=by rfl) (hplain:(backTo cpos (starEach es X.env)).any (·.1)=false:=by rfl):
  PE X (.Call (.Attribute o name apos) (e::es) [] cpos) (tBM K T r to t):=by subst hK;exact zQa pa slot hty hm ho ha hbase hfew hline hs hplain
end
end L2
namespace GL
open PySem L2 SL
def dFo (es:List (Str×Str)):PyData:=.tuple ((es.map some).map dPt)
theorem zOe {K:W.Frag}{H:Hp}:∀(fs:List (List (Str×Str)))(us:List V),FsAt H us fs->DsAt K H us (fs.map dFo)
 | [],[],_=>.nil
 | [],_::_,h=>by have:=h.1;simp at this
 |_::_,[],h=>by have:=h.1;simp at this
 |es::fs,u::us,h=>by
  obtain⟨p,g1,vs,g2,g3⟩:=h.2 0 es rfl
  cases g1
  have ih:=zOe (K:=K) fs us ⟨by simpa using h.1,fun i x ex=>by
   obtain⟨q,g1,g2⟩:=h.2 (i+1) x (by simpa using ex)
   exact⟨q,by simpa using g1,g2⟩⟩
  exact .cons (.tup (SqT.of g2) g3.data) ih
theorem zqm {e:Str×Str}(h:EOk e):Tx 60 e.1/\Tx 60 e.2:=by
 rcases h with⟨h1,h2⟩|⟨h1,s,h2⟩
 ·rw[h1]
  exact⟨(show Tx 60 zBa from txK (n:=60) (by decide +kernel)),h2.tx.1⟩
 ·rw[h1,h2]
  exact⟨(show Tx 60 sGap from txK (n:=60) (by decide +kernel)),zEl _⟩
theorem zrm {es:List (Str×Str)}(h:∀e∈es,EOk e):DOk (dFo es):=zdk fun e he x ex=>by
 obtain⟨y,hy,e1⟩:=List.mem_map.mp he
 rw[ex] at e1
 cases e1
 exact zqm (h x hy)
theorem zFk:∀{fs:List (List (Str×Str))},(∀es∈fs,∀e∈es,EOk e)->PyData.canLayAll0 (fs.map dFo)=true/\PyData.depthAll (fs.map dFo)<=2
 | [],_=>⟨rfl,Nat.zero_le _⟩
 |es::fs,h=>by
  have ih:=zFk (fs:=fs) fun x hx=>h x (List.mem_cons_of_mem _ hx)
  have h1:=zrm (h es List.mem_cons_self)
  rw[List.map_cons,PyData.canLayAll0,PyData.depthAll,ih.1,h1.1]
  refine⟨rfl,Nat.max_le.mpr ⟨?_,ih.2⟩⟩
  unfold dFo
  rw[PyData.depth]
  have:=zjc (es.map some)
  omega
theorem zsm {fs:List (List (Str×Str))}(h:∀es∈fs,∀e∈es,EOk e):DOk (.tuple (fs.map dFo)):=⟨(zFk h).1,by
 rw[PyData.depth]
 have:=(zFk h).2
 omega⟩
end GL
namespace SL
open PySem L2
def zGh (K:W.Frag):Sp:=fun vs H Q _=>∃(a:Addr)(ns:List Int),vs=[.ref a]/\SqL K H a (ns.map V.int)/\ns.length<=63/\∀H',Q (.bl true) H'
theorem ztm {fs:List (List Pt)}(hok:FmOk fs)(z:Str):(entM fs z).1<=8:=by
 unfold entM
 cases hm:rowM z with
 |none=>exact Nat.le_refl 8
 |some r=>
  show(match firstM fs r with|none=>((8,[]):Nat×List Str)|some i=>(i,zoa (fs.getD i []) r r.length)).1<=8
  cases hf:firstM fs r with
  |none=>exact Nat.le_refl 8
  |some i=>
   have hi:=hf
   unfold firstM at hi
   rw[List.findIdx?_eq_some_iff_getElem] at hi
   obtain⟨il,_⟩:=hi
   have:=hok.1
   show i<=8
   omega
theorem zNi (zs:List Str):((List.range zs.length).filter fun i=>(rowM (zs.getD i Str.empty)).isNone).head?=badI zs:=by
 unfold badI
 cases h:zs.findIdx? fun z=>(rowM z).isNone with
 |none=>
  rw[List.findIdx?_eq_none_iff] at h
  rw[List.head?_eq_none_iff,List.filter_eq_nil_iff]
  intro i hi
  have hi:=List.mem_range.mp hi
  have e:zs.getD i Str.empty=zs[i]:=by simp[List.getD,hi]
  rw[e,h _ (List.getElem_mem hi)]
  exact Bool.false_ne_true
 |some j=>
  rw[List.findIdx?_eq_some_iff_getElem] at h
  obtain⟨jl,h1,h2⟩:=h
  rw[List.head?_filter,List.find?_range_eq_some]
  refine⟨by simpa [List.getD,jl] using h1,List.mem_range.mpr jl,fun i hi=>?_⟩
  have:=h2 i hi
  have il:i<zs.length:=by omega
  have e:zs.getD i Str.empty=zs[i]:=by simp[List.getD,il]
  rw[e]
  cases hc:(rowM zs[i]).isNone with
  |true=>exact absurd hc this
  |false=>rfl
def zVn (K:W.Frag):List V->Hp->VK->Prop:=fun xs H Q=>∃p ys,xs=[.ref p]/\((SqL K H p ys/\∀l,H l=none->Q (.ref l) (upd H l (.tup ys)))\/(SqT K H p ys/\Q (.ref p) H))
abbrev vN (l:List Nat):List V:=l.map fun(i:Nat)=>V.int (i:Int)
abbrev dN (l:List Nat):List PyData:=l.map fun(i:Nat)=>PyData.int (i:Int)
theorem zNd {K:W.Frag}{H:Hp}:∀l:List Nat,DsAt K H (vN l) (dN l)
 | []=>.nil
 |i::l=>.cons (.int _) (zNd l)
theorem zGk:∀n:Nat,n<=64->(PyData.int (n:Int)).canLay0=true:=by decide +kernel
theorem zPe:∀{l:List Nat},(∀i∈l,i<=64)->PyData.canLayAll0 (dN l)=true/\PyData.depthAll (dN l)=0
 | [],_=>⟨rfl,rfl⟩
 |i::l,h=>by
  have ih:=zPe (l:=l) fun x hx=>h x (List.mem_cons_of_mem _ hx)
  show PyData.canLayAll0 (PyData.int (i:Int)::dN l)=true/\PyData.depthAll (PyData.int (i:Int)::dN l)=0
  rw[PyData.canLayAll0,PyData.depthAll,ih.1,ih.2,zGk i (h i List.mem_cons_self)]
  exact⟨rfl,rfl⟩
theorem zwf {l:List Nat}(h:∀i∈l,i<=64):DOk (.list (dN l)):=⟨(zPe h).1,by
 rw[PyData.depth,(zPe h).2]
 decide⟩
theorem zOi (l:List Nat):PyData.eqv (.list (dN l)) (.list [])=decide (l=[]):=by
 cases l with
 |nil=>rfl
 |cons a l=>rfl
section
variable {P:Program}{w:World}{K:W.Frag}{mg:zT3}{base:Heap}{C CU CM:Addr}
abbrev nLaw:List Str:=["_law_script","_law_texts_here","_law_cell","_law_bad","_law_many","_law_loom","_law_forms","_law_text_here","_law_found"]
theorem zOd:FnScope nLaw ["_law_script"] (zb sLaw):=.of (by decide +kernel)
def zHk:Scope:=⟨.function,[(".0",.local),("_law_k",.local),("_law_is_row",.globalImplicit),("_law_texts_here",.free)],false,false,[]⟩
theorem scL1:BlkScope (zb sLaw) nLaw ["_law_k"] ["_law_texts_here"] [1] zHk:=.of (by decide +kernel)
def zIk:Scope:=⟨.function,[(".0",.local),("_law_text_here",.local),("tuple",.globalImplicit)],false,false,[]⟩
theorem scL2:BlkScope (zb sLaw) nLaw ["_law_text_here"] [] [] zIk:=.of (by decide +kernel)
theorem zum {fOf:Addr}{itf:Array Value}(F:Fun K "law" "law" sLaw f fd)(T:T1 mg)(tup:mg "tuple"=none)(int:mg "int"=none)(Y:LK K C)
  (FT:Fun K "_law_texts" "_law_texts" sTs fT dT)(bT:Binds K dT ["_law_script"] [])(gT:mg "_law_texts"=some (.ref fT))(GT:FnOk P w K mg base CX0 7 fT dT ["_law_script"] (spTs K))
  (FC:Fun K "_law_cell_at" "_law_cell_at" sCe fC dC)(bC:Binds K dC ["_law_script","_law_k"] [])(gC:mg "_law_cell_at"=some (.ref fC))
  (FI:Fun K "_law_is_row" "_law_is_row" sIr fI dI)(bI:Binds K dI ["_law_text_here"] [])(gI:mg "_law_is_row"=some (.ref fI))(GI:FnOk P w K mg base CX0 5 fI dI ["_law_text_here"] spIr)
  (FU:Fun K "_law_unlike" "_law_unlike" sUk fU dU)(bU:Binds K dU ["_law_texts_here","_law_most_here"] [])(gU:mg "_law_unlike"=some (.ref fU))
  (FR:Fun K "_law_refused" "_law_refused" sRf fR dR)(bR:Binds K dR ["_law_texts_here","_law_cell","_law_wanted","_law_number"] [])(gR:mg "_law_refused"=some (.ref fR))(GR:FnOk P w K mg base CX0 25 fR dR ["_law_texts_here","_law_cell","_law_wanted","_law_number"] spRf)
  (FM:Fun K "_law_made" "_law_made" sMa fM dM)(bM:Binds K dM ["_law_texts_here","_law_cell"] [])(gM:mg "_law_made"=some (.ref fM))(GM:FnOk P w K mg base CX0 24 fM dM ["_law_texts_here","_law_cell"] (fun vs H Q _=>spMa C CU CM vs H Q E0))
  (FF:FunD K "forms_of" "forms_of" sFo fF dF itf)(bF:Binds K dF ["rows","most"] [])(gF:mg "forms_of"=some (.ref fF))(GF:FnOk P w K mg base CX0 21 fF dF ["rows","most"] GL.spFo)
  (FMo:Fun K "_law_most" "_law_most" sMs fMo dMo)(bMo:Binds K dMo ["_law_cell"] [])(gMo:mg "_law_most"=some (.ref fMo))
  (FW:Fun K "_law_writers" "_law_writers" sWs fW dW)(bW:Binds K dW ["_law_forms","_law_text_here"] [])(gW:mg "_law_writers"=some (.ref fW))(GW:FnOk P w K mg base CX0 7 fW dW ["_law_forms","_law_text_here"] spWs)
  (mOf:Meth K C "forms" fOf)(bOf:Binds K dOf ["self"] [])(oOf:FnOk P w K mg base CX0 1 fOf dOf ["self"] (zYl C))(mOm:Meth K C "machine" fOm)(bOm:Binds K dOm ["self"] [])(oOm:FnOk P w K mg base CX0 1 fOm dOm ["self"] (spOm C))
  (mOl:Meth K C "letter" fOl)(bOl:Binds K dOl ["self","text"] [])(oOl:FnOk P w K mg base CX0 11 fOl dOl ["self","text"] (spOl C)):FnOk P w K mg base CX0 26 f fd ["_law_script"] (zGh K):=by
 have GC:FnOk P w K mg base CX0 1 fC dC ["_law_script","_law_k"] (spCe K):=zFi FC T.len
 have GU:FnOk P w K mg base CX0 1 fU dU ["_law_texts_here","_law_most_here"] spUk:=zNn FU T.len
 have GMo:FnOk P w K mg base CX0 1 fMo dMo ["_law_cell"] spMs:=zjm FMo
 refine F.ok zOd (fun vs H Q E h=>?_) (fun cdv A outer s H vs Q E hr h=>?_)
 ·obtain⟨a,ns,rfl,_⟩:=h
  rfl
 ·obtain⟨a,ns,rfl,hS,hln,k⟩:=h
  have hu:=hr.units
  have hr1:Room 1 _:=hr.mono (by decide)
  have hr5:Room 5 _:=hr.mono (by decide)
  have hr7:Room 7 _:=hr.mono (by decide)
  have hr11:Room 11 _:=hr.mono (by decide)
  have hr21:Room 21 _:=hr.mono (by decide)
  have hr24:Room 24 _:=hr.mono (by decide)
  refine⟨_,ze (zH (i:=1) zOd.nd rfl (Or.inr rfl) (zi GT hr7 rfl gT FT.kp bT .nil zw (za (pv 0) zd)))
   (ze (zH (i:=2) zOd.nd rfl (Or.inl rfl) (zi GC hr1 rfl gC FC.kp bC .nil zw (za (pv 0) (za zg zd))))
   (ze (zbb (i:=3) scL1 rfl rfl rfl (zZ rfl T.range (za (zq zo (by rfl) T.len PySem.boot_len (za (pv 1) zd)) zd)) (fun fp C s1 H1=>zC (i:=0) scL1.nd rfl (Or.inl rfl)) (fun fp C s1 H1=>zIa (zEb (zba (zi GI hr5 rfl gI FI.kp bI .nil zw (za (zU (r:=rIxL K) zEa (pv 1) (pv 0) (fun _ _=>rfl)) zd))))) (fun fp C s1 H1=>pv 0) zOd.nd rfl rfl rfl)
   (ze (zH (i:=4) zOd.nd rfl (Or.inl rfl) (zq zo (by rfl) T.len PySem.boot_len (za (zi GU hr1 rfl gU FU.kp bU .nil zw (za (pv 1) (za zg zd))) zd)))
   (ze (zM (zr (zaf hu) (pv 3) (zva zd) (zu _)) (zf (zp (zi GR hr rfl gR FR.kp bR .nil zw (za (pv 1) (za (pv 2) (za zx (za (zU zEa (pv 3) zg (fun _ _=>rfl)) zd))))))) zt)
   (ze (zM (zr zld (pv 4) zg (zu _)) (zf (zp (zi GR hr rfl gR FR.kp bR .nil zw (za (pv 1) (za (pv 2) (za zx (za (pv 4) zd))))))) zt)
   (ze (zH (i:=5) zOd.nd rfl (Or.inl rfl) (zi GM hr24 rfl gM FM.kp bM .nil zw (za (pv 1) (za (pv 2) zd))))
   (ze (zH (i:=6) zOd.nd rfl (Or.inl rfl) (zTe (pv 5) Y.cls mOf oOf hr1 bOf .nil zw))
   (ze (zM (PW.pt (zPb (zEb (zba (zq zJa (by rfl) T.isin PyProof.Rows.boot_isinstance (za (pv 6) (za (zxc (v:=.ty "tuple") (by rfl) tup PyProof.Rows.boot_tuple rfl) zd))))) (zDb (zyc (zid (zTe (pv 5) Y.cls mOm oOm hr1 bOm .nil zw)))))) (zf (zp zHb)) zt)
   (ze (zM (zr (zaf hu) (pv 6) (zi GF hr21 rfl gF FF.kp bF .nil zw (za (zS zL (by rfl) tup PyProof.Rows.boot_tuple (za (zWa scL2 rfl rfl rfl (zja (pv 1)) (fun fp C s1 H1=>zC (i:=0) scL2.nd rfl (Or.inl rfl)) (fun fp C s1 H1=>zla) (fun fp C s1 H1=>zS (r:=zVn K) zL (by rfl) tup PyProof.Rows.boot_tuple (za (zpm (K:=K) (r:=zYi) rfl PySem.F.plainAttrs_str PySem.F.slot_str_split PySem.F.type_str_split zVb (pv 0) (za zx zd)) zd))) zd)) (za (zi GMo hr1 rfl gMo FMo.kp bMo .nil zw (za (pv 2) zd)) zd))) (zu _)) (zf (zp zHb)) zt)
   (ze (zta PassesOwn.never rfl (zja (pv 1)) (zC (i:=7) zOd.nd rfl (Or.inl rfl))
    (ze (zH (i:=8) zOd.nd rfl (Or.inl rfl) (zqj (pv 5) Y.cls mOl oOl hr11 bOl .nil zw (za (pv 7) zd)))
    (zf (zM (PW.pt (zPb (zEb (zba (zq zJa (by rfl) T.isin PyProof.Rows.boot_isinstance (za (pv 8) (za (zxc (v:=.ty "int") (by rfl) int PyProof.Rows.boot_int rfl) zd)))))
      (zPb (zba (zq zJa (by rfl) T.isin PyProof.Rows.boot_isinstance (za (pv 8) (za (zxc (v:=.ty "bool") (by rfl) T.bool PyProof.Rows.boot_bool rfl) zd))))
      (zDb (zr (zaf hu) (zi GW hr7 rfl gW FW.kp bW .nil zw (za (pv 6) (za (pv 7) zd))) (zva (za (pv 8) zd)) (zu _)))))) (zf (zp zHb)) zt))))
   (zf (zp zHb)))))))))))),?_⟩
  refine⟨_,rfl,a,ns,rfl,hS,hln,fun lt zs H1 s1 hlt z64 hz=>?_⟩
  refine⟨_,rfl,a,ns,0,rfl,s1.seq hS,by omega,by decide,fun c H2 s2=>?_⟩
  have hlt2:=s2 _ _ hlt
  clear hlt s1 hS
  refine⟨_,rfl,lt,_,rfl,.inl (SqL.of hlt2),_,rfl,by omega,by rw[List.length_map];omega,fun D hD=>?_⟩
  rw[List.length_map,Int.toNat_natCast]
  refine zsc (lo:=0) (n:=zs.length) (fun j ys H3=>ys=vN ((List.range j).filter fun i=>(rowM (zs.getD i Str.empty)).isNone)/\Same H2 H3/\H3 D=some (.lst ys)) (Nat.le_of_lt (zv (by omega))) ⟨rfl,(Same.refl H2).zao hD,zc⟩
   (fun j ys H3 h=>by rw[h.1,List.length_map];refine Nat.le_trans (List.length_filter_le _ _) ?_;rw[List.length_range];exact Nat.le_refl _) ?_ ?_
  ·rintro j ys H3 N M hj ⟨rfl,s3,hD3⟩ hN hM
   rw[Int.zero_add]
   have ej:zs[j]?=some zs[j]:=List.getElem?_eq_getElem hj
   have eD:zs.getD j Str.empty=zs[j]:=by simp[List.getD,hj]
   have tz:=hz _ (List.getElem_mem hj)
   have sn:((List.range (j+1)).filter fun i=>(rowM (zs.getD i Str.empty)).isNone)=((List.range j).filter fun i=>(rowM (zs.getD i Str.empty)).isNone)++if (rowM (zs.getD j Str.empty)).isNone then[j] else[]:=by
    rw[List.range_succ,List.filter_append,List.filter_cons,List.filter_nil]
   rw[eD] at sn
   generalize zs[j]=z at ej tz sn
   refine⟨_,rfl,_,rfl,lt,_,_,_,rfl,rfl,SqL.of (s3 _ _ hlt2),zY (by rw[List.getElem?_map,ej];rfl),z,rfl,tz.1,fun H4 s4=>⟨_,rfl,?_⟩⟩
   cases hb:rowM z with
   |none=>
    refine iteT ⟨_,rfl,hN _ H4 (s4 _ _ hD3) ⟨?_,(s3.trans s4).zao hD,zc⟩⟩
    rw[sn,hb,vN,vN,List.map_append]
    rfl
   |some r=>
    refine iteF (hM H4 ⟨?_,s3.trans s4,s4 _ _ hD3⟩)
    rw[sn,hb]
    exact congrArg _ (List.append_nil _).symm
  rintro ys H3 ⟨rfl,s3,hD3⟩
  have hlt3:=s3 _ _ hlt2
  have bh:=zNi zs
  have bl:∀i∈(List.range zs.length).filter fun i=>(rowM (zs.getD i Str.empty)).isNone,i<=64:=fun i hi=>by
   have:=List.mem_range.mp (List.mem_filter.mp hi).1
   omega
  generalize (List.range zs.length).filter (fun i=>(rowM (zs.getD i Str.empty)).isNone)=bads at hD3 bh bl
  refine⟨_,rfl,lt,zs,100,rfl,hlt3,z64,fun z h=>(hz z h).1,by decide,fun r H4 s4 hr4=>⟨r,_,rfl,.inl (SqL.of hr4),?_⟩⟩
  have hD4:=s4 _ _ hD3
  have hlt4:=s4 _ _ hlt3
  rw[List.length_map,<- zAk]
  refine⟨_,rfl,Nat.zero_le _,fun e0 he0=>?_⟩
  have s5:=(Same.refl H4).zao (o:=.lst []) he0
  refine⟨.list _,.list [],.lst (SqL.of (s5 _ _ hD4)) (zNd bads),.lst (SqL.of zc) .nil,zwf bl,GL.zph,!decide (bads=[]),congrArg V.bl (congrArg (!·) (zOi _)),?_⟩
  generalize upd H4 e0 (.lst [])=H5 at s5 ⊢
  have hlt5:=s5 _ _ hlt4
  have hD5:=s5 _ _ hD4
  cases bads with
  |cons i rest=>
   refine iteT ⟨_,rfl,_,rfl,_,rfl,D,_,_,V.int (i:Int),rfl,rfl,SqL.of hD5,(by show atI (vN (i::rest)) ((0:Nat):Int)=_;exact zY rfl),lt,zs,c,_,i,rfl,hlt5,z64,hz,.inl ⟨bh.symm,rfl⟩,fun H6 s6=>k H6⟩
  |nil=>
  have hb:badI zs=none:=bh.symm
  refine iteF ?_
  refine⟨_,rfl,_,_,rfl,rfl,decide (8<(rwsM zs).length),(congrArg V.bl (decide_eq_decide.mpr Int.ofNat_lt)),?_⟩
  by_cases h8:8<(rwsM zs).length
  ·rw[decide_eq_true h8]
   exact iteT ⟨_,rfl,_,rfl,_,rfl,lt,zs,c,_,(rwsM zs).length,rfl,hlt5,z64,hz,.inr ⟨hb,h8,rfl,rfl⟩,fun H6 s6=>k H6⟩
  rw[decide_eq_false h8]
  have h8':(rwsM zs).length<=8:=Nat.le_of_not_lt h8
  refine iteF ⟨_,rfl,_,rfl,lt,zs,c,rfl,hlt5,z64,hz,⟨(fun i hi=>by rw[hb] at hi;cases hi),(fun _ h=>absurd h h8),fun _ _ o f' vf H6 s6 lo hF=>?_⟩⟩
  have hlt6:=s6 _ _ hlt5
  have hrow:=zKd hb hz
  have hok:∀r∈zs.map zh,GL.zxa r:=fun r hr'=>by
   obtain⟨z,hz',rfl⟩:=List.mem_map.mp hr'
   exact hrow z hz'
  have FO:=GL.zId (most:=zDa c) (zLd c) (GL.zre (zs.map zh)) h8' fun r hr'=>hok r ((GL.zMb r _).mp hr')
  have fok:=GL.zsm (fs:=fsS zs (zDa c)) fun es he=>(FO.2 es he).2
  have own:∀z∈zs,wrtM (fsP zs (zDa c)) z=[(entM (fsP zs (zDa c)) z).1]:=fun z hz'=>zCk (zLd c) hrow h8' hz'
  obtain⟨⟨dx,ho⟩,hf,hFP,hfm⟩:=id lo
  refine⟨_,rfl,o,dx,_,rfl,ho,rfl,o,f',vf,_,rfl,lo,?_⟩
  refine⟨_,rfl,_,_,_,true,rfl,.tup hf,rfl,true,rfl,iteF ⟨_,rfl,o,dx,_,rfl,ho,rfl,o,f',vf,_,rfl,lo,false,rfl,iteF ?_⟩⟩
  refine⟨_,rfl,_,rfl,lt,rfl,⟨_,SqL.of hlt6⟩,fun D2 hD2=>?_⟩
  refine zAa (K:=K) (a:=lt) (xs:=zs.map V.str) (fun j ys H7=>∃qs:List Addr,ys=qs.map V.ref/\GL.zT H7 qs ((zs.take j).map zh)/\Same H6 H7/\H7 D2=some (.lst ys)) (Nat.le_of_lt (zv (by rw[List.length_map];omega))) ⟨[],rfl,GL.zT.nil,(Same.refl H6).zao hD2,zc⟩
   (fun j ys H7 h=>by obtain⟨qs,rfl,h,_⟩:=h;rw[List.length_map,h.1,List.length_map,List.length_take];exact Nat.min_le_left _ _) (fun j ys H7 h=>by obtain⟨qs,_,_,h,_⟩:=h;exact SqL.of (h _ _ hlt6)) ?_ ?_
  ·rintro j ys H7 x N M hx ⟨qs,rfl,hR,s7,hD7⟩ hN hM
   rw[List.getElem?_map] at hx
   cases ez:zs[j]? with
   |none=>rw[ez] at hx;cases hx
   |some z=>
    rw[ez] at hx
    cases hx
    have zm:=List.mem_of_getElem? ez
    have tz:=(hz z zm).1
    have l1:=split_len z (Str.ofString " ")
    have l2:=zob z (Str.ofString " ")
    have l3:=tz.1
    have big:1002<=sizeLine:=by decide
    refine⟨_,rfl,rfl,z,_,rfl,rfl,rfl,zza tz (by decide),by omega,by omega,fun p hp=>?_⟩
    have s8:=(Same.refl H7).zao (o:=.lst ((zh z).map V.str)) hp
    have q8:upd H7 p (.lst ((zh z).map V.str)) p=some (.lst ((zh z).map V.str)):=zc
    refine⟨p,_,rfl,.inl ⟨SqL.of q8,fun t ht=>?_⟩⟩
    change upd H7 p (.lst ((zh z).map V.str)) t=none at ht
    change N (V.ref t) (upd (upd H7 p (.lst ((zh z).map V.str))) t (.tup ((zh z).map V.str)))
    generalize upd H7 p (.lst ((zh z).map V.str))=H8 at s8 q8 ht ⊢
    have s9:=(Same.refl H8).zao (o:=.tup ((zh z).map V.str)) ht
    have q9:upd H8 t (.tup ((zh z).map V.str)) t=some (.tup ((zh z).map V.str)):=zc
    generalize upd H8 t (.tup ((zh z).map V.str))=H9 at s9 q9 ⊢
    have hD9:=(s8.trans s9) _ _ hD7
    have ts:zha H9 (upd H9 D2 (.lst (qs.map V.ref++[.ref t]))):=zha.zeo (fun _ _ e=>e) hD9
    refine hN _ H9 hD9 ⟨qs++[t],by rw[List.map_append];rfl,?_,(s7.trans (s8.trans s9)).zao hD2,zc⟩
    rw[List.take_add_one,ez,List.map_append]
    exact((hR.zro (s8.trans s9).tups).zro ts).snoc (ts _ _ q9) (hrow z zm).tx
  rintro ys H7 ⟨qs,rfl,hR,s7,hD7⟩
  rw[List.length_map,List.take_of_length_le (Nat.le_refl _)] at hR
  refine⟨D2,_,rfl,.inl ⟨SqL.of hD7,fun tp htp=>?_⟩⟩
  have s8:=(Same.refl H7).zao (o:=.tup (qs.map V.ref)) htp
  have q8:upd H7 tp (.tup (qs.map V.ref)) tp=some (.tup (qs.map V.ref)):=zc
  generalize upd H7 tp (.tup (qs.map V.ref))=H8 at s8 q8 ⊢
  refine⟨_,rfl,c,rfl,fun H9 s9=>?_⟩
  refine⟨tp,qs,zs.map zh,zDa c,rfl,s9 _ _ q8,hR.zro (s8.trans s9).tups,by rw[List.length_map];omega,hok,h8',zLd c,fun p2 us2 H10 s10 hp2 hF2=>?_⟩
  have t10:=s7.trans (s8.trans (s9.trans s10))
  refine⟨.tuple ((fsS zs (zDa c)).map GL.dFo),.tuple ((fsS zs (zDa c)).map GL.dFo),.tup (SqT.of (t10 _ _ hf)) (GL.zOe _ _ (hF.zro t10.tups)),.tup (SqT.of hp2) (GL.zOe _ _ hF2),fok,fok,false,?_,iteF ?_⟩
  ·rw[show(if true=true then !PyData.eqv (.tuple ((fsS zs (zDa c)).map GL.dFo)) (.tuple ((fsS zs (zDa c)).map GL.dFo)) else _)=false from by rw[if_pos rfl,SeqAt.eqv_refl _ fok.1];rfl]
  have hlt10:=t10 _ _ hlt6
  refine⟨_,rfl,lt,rfl,⟨_,SqL.of hlt10⟩,?_⟩
  refine zrc (K:=K) (a:=lt) (xs:=zs.map V.str) (fun j σ H'=>∃(v7 v8:Option V),σ=[some (.ref a),some (.ref lt),some (.int c),some (.ref D),some (.int ((rwsM zs).length:Int)),some (.ref o),some (.ref f'),v7,v8]/\Same H10 H')
   ⟨none,none,rfl,Same.refl H10⟩ (fun j σ H' _ h=>by obtain⟨_,_,_,h⟩:=h;exact SqL.of (h _ _ hlt10)) ?_ ?_
  ·rintro j x σ H11 hx ⟨v7,v8,rfl,s11⟩
   obtain⟨z,zm,rfl⟩:=List.mem_map.mp (List.mem_of_getElem? hx)
   have t11:=t10.trans s11
   have L11:=lo.same t11
   obtain⟨⟨dx',ho'⟩,hf',hFP',_⟩:=id L11
   have tz:=(hz z zm).1
   refine⟨_,rfl,o,dx',_,rfl,ho',rfl,_,rfl,o,f',vf,_,z,rfl,L11,tz,fun H12 s12=>?_⟩
   refine⟨_,rfl,_,_,_,true,rfl,.int _,rfl,true,rfl,iteF ⟨_,rfl,_,_,_,false,rfl,.int _,rfl,false,rfl,iteF ?_⟩⟩
   refine⟨_,rfl,_,rfl,f',vf,_,z,rfl,s12 _ _ hf',hFP'.zro s12.tups,hfm,tz,fun lw H13 s13 hlw=>?_⟩
   rw[own z zm] at hlw
   refine⟨_,rfl,(by show 1<=sizeLine;decide),fun l1 hl1=>?_⟩
   have s14:=(Same.refl H13).zao (o:=.lst [V.int ((entM (fsP zs (zDa c)) z).1:Nat)]) hl1
   have n8:∀i∈[(entM (fsP zs (zDa c)) z).1],i<=64:=fun i hi=>by
    rw[List.mem_singleton.mp hi]
    have:=ztm hfm z
    omega
   have ok1:=zwf n8
   refine⟨.list (dN [(entM (fsP zs (zDa c)) z).1]),.list (dN [(entM (fsP zs (zDa c)) z).1]),.lst (SqL.of (s14 _ _ hlw)) (zNd _),.lst (SqL.of zc) (zNd [(entM (fsP zs (zDa c)) z).1]),ok1,ok1,false,?_,iteF ⟨_,_,rfl,s11.trans (s12.trans (s13.trans s14))⟩⟩
   rw[show(if true=true then !PyData.eqv (.list (dN [(entM (fsP zs (zDa c)) z).1])) (.list (dN [(entM (fsP zs (zDa c)) z).1])) else _)=false from by rw[if_pos rfl,SeqAt.eqv_refl _ ok1.1];rfl]
  ·rintro σ H11 ⟨v7,v8,rfl,s11⟩
   exact k H11
end
abbrev Txt (mg:zT3):Prop:=T1 mg
section
variable {P:Program}{w:World}{K:W.Frag}{mg:zT3}{base:Heap}{XR XF XM XU XE CL:Addr}{u8 uS d2:Value}
theorem ok_all {fGr fOf:Addr}{itg itf ito:Array Value}(F:Fun K "law" "law" sLaw f fd)(T:Txt mg)(TT:TS mg)
  (enu:mg "enumerate"=none)(tup:mg "tuple"=none)(lis:mg "list"=none)(int:mg "int"=none)(hset:mg "set"=none)(hmin:mg "min"=none)(hany:mg "any"=none)(hmu:∃u,mg "MOST_UNLIKE"=some u/\RelV (.int 8) u)(g8:mg "MOST_WORDS"=some u8)(r8:RelV (.int 8) u8)(gS:mg "STRANGE"=some uS)(rS:RelV (.int 8) uS)
  (MXRi:MkX K XR fRi)(FRi:Fun K "__init__" "NoRow.__init__" sRi fRi dRi)(bRi:Binds K dRi ["self","at"] [])(hSRi:zFa K XR "at"=true)(rzRi:zcb K XR=true)(gXRi:mg "NoRow"=some (.ref XR))
  (MXXf:MkX K XF fXf)(FXf:Fun K "__init__" "NoFit.__init__" sXf fXf dXf)(bXf:Binds K dXf ["self","at"] [])(hSXf:zFa K XF "at"=true)(rzXf:zcb K XF=true)(gXXf:mg "NoFit"=some (.ref XF))
  (MXXm:MkX K XM fXm)(FXm:Fun K "__init__" "TooMany.__init__" sXm fXm dXm)(bXm:Binds K dXm ["self","number"] [])(hSXm:zFa K XM "number"=true)(rzXm:zcb K XM=true)(gXXm:mg "TooMany"=some (.ref XM))
  (MXXu:MkX K XU fXu)(FXu:Fun K "__init__" "Unknown.__init__" sXu fXu dXu)(bXu:Binds K dXu ["self","number"] [])(hSXu:zFa K XU "number"=true)(rzXu:zcb K XU=true)(gXXu:mg "Unknown"=some (.ref XU))
  (tN:zqb K XR (.ref XR)=true)(R:RfK K mg XE XU XM)(Y:LK K CL)(MO:Mk K CL fOi)(gLo:mg "Loom"=some (.ref CL))(FOi:FunD K "__init__" "Loom.__init__" sOi fOi dOi ito)(bOi1:Binds K dOi ["self","texts","most"] [d2])(r2:RelV (.int 2) d2)(bOi:Binds K dOi ["self","texts","most"] [])
  (FOf2:Fun K "forms" "Loom.forms" sOf2 fOf2 dOf2)(mOf2:Meth K CL "forms" fOf2)(bOf2:Binds K dOf2 ["self"] [])
  (FOl:Fun K "letter" "Loom.letter" sOl fOl dOl)(mOl:Meth K CL "letter" fOl)(bOl:Binds K dOl ["self","text"] [])
  (FOm:Fun K "machine" "Loom.machine" sOm fOm dOm)(mOm:Meth K CL "machine" fOm)(bOm:Binds K dOm ["self"] [])
  (kN:Kd K mg "Number" CN fNt fNw dNt dNw)(FNt:Fun K "takes" "Number.takes" sNt fNt dNt)(FNw:Fun K "word" "Number.word" sNw fNw dNw)
  (kA:Kd K mg "Name" CA fAt fAw dAt dAw)(FAt:Fun K "takes" "Name.takes" sAt fAt dAt)(FAw:Fun K "word" "Name.word" sAw fAw dAw)
  (kI:Kd K mg "Items" CI fIt fIw dIt dIw)(FIt:Fun K "takes" "Items.takes" sIt fIt dIt)(FIw:Fun K "word" "Items.word" sIw fIw dIw)
  (kK:Kd K mg "Mark" CK fKt fKw dKt dKw)(FKt:Fun K "takes" "Mark.takes" sKt fKt dKt)(FKw:Fun K "word" "Mark.word" sKw fKw dKw)
  (FMo:Fun K "made_of" "made_of" sMo fMo fdMo)(bMo:Binds K fdMo ["signs","text"] [])(gMo:mg "made_of"=some (.ref fMo))
  (FIi:Fun K "is_item" "is_item" sIi fIi fdIi)(bIi:Binds K fdIi ["text"] [])(gIi:mg "is_item"=some (.ref fIi))
  (FAl:Fun K "all_sorts" "all_sorts" sAl fAl fdAl)(bAl:Binds K fdAl [] [])(gAl:mg "all_sorts"=some (.ref fAl))
  (FSo:Fun K "sort_of" "sort_of" sSo fSo fdSo)(bSo:Binds K fdSo ["text"] [])(gSo:mg "sort_of"=some (.ref fSo))
  (FIg:Fun K "is_gap" "is_gap" sIg fIg fdIg)(bIg:Binds K fdIg ["part"] [])(gIg:mg "is_gap"=some (.ref fIg))
  (FPa:Fun K "part_takes" "part_takes" sPa fPa fdPa)(bPa:Binds K fdPa ["part","word"] [])(gPa:mg "part_takes"=some (.ref fPa))
  (FFm:Fun K "first_misfit" "first_misfit" sFm fFm fdFm)(bFm:Binds K fdFm ["parts","words"] [])(gFm:mg "first_misfit"=some (.ref fFm))
  (FWr:Fun K "writes" "writes" sWr fWr fdWr)(bWr:Binds K fdWr ["form","row"] [])(gWr:mg "writes"=some (.ref fWr))
  (FGs:Fun K "gaps_of" "gaps_of" sGs fGs fdGs)(bGs:Binds K fdGs ["form","row"] [])(gGs:mg "gaps_of"=some (.ref fGs))
  (FFx:Fun K "first_writing" "first_writing" sFx fFx fdFx)(bFx:Binds K fdFx ["forms","row"] [])(gFx:mg "first_writing"=some (.ref fFx))
  (FUn:Fun K "unlike" "unlike" sUn fUn fdUn)(bUn:Binds K fdUn ["rows"] [])(gUn:mg "unlike"=some (.ref fUn))
  (FWa:Fun K "words_at" "words_at" sWa fWa fdWa)(bWa:Binds K fdWa ["place","rows"] [])(gWa:mg "words_at"=some (.ref fWa))
  (FLp:Fun K "least_part" "least_part" sLp fLp fdLp)(bLp:Binds K fdLp ["words"] [])(gLp:mg "least_part"=some (.ref fLp))
  (FLf:Fun K "least_form" "least_form" sLf fLf fdLf)(bLf:Binds K fdLf ["rows"] [])(gLf:mg "least_form"=some (.ref fLf))
  (FFw:Fun K "form_within" "form_within" sFw fFw fdFw)(bFw:Binds K fdFw ["rows","most"] [])(gFw:mg "form_within"=some (.ref fFw))
  (FRin:Fun K "rows_in" "rows_in" sRin fRin fdRin)(bRin:Binds K fdRin ["group","known"] [])(gRin:mg "rows_in"=some (.ref fRin))
  (FWt:Fun K "writes_others" "writes_others" sWt fWt fdWt)(bWt:Binds K fdWt ["form","group","known"] [])(gWt:mg "writes_others"=some (.ref fWt))
  (FGo:Fun K "groups_on" "groups_on" sGo fGo fdGo)(bGo:Binds K fdGo ["group","known","most"] [])(gGo:mg "groups_on"=some (.ref fGo))
  (FFg:Fun K "first_grouping" "first_grouping" sFg fFg fdFg)(bFg:Binds K fdFg ["left","choices","many"] [])(gFg:mg "first_grouping"=some (.ref fFg))
  (FGr:FunD K "groups" "groups" sGr fGr fdGr itg)(bGr:Binds K fdGr ["rows","most"] [])(gGr:mg "groups"=some (.ref fGr))
  (FFo:FunD K "forms_of" "forms_of" sFo fFo fdFo itf)(bFo:Binds K fdFo ["rows","most"] [])(gFo:mg "forms_of"=some (.ref fFo))
  (FWd:Fun K "words_of" "words_of" sWd fWd fdWd)(bWd:Binds K fdWd ["text"] [])(gWd:mg "words_of"=some (.ref fWd))
  (FRof:Fun K "row_of" "row_of" sRof fRof fdRof)(bRof:Binds K fdRof ["text"] [])(gRof:mg "row_of"=some (.ref fRof))
  (FRsf:Fun K "rows_of" "rows_of" sRsf fRsf fdRsf)(bRsf:Binds K fdRsf ["texts"] [])(gRsf:mg "rows_of"=some (.ref fRsf))
  (FEo:Fun K "entry_of" "entry_of" sEo fEo fdEo)(bEo:Binds K fdEo ["forms","text"] [])(gEo:mg "entry_of"=some (.ref fEo))
  (FCe:Fun K "_law_cell_at" "_law_cell_at" sCe fCe fdCe)(bCe:Binds K fdCe ["_law_script","_law_k"] [])(gCe:mg "_law_cell_at"=some (.ref fCe))
  (FOf:Fun K "_law_of" "_law_of" sOf fOf fdOf)(bOf:Binds K fdOf ["_law_text_here","_law_signs_here"] [])(gOf:mg "_law_of"=some (.ref fOf))
  (FIn:Fun K "_law_is_number" "_law_is_number" sIn fIn fdIn)(bIn:Binds K fdIn ["_law_text_here"] [])(gIn:mg "_law_is_number"=some (.ref fIn))
  (FIm:Fun K "_law_is_name" "_law_is_name" sIm fIm fdIm)(bIm:Binds K fdIm ["_law_text_here"] [])(gIm:mg "_law_is_name"=some (.ref fIm))
  (FIl:Fun K "_law_is_list" "_law_is_list" sIl fIl fdIl)(bIl:Binds K fdIl ["_law_text_here"] [])(gIl:mg "_law_is_list"=some (.ref fIl))
  (FLs:Fun K "_law_sort" "_law_sort" sLs fLs fdLs)(bLs:Binds K fdLs ["_law_text_here"] [])(gLs:mg "_law_sort"=some (.ref fLs))
  (FSi:Fun K "_law_signs" "_law_signs" sSi fSi fdSi)(bSi:Binds K fdSi ["_law_cell","_law_many","_law_signs_here"] [])(gSi:mg "_law_signs"=some (.ref fSi))
  (FNu:Fun K "_law_number_word" "_law_number_word" sNu fNu fdNu)(bNu:Binds K fdNu ["_law_cell"] [])(gNu:mg "_law_number_word"=some (.ref fNu))
  (FNa:Fun K "_law_name_word" "_law_name_word" sNa fNa fdNa)(bNa:Binds K fdNa ["_law_cell"] [])(gNa:mg "_law_name_word"=some (.ref fNa))
  (FMk:Fun K "_law_mark_word" "_law_mark_word" sMk fMk fdMk)(bMk:Binds K fdMk ["_law_cell"] [])(gMk:mg "_law_mark_word"=some (.ref fMk))
  (FLi:Fun K "_law_list_word" "_law_list_word" sLi fLi fdLi)(bLi:Binds K fdLi ["_law_cell"] [])(gLi:mg "_law_list_word"=some (.ref fLi))
  (FWo:Fun K "_law_word" "_law_word" sWo fWo fdWo)(bWo:Binds K fdWo ["_law_cell"] [])(gWo:mg "_law_word"=some (.ref fWo))
  (FLb:Fun K "_law_row_by" "_law_row_by" sLb fLb fdLb)(bLb:Binds K fdLb ["_law_cell","_law_many"] [])(gLb:mg "_law_row_by"=some (.ref fLb))
  (FWq:Fun K "_law_word_of" "_law_word_of" sWq fWq fdWq)(bWq:Binds K fdWq ["_law_sort_here","_law_cell"] [])(gWq:mg "_law_word_of"=some (.ref fWq))
  (FBa:Fun K "_law_bases" "_law_bases" sBa fBa fdBa)(bBa:Binds K fdBa ["_law_script"] [])(gBa:mg "_law_bases"=some (.ref fBa))
  (FTe:Fun K "_law_text" "_law_text" sTe fTe fdTe)(bTe:Binds K fdTe ["_law_script","_law_bases_here","_law_cell"] [])(gTe:mg "_law_text"=some (.ref fTe))
  (FOd:Fun K "_law_odd_text" "_law_odd_text" sOd fOd fdOd)(bOd:Binds K fdOd ["_law_cell"] [])(gOd:mg "_law_odd_text"=some (.ref fOd))
  (FTk:Fun K "_law_takes" "_law_takes" sTk fTk fdTk)(bTk:Binds K fdTk ["_law_part","_law_word_here"] [])(gTk:mg "_law_takes"=some (.ref fTk))
  (FEn:Fun K "_law_entry" "_law_entry" sEn fEn fdEn)(bEn:Binds K fdEn ["_law_forms","_law_text_here"] [])(gEn:mg "_law_entry"=some (.ref fEn))
  (FUk:Fun K "_law_unlike" "_law_unlike" sUk fUk fdUk)(bUk:Binds K fdUk ["_law_texts_here","_law_most_here"] [])(gUk:mg "_law_unlike"=some (.ref fUk))
  (FTs:Fun K "_law_texts" "_law_texts" sTs fTs fdTs)(bTs:Binds K fdTs ["_law_script"] [])(gTs:mg "_law_texts"=some (.ref fTs))
  (FMa:Fun K "_law_made" "_law_made" sMa fMa fdMa)(bMa:Binds K fdMa ["_law_texts_here","_law_cell"] [])(gMa:mg "_law_made"=some (.ref fMa))
  (FMs:Fun K "_law_most" "_law_most" sMs fMs fdMs)(bMs:Binds K fdMs ["_law_cell"] [])(gMs:mg "_law_most"=some (.ref fMs))
  (FRf:Fun K "_law_refused" "_law_refused" sRf fRf fdRf)(bRf:Binds K fdRf ["_law_texts_here","_law_cell","_law_wanted","_law_number"] [])(gRf:mg "_law_refused"=some (.ref fRf))
  (FIr:Fun K "_law_is_row" "_law_is_row" sIr fIr fdIr)(bIr:Binds K fdIr ["_law_text_here"] [])(gIr:mg "_law_is_row"=some (.ref fIr))
  (FWs:Fun K "_law_writers" "_law_writers" sWs fWs fdWs)(bWs:Binds K fdWs ["_law_forms","_law_text_here"] [])(gWs:mg "_law_writers"=some (.ref fWs))
  :FnOk P w K mg base CX0 26 f fd ["_law_script"] (zGh K):=by
 have TG:GL.Txt mg:=⟨T.len,T.range,tup,T.isin,T.str,lis⟩
 have GSo:FnOk P w K mg base CX0 5 fSo fdSo ["text"] spSo:=zfi TT kN kA kI kK FNt FNw FAt FAw FIt FIw FKt FKw FMo bMo gMo FIi bIi gIi FAl bAl gAl FSo
 have GLs:FnOk P w K mg base CX0 4 fLs fdLs ["_law_text_here"] spSo:=zmn FLs T FOf bOf gOf FIn bIn gIn FIm bIm gIm FIl bIl gIl
 have GNu:FnOk P w K mg base CX0 2 fNu fdNu ["_law_cell"] (spWx fun y=>isNum y=true):=zwl FNu T FSi bSi gSi
 have GNa:FnOk P w K mg base CX0 2 fNa fdNa ["_law_cell"] (spWx fun y=>isName y=true):=zxl FNa T FSi bSi gSi
 have GMk:FnOk P w K mg base CX0 2 fMk fdMk ["_law_cell"] (spWx okMark):=zyl FMk T FSi bSi gSi
 have GLi:=zzl (P:=P) (w:=w) (base:=base) FLi T FNu bNu gNu GNu FNa bNa gNa GNa
 have GWo:FnOk P w K mg base CX0 4 fWo fdWo ["_law_cell"] (spWx Wd):=zAl FWo FNu bNu gNu GNu FNa bNa gNa GNa FLi bLi gLi GLi FMk bMk gMk GMk
 have GPa:FnOk P w K mg base CX0 6 fPa fdPa ["part","word"] spPa:=znn FPa FIg bIg gIg FSo bSo gSo GSo
 have GFm:FnOk P w K mg base CX0 7 fFm fdFm ["parts","words"] spFm:=ok_fm FFm T.len T.range hmin FPa bPa gPa GPa
 have GWr:FnOk P w K mg base CX0 8 fWr fdWr ["form","row"] spWr:=ok_wr FWr FFm bFm gFm GFm
 have GXf:FnOk P w K mg base CX0 1 fXf dXf ["self","at"] (spNi XF):=zpn FXf hSXf
 have GRi:FnOk P w K mg base CX0 1 fRi dRi ["self","at"] (spNi XR):=zxn FRi hSRi
 have GGs:FnOk P w K mg base (CX1 P w) 8 fGs fdGs ["form","row"] (spGs XF):=zon FGs tup T.zip FFm bFm gFm GFm FIg bIg gIg MXXf gXXf bXf GXf rzXf
 have GWd:FnOk P w K mg base (CX1 P w) 6 fWd fdWd ["text"] (spWd XR):=zUl FWd T.len enu tup g8 r8 FSo bSo gSo GSo MXRi gXRi bRi GRi rzRi
 have GFx:FnOk P w K mg base CX0 9 fFx fdFx ["forms","row"] spFx:=zyn FFx enu FWr bWr gWr GWr
 have HLf:FnOk P w K mg base CX0 7 fLf fdLf ["rows"] GL.zsh:=GL.zKl FLf TT TG hset FSo bSo gSo GSo FLp bLp gLp FWa bWa gWa
 have HPt:FnOk P w K mg base CX0 6 fPa fdPa ["part","word"] GL.spPt:=GL.zsn FPa FIg bIg gIg FSo bSo gSo GSo
 have HFm:FnOk P w K mg base CX0 7 fFm fdFm ["parts","words"] GL.spFm:=GL.ok_fm FFm TG hmin FPa bPa gPa HPt
 have HWr:FnOk P w K mg base CX0 8 fWr fdWr ["form","row"] GL.spWr:=GL.ok_wr FWr FFm bFm gFm HFm
 have HFw:FnOk P w K mg base CX0 8 fFw fdFw ["rows","most"] GL.spFw:=GL.ztn FFw TG FLf bLf gLf HLf FIg bIg gIg
 have HWt:FnOk P w K mg base CX0 9 fWt fdWt ["form","group","known"] GL.spWt:=GL.zun FWt hany enu FWr bWr gWr HWr
 have HGo:FnOk P w K mg base CX0 19 fGo fdGo ["group","known","most"] (GL.spGo 9):=GL.zNl FGo bGo gGo TG FFw bFw gFw HFw FRin bRin gRin FWt bWt gWt HWt 9
 have HGr:FnOk P w K mg base CX0 20 fGr fdGr ["rows","most"] GL.spGr:=GL.zvn FGr TG hmu FUn bUn gUn FGo bGo gGo HGo FFg bFg gFg TT.all
 have HFo:FnOk P w K mg base CX0 21 fFo fdFo ["rows","most"] GL.spFo:=GL.zwn FFo TG FUn bUn gUn FGr bGr gGr HGr FLf bLf gLf HLf FRin bRin gRin
 have GRof:FnOk P w K mg base CX0 7 fRof fdRof ["text"] zCi:=zVl FRof gXRi tN FWd bWd gWd GWd
 have GEo:FnOk P w K mg base CX0 10 fEo fdEo ["forms","text"] spEo:=zCn FEo gS rS FRof bRof gRof GRof FFx bFx gFx GFx FGs bGs gGs (GGs.zpo.mono (by decide))
 have GLb:FnOk P w K mg base CX0 5 fLb fdLb ["_law_cell","_law_many"] spLb:=zFn FLb T.range tup FWo bWo gWo GWo
 have GWq:FnOk P w K mg base CX0 4 fWq fdWq ["_law_sort_here","_law_cell"] spWq:=zGn FWq FNu bNu gNu GNu FNa bNa gNa GNa FLi bLi gLi GLi FMk bMk gMk GMk
 have GBa:FnOk P w K mg base CX0 6 fBa fdBa ["_law_script"] (spBa K):=zHn FBa T.range T.len FCe bCe gCe FLb bLb gLb GLb FLs bLs gLs GLs
 have GTe:FnOk P w K mg base CX0 5 fTe fdTe ["_law_script","_law_bases_here","_law_cell"] (spTe K):=zIn FTe T.len FCe bCe gCe FWq bWq gWq GWq
 have GOd:FnOk P w K mg base CX0 6 fOd fdOd ["_law_cell"] spOd:=zMn FOd FLb bLb gLb GLb
 have GTk:FnOk P w K mg base CX0 5 fTk fdTk ["_law_part","_law_word_here"] zsk:=zcm FTk FLs bLs gLs GLs
 have GEn:FnOk P w K mg base CX0 6 fEn fdEn ["_law_forms","_law_text_here"] spEo:=zKn FEn T.len T.range T.zip tup FLs bLs gLs GLs FTk bTk gTk GTk
 have GXu:FnOk P w K mg base CX0 1 fXu dXu ["self","number"] (GL.spNm XU):=zOn FXu hSXu
 have GXm:FnOk P w K mg base CX0 1 fXm dXm ["self","number"] (GL.spNm XM):=GL.zLn FXm hSXm
 have HGrX:FnOk P w K mg base (CX1 P w) 20 fGr fdGr ["rows","most"] (GL.zUf XM):=GL.zem FGr TG hmu FUn bUn gUn MXXm gXXm bXm GXm rzXm
 have HFoX:FnOk P w K mg base (CX1 P w) 21 fFo fdFo ["rows","most"] (GL.zUf XM):=GL.zfm FFo TG FUn bUn gUn FGr bGr gGr HGrX FLf bLf gLf HLf FRin bRin gRin
 have GRsX:FnOk P w K mg base (CX1 P w) 8 fRsf fdRsf ["texts"] (zzk XU):=zhm FRsf tup FRof bRof gRof GRof MXXu gXXu bXu GXu rzXu
 have GOi:FnOk P w K mg base (CX1 P w) 22 fOi dOi ["self","texts","most"] (zKi CL XU XM):=zim FOi Y FFo bFo gFo (FnOk.orX HFo.up1 HFoX) FRsf bRsf gRsf GRsX
 have GMa:FnOk P w K mg base (CX1 P w) 24 fMa fdMa ["_law_texts_here","_law_cell"] (spMa CL XU XM):=zQn FMa tup MO gLo bOi1 r2 bOi GOi FMs bMs gMs
 have GRf:FnOk P w K mg base CX0 25 fRf fdRf ["_law_texts_here","_law_cell","_law_wanted","_law_number"] spRf:=zRn FRf T int R FMa bMa gMa GMa
 have GIr:FnOk P w K mg base CX0 5 fIr fdIr ["_law_text_here"] spIr:=zSn FIr T.len FLs bLs gLs GLs
 have GWs:FnOk P w K mg base CX0 7 fWs fdWs ["_law_forms","_law_text_here"] spWs:=zTn FWs T.len T.range FEn bEn gEn GEn
 have GTs:FnOk P w K mg base CX0 7 fTs fdTs ["_law_script"] (spTs K):=zUn FTs T.len FBa bBa gBa GBa FTe bTe gTe GTe FCe bCe gCe FOd bOd gOd GOd
 exact zum F T tup int Y FTs bTs gTs GTs FCe bCe gCe FIr bIr gIr GIr FUk bUk gUk FRf bRf gRf GRf FMa bMa gMa GMa.zpo FFo bFo gFo HFo FMs bMs gMs FWs bWs gWs GWs mOf2 bOf2 (zZl FOf2 Y) mOm bOm (zPn FOm Y) mOl bOl (zEn FOl Y FEo bEo gEo GEo)
end
abbrev fO (x q:Str)(st:Stmt)(oc:Value)(od:Option Addr)(kV dc pm:Value)(an:Option Addr)(cd ct:Value)(sl:Array (Option Value)):Option Obj:=some ⟨oc,od,.func (W.fnOf x q (zk st) (zj st) (zb st) .none kV dc pm an cd ct),sl⟩
theorem all_mk {l:W.OpenLaw}{w:World}{K:W.Frag}{h:Heap}{mg:zT3}{XF fGr fOf:Addr}(X:K.In h)(G:h.Ns mainGlobals mg)(hfa:mg "law"=some (.ref fa))
  {tkf tks tkn tkm tka tkb tkc tku tk8 tkS:Tok}
  {tkdGr:Tok}{dTGr:Addr}{ddcGr:Value}{ddoGr:Option Addr}{ddsGr:Array (Option Value)}{ddnGr:Nat}
  {tkdFo:Tok}{dTFo:Addr}{ddcFo:Value}{ddoFo:Option Addr}{ddsFo:Array (Option Value)}{ddnFo:Nat}
  {tkdOi:Tok}{dTOi:Addr}{ddcOi:Value}{ddoOi:Option Addr}{ddsOi:Array (Option Value)}{ddnOi:Nat}
  (aCN:W.nsIn K mainGlobals "Number"=some (some (.ref CN)))
  (pgCN:W.plainGet K CN Str.empty=true)
  (hdCN:W.hasDictIn K CN=true)
  (poCN:W.plainOver K CN=true)
  (saCN:W.findIn K (.ref CN) "__setattr__"=some (some (.builtin "object.__setattr__")))
  (mkCN:W.makesIn K CN=true)
  (kcCN:W.keepIn K (.ref CN)=true)
  (haCN:W.findIn K (.ref CN) "__class__"=some (some (.builtin "object.__class__")))
  (hmCN:W.mroIn K CN (.type "object")=some true)
  (inCN:W.findIn K (.ref CN) "__init__"=some (some (.builtin "object.__init__")))
  (aCA:W.nsIn K mainGlobals "Name"=some (some (.ref CA)))
  (pgCA:W.plainGet K CA Str.empty=true)
  (hdCA:W.hasDictIn K CA=true)
  (poCA:W.plainOver K CA=true)
  (saCA:W.findIn K (.ref CA) "__setattr__"=some (some (.builtin "object.__setattr__")))
  (mkCA:W.makesIn K CA=true)
  (kcCA:W.keepIn K (.ref CA)=true)
  (haCA:W.findIn K (.ref CA) "__class__"=some (some (.builtin "object.__class__")))
  (hmCA:W.mroIn K CA (.type "object")=some true)
  (inCA:W.findIn K (.ref CA) "__init__"=some (some (.builtin "object.__init__")))
  (aCI:W.nsIn K mainGlobals "Items"=some (some (.ref CI)))
  (pgCI:W.plainGet K CI Str.empty=true)
  (hdCI:W.hasDictIn K CI=true)
  (poCI:W.plainOver K CI=true)
  (saCI:W.findIn K (.ref CI) "__setattr__"=some (some (.builtin "object.__setattr__")))
  (mkCI:W.makesIn K CI=true)
  (kcCI:W.keepIn K (.ref CI)=true)
  (haCI:W.findIn K (.ref CI) "__class__"=some (some (.builtin "object.__class__")))
  (hmCI:W.mroIn K CI (.type "object")=some true)
  (inCI:W.findIn K (.ref CI) "__init__"=some (some (.builtin "object.__init__")))
  (aCK:W.nsIn K mainGlobals "Mark"=some (some (.ref CK)))
  (pgCK:W.plainGet K CK Str.empty=true)
  (hdCK:W.hasDictIn K CK=true)
  (poCK:W.plainOver K CK=true)
  (saCK:W.findIn K (.ref CK) "__setattr__"=some (some (.builtin "object.__setattr__")))
  (mkCK:W.makesIn K CK=true)
  (kcCK:W.keepIn K (.ref CK)=true)
  (haCK:W.findIn K (.ref CK) "__class__"=some (some (.builtin "object.__class__")))
  (hmCK:W.mroIn K CK (.type "object")=some true)
  (inCK:W.findIn K (.ref CK) "__init__"=some (some (.builtin "object.__init__")))
  (aXR:W.nsIn K mainGlobals "NoRow"=some (some (.ref XR)))
  (kcXR:W.keepIn K (.ref XR)=true)
  (aXF:W.nsIn K mainGlobals "NoFit"=some (some (.ref XF)))
  (kcXF:W.keepIn K (.ref XF)=true)
  (aXM:W.nsIn K mainGlobals "TooMany"=some (some (.ref XM)))
  (kcXM:W.keepIn K (.ref XM)=true)
  (aXU:W.nsIn K mainGlobals "Unknown"=some (some (.ref XU)))
  (kcXU:W.keepIn K (.ref XU)=true)
  (aXE:W.nsIn K mainGlobals "LoomError"=some (some (.ref XE)))
  (aCL:W.nsIn K mainGlobals "Loom"=some (some (.ref CL)))
  (pgCL:W.plainGet K CL Str.empty=true)
  (hdCL:W.hasDictIn K CL=true)
  (poCL:W.plainOver K CL=true)
  (saCL:W.findIn K (.ref CL) "__setattr__"=some (some (.builtin "object.__setattr__")))
  (mkCL:W.makesIn K CL=true)
  (kcCL:W.keepIn K (.ref CL)=true)
  (haCL:W.findIn K (.ref CL) "__class__"=some (some (.builtin "object.__class__")))
  (hmCL:W.mroIn K CL (.type "object")=some true)
  (nCL_known:W.findIn K (.ref CL) "known"=some none)
  (nCL_taught:W.findIn K (.ref CL) "taught"=some none)
  (hn:W.specialIn K (.builtin "object.__class__") "__get__"=some (some (.builtin "getset_descriptor.__get__")))
  (htk:W.takesIn K (.builtin "object.__class__")=some true)
  (xseXR:zFa K XR "at"=true)
  (xrzXR:zcb K XR=true)
  (xseXF:zFa K XF "at"=true)
  (xrzXF:zcb K XF=true)
  (xseXM:zFa K XM "number"=true)
  (xrzXM:zcb K XM=true)
  (xseXU:zFa K XU "number"=true)
  (xrzXU:zcb K XU=true)
  (xtN:zqb K XR (.ref XR)=true)
  (xtEXU:zqb K XU (.ref XE)=true)
  (xgeXU:zgb K XU=true)
  (xgfXU:zIb K XU "number"=true)
  (xtEXM:zqb K XM (.ref XE)=true)
  (xgeXM:zgb K XM=true)
  (xgfXM:zIb K XM "number"=true)
  (kiXUXU:W.kitOne K (.ref XU) (.ref XU)=some true)
  (kiXUXM:W.kitOne K (.ref XU) (.ref XM)=some false)
  (kiXMXU:W.kitOne K (.ref XM) (.ref XU)=some false)
  (kiXMXM:W.kitOne K (.ref XM) (.ref XM)=some true)
  (aMo:W.nsIn K mainGlobals "made_of"=some (some (.ref fMo)))
  (lMo:K.lookup fMo=fO "made_of" "made_of" sMo ocMo odMo kVMo dcMo pmMo anMo cdMo ctMo slMo)
  (cMo:W.codeIn K cdMo "made_of"=true)
  (kMo:W.keepIn K (.ref fMo)=true)
  (aIi:W.nsIn K mainGlobals "is_item"=some (some (.ref fIi)))
  (lIi:K.lookup fIi=fO "is_item" "is_item" sIi ocIi odIi kVIi dcIi pmIi anIi cdIi ctIi slIi)
  (cIi:W.codeIn K cdIi "is_item"=true)
  (kIi:W.keepIn K (.ref fIi)=true)
  (aAl:W.nsIn K mainGlobals "all_sorts"=some (some (.ref fAl)))
  (lAl:K.lookup fAl=fO "all_sorts" "all_sorts" sAl ocAl odAl kVAl dcAl pmAl anAl cdAl ctAl slAl)
  (cAl:W.codeIn K cdAl "all_sorts"=true)
  (kAl:W.keepIn K (.ref fAl)=true)
  (aSo:W.nsIn K mainGlobals "sort_of"=some (some (.ref fSo)))
  (lSo:K.lookup fSo=fO "sort_of" "sort_of" sSo ocSo odSo kVSo dcSo pmSo anSo cdSo ctSo slSo)
  (cSo:W.codeIn K cdSo "sort_of"=true)
  (kSo:W.keepIn K (.ref fSo)=true)
  (aIg:W.nsIn K mainGlobals "is_gap"=some (some (.ref fIg)))
  (lIg:K.lookup fIg=fO "is_gap" "is_gap" sIg ocIg odIg kVIg dcIg pmIg anIg cdIg ctIg slIg)
  (cIg:W.codeIn K cdIg "is_gap"=true)
  (kIg:W.keepIn K (.ref fIg)=true)
  (aPa:W.nsIn K mainGlobals "part_takes"=some (some (.ref fPa)))
  (lPa:K.lookup fPa=fO "part_takes" "part_takes" sPa ocPa odPa kVPa dcPa pmPa anPa cdPa ctPa slPa)
  (cPa:W.codeIn K cdPa "part_takes"=true)
  (kPa:W.keepIn K (.ref fPa)=true)
  (aFm:W.nsIn K mainGlobals "first_misfit"=some (some (.ref fFm)))
  (lFm:K.lookup fFm=fO "first_misfit" "first_misfit" sFm ocFm odFm kVFm dcFm pmFm anFm cdFm ctFm slFm)
  (cFm:W.codeIn K cdFm "first_misfit"=true)
  (kFm:W.keepIn K (.ref fFm)=true)
  (aWr:W.nsIn K mainGlobals "writes"=some (some (.ref fWr)))
  (lWr:K.lookup fWr=fO "writes" "writes" sWr ocWr odWr kVWr dcWr pmWr anWr cdWr ctWr slWr)
  (cWr:W.codeIn K cdWr "writes"=true)
  (kWr:W.keepIn K (.ref fWr)=true)
  (aGs:W.nsIn K mainGlobals "gaps_of"=some (some (.ref fGs)))
  (lGs:K.lookup fGs=fO "gaps_of" "gaps_of" sGs ocGs odGs kVGs dcGs pmGs anGs cdGs ctGs slGs)
  (cGs:W.codeIn K cdGs "gaps_of"=true)
  (kGs:W.keepIn K (.ref fGs)=true)
  (aFx:W.nsIn K mainGlobals "first_writing"=some (some (.ref fFx)))
  (lFx:K.lookup fFx=fO "first_writing" "first_writing" sFx ocFx odFx kVFx dcFx pmFx anFx cdFx ctFx slFx)
  (cFx:W.codeIn K cdFx "first_writing"=true)
  (kFx:W.keepIn K (.ref fFx)=true)
  (aUn:W.nsIn K mainGlobals "unlike"=some (some (.ref fUn)))
  (lUn:K.lookup fUn=fO "unlike" "unlike" sUn ocUn odUn kVUn dcUn pmUn anUn cdUn ctUn slUn)
  (cUn:W.codeIn K cdUn "unlike"=true)
  (kUn:W.keepIn K (.ref fUn)=true)
  (aWa:W.nsIn K mainGlobals "words_at"=some (some (.ref fWa)))
  (lWa:K.lookup fWa=fO "words_at" "words_at" sWa ocWa odWa kVWa dcWa pmWa anWa cdWa ctWa slWa)
  (cWa:W.codeIn K cdWa "words_at"=true)
  (kWa:W.keepIn K (.ref fWa)=true)
  (aLp:W.nsIn K mainGlobals "least_part"=some (some (.ref fLp)))
  (lLp:K.lookup fLp=fO "least_part" "least_part" sLp ocLp odLp kVLp dcLp pmLp anLp cdLp ctLp slLp)
  (cLp:W.codeIn K cdLp "least_part"=true)
  (kLp:W.keepIn K (.ref fLp)=true)
  (aLf:W.nsIn K mainGlobals "least_form"=some (some (.ref fLf)))
  (lLf:K.lookup fLf=fO "least_form" "least_form" sLf ocLf odLf kVLf dcLf pmLf anLf cdLf ctLf slLf)
  (cLf:W.codeIn K cdLf "least_form"=true)
  (kLf:W.keepIn K (.ref fLf)=true)
  (aFw:W.nsIn K mainGlobals "form_within"=some (some (.ref fFw)))
  (lFw:K.lookup fFw=fO "form_within" "form_within" sFw ocFw odFw kVFw dcFw pmFw anFw cdFw ctFw slFw)
  (cFw:W.codeIn K cdFw "form_within"=true)
  (kFw:W.keepIn K (.ref fFw)=true)
  (aRin:W.nsIn K mainGlobals "rows_in"=some (some (.ref fRin)))
  (lRin:K.lookup fRin=fO "rows_in" "rows_in" sRin ocRin odRin kVRin dcRin pmRin anRin cdRin ctRin slRin)
  (cRin:W.codeIn K cdRin "rows_in"=true)
  (kRin:W.keepIn K (.ref fRin)=true)
  (aWt:W.nsIn K mainGlobals "writes_others"=some (some (.ref fWt)))
  (lWt:K.lookup fWt=fO "writes_others" "writes_others" sWt ocWt odWt kVWt dcWt pmWt anWt cdWt ctWt slWt)
  (cWt:W.codeIn K cdWt "writes_others"=true)
  (kWt:W.keepIn K (.ref fWt)=true)
  (aGo:W.nsIn K mainGlobals "groups_on"=some (some (.ref fGo)))
  (lGo:K.lookup fGo=fO "groups_on" "groups_on" sGo ocGo odGo kVGo dcGo pmGo anGo cdGo ctGo slGo)
  (cGo:W.codeIn K cdGo "groups_on"=true)
  (kGo:W.keepIn K (.ref fGo)=true)
  (aFg:W.nsIn K mainGlobals "first_grouping"=some (some (.ref fFg)))
  (lFg:K.lookup fFg=fO "first_grouping" "first_grouping" sFg ocFg odFg kVFg dcFg pmFg anFg cdFg ctFg slFg)
  (cFg:W.codeIn K cdFg "first_grouping"=true)
  (kFg:W.keepIn K (.ref fFg)=true)
  (aGr:W.nsIn K mainGlobals "groups"=some (some (.ref fGr)))
  (lGr:K.lookup fGr=some ⟨ocGr,odGr,.func (W.fnOf "groups" "groups" (zk sGr) (zj sGr) (zb sGr) (.ref dTGr) kVGr dcGr pmGr anGr cdGr ctGr),slGr⟩)
  (ddGr:K.lookup dTGr=some ⟨ddcGr,ddoGr,.seq #[.int 2 tkdGr] ddnGr,ddsGr⟩)
  (cGr:W.codeIn K cdGr "groups"=true)
  (kGr:W.keepIn K (.ref fGr)=true)
  (aFo:W.nsIn K mainGlobals "forms_of"=some (some (.ref fFo)))
  (lFo:K.lookup fFo=some ⟨ocFo,odFo,.func (W.fnOf "forms_of" "forms_of" (zk sFo) (zj sFo) (zb sFo) (.ref dTFo) kVFo dcFo pmFo anFo cdFo ctFo),slFo⟩)
  (ddFo:K.lookup dTFo=some ⟨ddcFo,ddoFo,.seq #[.int 2 tkdFo] ddnFo,ddsFo⟩)
  (cFo:W.codeIn K cdFo "forms_of"=true)
  (kFo:W.keepIn K (.ref fFo)=true)
  (aWd:W.nsIn K mainGlobals "words_of"=some (some (.ref fWd)))
  (lWd:K.lookup fWd=fO "words_of" "words_of" sWd ocWd odWd kVWd dcWd pmWd anWd cdWd ctWd slWd)
  (cWd:W.codeIn K cdWd "words_of"=true)
  (kWd:W.keepIn K (.ref fWd)=true)
  (aRof:W.nsIn K mainGlobals "row_of"=some (some (.ref fRof)))
  (lRof:K.lookup fRof=fO "row_of" "row_of" sRof ocRof odRof kVRof dcRof pmRof anRof cdRof ctRof slRof)
  (cRof:W.codeIn K cdRof "row_of"=true)
  (kRof:W.keepIn K (.ref fRof)=true)
  (aRsf:W.nsIn K mainGlobals "rows_of"=some (some (.ref fRsf)))
  (lRsf:K.lookup fRsf=fO "rows_of" "rows_of" sRsf ocRsf odRsf kVRsf dcRsf pmRsf anRsf cdRsf ctRsf slRsf)
  (cRsf:W.codeIn K cdRsf "rows_of"=true)
  (kRsf:W.keepIn K (.ref fRsf)=true)
  (aEo:W.nsIn K mainGlobals "entry_of"=some (some (.ref fEo)))
  (lEo:K.lookup fEo=fO "entry_of" "entry_of" sEo ocEo odEo kVEo dcEo pmEo anEo cdEo ctEo slEo)
  (cEo:W.codeIn K cdEo "entry_of"=true)
  (kEo:W.keepIn K (.ref fEo)=true)
  (aCe:W.nsIn K mainGlobals "_law_cell_at"=some (some (.ref fCe)))
  (lCe:K.lookup fCe=fO "_law_cell_at" "_law_cell_at" sCe ocCe odCe kVCe dcCe pmCe anCe cdCe ctCe slCe)
  (cCe:W.codeIn K cdCe "_law_cell_at"=true)
  (kCe:W.keepIn K (.ref fCe)=true)
  (aOf:W.nsIn K mainGlobals "_law_of"=some (some (.ref fOf)))
  (lOf:K.lookup fOf=fO "_law_of" "_law_of" sOf ocOf odOf kVOf dcOf pmOf anOf cdOf ctOf slOf)
  (cOf:W.codeIn K cdOf "_law_of"=true)
  (kOf:W.keepIn K (.ref fOf)=true)
  (aIn:W.nsIn K mainGlobals "_law_is_number"=some (some (.ref fIn)))
  (lIn:K.lookup fIn=fO "_law_is_number" "_law_is_number" sIn ocIn odIn kVIn dcIn pmIn anIn cdIn ctIn slIn)
  (cIn:W.codeIn K cdIn "_law_is_number"=true)
  (kIn:W.keepIn K (.ref fIn)=true)
  (aIm:W.nsIn K mainGlobals "_law_is_name"=some (some (.ref fIm)))
  (lIm:K.lookup fIm=fO "_law_is_name" "_law_is_name" sIm ocIm odIm kVIm dcIm pmIm anIm cdIm ctIm slIm)
  (cIm:W.codeIn K cdIm "_law_is_name"=true)
  (kIm:W.keepIn K (.ref fIm)=true)
  (aIl:W.nsIn K mainGlobals "_law_is_list"=some (some (.ref fIl)))
  (lIl:K.lookup fIl=fO "_law_is_list" "_law_is_list" sIl ocIl odIl kVIl dcIl pmIl anIl cdIl ctIl slIl)
  (cIl:W.codeIn K cdIl "_law_is_list"=true)
  (kIl:W.keepIn K (.ref fIl)=true)
  (aLs:W.nsIn K mainGlobals "_law_sort"=some (some (.ref fLs)))
  (lLs:K.lookup fLs=fO "_law_sort" "_law_sort" sLs ocLs odLs kVLs dcLs pmLs anLs cdLs ctLs slLs)
  (cLs:W.codeIn K cdLs "_law_sort"=true)
  (kLs:W.keepIn K (.ref fLs)=true)
  (aSi:W.nsIn K mainGlobals "_law_signs"=some (some (.ref fSi)))
  (lSi:K.lookup fSi=fO "_law_signs" "_law_signs" sSi ocSi odSi kVSi dcSi pmSi anSi cdSi ctSi slSi)
  (cSi:W.codeIn K cdSi "_law_signs"=true)
  (kSi:W.keepIn K (.ref fSi)=true)
  (aNu:W.nsIn K mainGlobals "_law_number_word"=some (some (.ref fNu)))
  (lNu:K.lookup fNu=fO "_law_number_word" "_law_number_word" sNu ocNu odNu kVNu dcNu pmNu anNu cdNu ctNu slNu)
  (cNu:W.codeIn K cdNu "_law_number_word"=true)
  (kNu:W.keepIn K (.ref fNu)=true)
  (aNa:W.nsIn K mainGlobals "_law_name_word"=some (some (.ref fNa)))
  (lNa:K.lookup fNa=fO "_law_name_word" "_law_name_word" sNa ocNa odNa kVNa dcNa pmNa anNa cdNa ctNa slNa)
  (cNa:W.codeIn K cdNa "_law_name_word"=true)
  (kNa:W.keepIn K (.ref fNa)=true)
  (aMk:W.nsIn K mainGlobals "_law_mark_word"=some (some (.ref fMk)))
  (lMk:K.lookup fMk=fO "_law_mark_word" "_law_mark_word" sMk ocMk odMk kVMk dcMk pmMk anMk cdMk ctMk slMk)
  (cMk:W.codeIn K cdMk "_law_mark_word"=true)
  (kMk:W.keepIn K (.ref fMk)=true)
  (aLi:W.nsIn K mainGlobals "_law_list_word"=some (some (.ref fLi)))
  (lLi:K.lookup fLi=fO "_law_list_word" "_law_list_word" sLi ocLi odLi kVLi dcLi pmLi anLi cdLi ctLi slLi)
  (cLi:W.codeIn K cdLi "_law_list_word"=true)
  (kLi:W.keepIn K (.ref fLi)=true)
  (aWo:W.nsIn K mainGlobals "_law_word"=some (some (.ref fWo)))
  (lWo:K.lookup fWo=fO "_law_word" "_law_word" sWo ocWo odWo kVWo dcWo pmWo anWo cdWo ctWo slWo)
  (cWo:W.codeIn K cdWo "_law_word"=true)
  (kWo:W.keepIn K (.ref fWo)=true)
  (aLb:W.nsIn K mainGlobals "_law_row_by"=some (some (.ref fLb)))
  (lLb:K.lookup fLb=fO "_law_row_by" "_law_row_by" sLb ocLb odLb kVLb dcLb pmLb anLb cdLb ctLb slLb)
  (cLb:W.codeIn K cdLb "_law_row_by"=true)
  (kLb:W.keepIn K (.ref fLb)=true)
  (aWq:W.nsIn K mainGlobals "_law_word_of"=some (some (.ref fWq)))
  (lWq:K.lookup fWq=fO "_law_word_of" "_law_word_of" sWq ocWq odWq kVWq dcWq pmWq anWq cdWq ctWq slWq)
  (cWq:W.codeIn K cdWq "_law_word_of"=true)
  (kWq:W.keepIn K (.ref fWq)=true)
  (aBa:W.nsIn K mainGlobals "_law_bases"=some (some (.ref fBa)))
  (lBa:K.lookup fBa=fO "_law_bases" "_law_bases" sBa ocBa odBa kVBa dcBa pmBa anBa cdBa ctBa slBa)
  (cBa:W.codeIn K cdBa "_law_bases"=true)
  (kBa:W.keepIn K (.ref fBa)=true)
  (aTe:W.nsIn K mainGlobals "_law_text"=some (some (.ref fTe)))
  (lTe:K.lookup fTe=fO "_law_text" "_law_text" sTe ocTe odTe kVTe dcTe pmTe anTe cdTe ctTe slTe)
  (cTe:W.codeIn K cdTe "_law_text"=true)
  (kTe:W.keepIn K (.ref fTe)=true)
  (aOd:W.nsIn K mainGlobals "_law_odd_text"=some (some (.ref fOd)))
  (lOd:K.lookup fOd=fO "_law_odd_text" "_law_odd_text" sOd ocOd odOd kVOd dcOd pmOd anOd cdOd ctOd slOd)
  (cOd:W.codeIn K cdOd "_law_odd_text"=true)
  (kOd:W.keepIn K (.ref fOd)=true)
  (aTk:W.nsIn K mainGlobals "_law_takes"=some (some (.ref fTk)))
  (lTk:K.lookup fTk=fO "_law_takes" "_law_takes" sTk ocTk odTk kVTk dcTk pmTk anTk cdTk ctTk slTk)
  (cTk:W.codeIn K cdTk "_law_takes"=true)
  (kTk:W.keepIn K (.ref fTk)=true)
  (aEn:W.nsIn K mainGlobals "_law_entry"=some (some (.ref fEn)))
  (lEn:K.lookup fEn=fO "_law_entry" "_law_entry" sEn ocEn odEn kVEn dcEn pmEn anEn cdEn ctEn slEn)
  (cEn:W.codeIn K cdEn "_law_entry"=true)
  (kEn:W.keepIn K (.ref fEn)=true)
  (aUk:W.nsIn K mainGlobals "_law_unlike"=some (some (.ref fUk)))
  (lUk:K.lookup fUk=fO "_law_unlike" "_law_unlike" sUk ocUk odUk kVUk dcUk pmUk anUk cdUk ctUk slUk)
  (cUk:W.codeIn K cdUk "_law_unlike"=true)
  (kUk:W.keepIn K (.ref fUk)=true)
  (aTs:W.nsIn K mainGlobals "_law_texts"=some (some (.ref fTs)))
  (lTs:K.lookup fTs=fO "_law_texts" "_law_texts" sTs ocTs odTs kVTs dcTs pmTs anTs cdTs ctTs slTs)
  (cTs:W.codeIn K cdTs "_law_texts"=true)
  (kTs:W.keepIn K (.ref fTs)=true)
  (aMa:W.nsIn K mainGlobals "_law_made"=some (some (.ref fMa)))
  (lMa:K.lookup fMa=fO "_law_made" "_law_made" sMa ocMa odMa kVMa dcMa pmMa anMa cdMa ctMa slMa)
  (cMa:W.codeIn K cdMa "_law_made"=true)
  (kMa:W.keepIn K (.ref fMa)=true)
  (aMs:W.nsIn K mainGlobals "_law_most"=some (some (.ref fMs)))
  (lMs:K.lookup fMs=fO "_law_most" "_law_most" sMs ocMs odMs kVMs dcMs pmMs anMs cdMs ctMs slMs)
  (cMs:W.codeIn K cdMs "_law_most"=true)
  (kMs:W.keepIn K (.ref fMs)=true)
  (aRf:W.nsIn K mainGlobals "_law_refused"=some (some (.ref fRf)))
  (lRf:K.lookup fRf=fO "_law_refused" "_law_refused" sRf ocRf odRf kVRf dcRf pmRf anRf cdRf ctRf slRf)
  (cRf:W.codeIn K cdRf "_law_refused"=true)
  (kRf:W.keepIn K (.ref fRf)=true)
  (aIr:W.nsIn K mainGlobals "_law_is_row"=some (some (.ref fIr)))
  (lIr:K.lookup fIr=fO "_law_is_row" "_law_is_row" sIr ocIr odIr kVIr dcIr pmIr anIr cdIr ctIr slIr)
  (cIr:W.codeIn K cdIr "_law_is_row"=true)
  (kIr:W.keepIn K (.ref fIr)=true)
  (aWs:W.nsIn K mainGlobals "_law_writers"=some (some (.ref fWs)))
  (lWs:K.lookup fWs=fO "_law_writers" "_law_writers" sWs ocWs odWs kVWs dcWs pmWs anWs cdWs ctWs slWs)
  (cWs:W.codeIn K cdWs "_law_writers"=true)
  (kWs:W.keepIn K (.ref fWs)=true)
  (aZ:W.nsIn K mainGlobals "law"=some (some (.ref fZ)))
  (lZ:K.lookup fZ=fO "law" "law" sLaw ocZ odZ kVZ dcZ pmZ anZ cdZ ctZ slZ)
  (cZ:W.codeIn K cdZ "law"=true)
  (kZ:W.keepIn K (.ref fZ)=true)
  (aNt:W.findIn K (.ref CN) "takes"=some (some (.ref fNt)))
  (iNt:W.isFn K (.ref fNt)=true)
  (lNt:K.lookup fNt=fO "takes" "Number.takes" sNt ocNt odNt kVNt dcNt pmNt anNt cdNt ctNt slNt)
  (cNt:W.codeIn K cdNt "Number.takes"=true)
  (kNt:W.keepIn K (.ref fNt)=true)
  (aNw:W.findIn K (.ref CN) "word"=some (some (.ref fNw)))
  (iNw:W.isFn K (.ref fNw)=true)
  (lNw:K.lookup fNw=fO "word" "Number.word" sNw ocNw odNw kVNw dcNw pmNw anNw cdNw ctNw slNw)
  (cNw:W.codeIn K cdNw "Number.word"=true)
  (kNw:W.keepIn K (.ref fNw)=true)
  (aAt:W.findIn K (.ref CA) "takes"=some (some (.ref fAt)))
  (iAt:W.isFn K (.ref fAt)=true)
  (lAt:K.lookup fAt=fO "takes" "Name.takes" sAt ocAt odAt kVAt dcAt pmAt anAt cdAt ctAt slAt)
  (cAt:W.codeIn K cdAt "Name.takes"=true)
  (kAt:W.keepIn K (.ref fAt)=true)
  (aAw:W.findIn K (.ref CA) "word"=some (some (.ref fAw)))
  (iAw:W.isFn K (.ref fAw)=true)
  (lAw:K.lookup fAw=fO "word" "Name.word" sAw ocAw odAw kVAw dcAw pmAw anAw cdAw ctAw slAw)
  (cAw:W.codeIn K cdAw "Name.word"=true)
  (kAw:W.keepIn K (.ref fAw)=true)
  (aIt:W.findIn K (.ref CI) "takes"=some (some (.ref fIt)))
  (iIt:W.isFn K (.ref fIt)=true)
  (lIt:K.lookup fIt=fO "takes" "Items.takes" sIt ocIt odIt kVIt dcIt pmIt anIt cdIt ctIt slIt)
  (cIt:W.codeIn K cdIt "Items.takes"=true)
  (kIt:W.keepIn K (.ref fIt)=true)
  (aIw:W.findIn K (.ref CI) "word"=some (some (.ref fIw)))
  (iIw:W.isFn K (.ref fIw)=true)
  (lIw:K.lookup fIw=fO "word" "Items.word" sIw ocIw odIw kVIw dcIw pmIw anIw cdIw ctIw slIw)
  (cIw:W.codeIn K cdIw "Items.word"=true)
  (kIw:W.keepIn K (.ref fIw)=true)
  (aKt:W.findIn K (.ref CK) "takes"=some (some (.ref fKt)))
  (iKt:W.isFn K (.ref fKt)=true)
  (lKt:K.lookup fKt=fO "takes" "Mark.takes" sKt ocKt odKt kVKt dcKt pmKt anKt cdKt ctKt slKt)
  (cKt:W.codeIn K cdKt "Mark.takes"=true)
  (kKt:W.keepIn K (.ref fKt)=true)
  (aKw:W.findIn K (.ref CK) "word"=some (some (.ref fKw)))
  (iKw:W.isFn K (.ref fKw)=true)
  (lKw:K.lookup fKw=fO "word" "Mark.word" sKw ocKw odKw kVKw dcKw pmKw anKw cdKw ctKw slKw)
  (cKw:W.codeIn K cdKw "Mark.word"=true)
  (kKw:W.keepIn K (.ref fKw)=true)
  (aRi:W.findIn K (.ref XR) "__init__"=some (some (.ref fRi)))
  (iRi:W.isFn K (.ref fRi)=true)
  (lRi:K.lookup fRi=fO "__init__" "NoRow.__init__" sRi ocRi odRi kVRi dcRi pmRi anRi cdRi ctRi slRi)
  (cRi:W.codeIn K cdRi "NoRow.__init__"=true)
  (kRi:W.keepIn K (.ref fRi)=true)
  (mxXR:zLc K XR fRi=true)
  (tfXR:W.typeIn K (.ref fRi)=some (.type "function"))
  (aXf:W.findIn K (.ref XF) "__init__"=some (some (.ref fXf)))
  (iXf:W.isFn K (.ref fXf)=true)
  (lXf:K.lookup fXf=fO "__init__" "NoFit.__init__" sXf ocXf odXf kVXf dcXf pmXf anXf cdXf ctXf slXf)
  (cXf:W.codeIn K cdXf "NoFit.__init__"=true)
  (kXf:W.keepIn K (.ref fXf)=true)
  (mxXF:zLc K XF fXf=true)
  (tfXF:W.typeIn K (.ref fXf)=some (.type "function"))
  (aXm:W.findIn K (.ref XM) "__init__"=some (some (.ref fXm)))
  (iXm:W.isFn K (.ref fXm)=true)
  (lXm:K.lookup fXm=fO "__init__" "TooMany.__init__" sXm ocXm odXm kVXm dcXm pmXm anXm cdXm ctXm slXm)
  (cXm:W.codeIn K cdXm "TooMany.__init__"=true)
  (kXm:W.keepIn K (.ref fXm)=true)
  (mxXM:zLc K XM fXm=true)
  (tfXM:W.typeIn K (.ref fXm)=some (.type "function"))
  (aXu:W.findIn K (.ref XU) "__init__"=some (some (.ref fXu)))
  (iXu:W.isFn K (.ref fXu)=true)
  (lXu:K.lookup fXu=fO "__init__" "Unknown.__init__" sXu ocXu odXu kVXu dcXu pmXu anXu cdXu ctXu slXu)
  (cXu:W.codeIn K cdXu "Unknown.__init__"=true)
  (kXu:W.keepIn K (.ref fXu)=true)
  (mxXU:zLc K XU fXu=true)
  (tfXU:W.typeIn K (.ref fXu)=some (.type "function"))
  (aOi:W.findIn K (.ref CL) "__init__"=some (some (.ref fOi)))
  (iOi:W.isFn K (.ref fOi)=true)
  (lOi:K.lookup fOi=some ⟨ocOi,odOi,.func (W.fnOf "__init__" "Loom.__init__" (zk sOi) (zj sOi) (zb sOi) (.ref dTOi) kVOi dcOi pmOi anOi cdOi ctOi),slOi⟩)
  (ddOi:K.lookup dTOi=some ⟨ddcOi,ddoOi,.seq #[.int 2 tkdOi] ddnOi,ddsOi⟩)
  (cOi:W.codeIn K cdOi "Loom.__init__"=true)
  (kOi:W.keepIn K (.ref fOi)=true)
  (aOf2:W.findIn K (.ref CL) "forms"=some (some (.ref fOf2)))
  (iOf2:W.isFn K (.ref fOf2)=true)
  (lOf2:K.lookup fOf2=fO "forms" "Loom.forms" sOf2 ocOf2 odOf2 kVOf2 dcOf2 pmOf2 anOf2 cdOf2 ctOf2 slOf2)
  (cOf2:W.codeIn K cdOf2 "Loom.forms"=true)
  (kOf2:W.keepIn K (.ref fOf2)=true)
  (aOl:W.findIn K (.ref CL) "letter"=some (some (.ref fOl)))
  (iOl:W.isFn K (.ref fOl)=true)
  (lOl:K.lookup fOl=fO "letter" "Loom.letter" sOl ocOl odOl kVOl dcOl pmOl anOl cdOl ctOl slOl)
  (cOl:W.codeIn K cdOl "Loom.letter"=true)
  (kOl:W.keepIn K (.ref fOl)=true)
  (aOm:W.findIn K (.ref CL) "machine"=some (some (.ref fOm)))
  (iOm:W.isFn K (.ref fOm)=true)
  (lOm:K.lookup fOm=fO "machine" "Loom.machine" sOm ocOm odOm kVOm dcOm pmOm anOm cdOm ctOm slOm)
  (cOm:W.codeIn K cdOm "Loom.machine"=true)
  (kOm:W.keepIn K (.ref fOm)=true)
  (qf:W.nsIn K mainGlobals "FIGURES"=some (some (.str FIG tkf)))
  (qs:W.nsIn K mainGlobals "SMALL_LETTERS"=some (some (.str SMA tks)))
  (qn:W.nsIn K mainGlobals "NAME_SIGNS"=some (some (.str NAM tkn)))
  (qm:W.nsIn K mainGlobals "MARK_SIGNS"=some (some (.str MAR tkm)))
  (qa:W.nsIn K mainGlobals "MOST_FIGURES"=some (some (.int 9 tka)))
  (qb:W.nsIn K mainGlobals "MOST_SIGNS"=some (some (.int 12 tkb)))
  (qc:W.nsIn K mainGlobals "MOST_ITEMS"=some (some (.int 4 tkc)))
  (qu:W.nsIn K mainGlobals "MOST_UNLIKE"=some (some (.int 8 tku)))
  (q8:W.nsIn K mainGlobals "MOST_WORDS"=some (some (.int 8 tk8)))
  (qS:W.nsIn K mainGlobals "STRANGE"=some (some (.int 8 tkS)))
  (zall:W.nsIn K mainGlobals "all"=some none)
  (zenu:W.nsIn K mainGlobals "enumerate"=some none)
  (ztup:W.nsIn K mainGlobals "tuple"=some none)
  (zlis:W.nsIn K mainGlobals "list"=some none)
  (zint:W.nsIn K mainGlobals "int"=some none)
  (zhset:W.nsIn K mainGlobals "set"=some none)
  (zhmin:W.nsIn K mainGlobals "min"=some none)
  (zhany:W.nsIn K mainGlobals "any"=some none)
  (zlen:W.nsIn K mainGlobals "len"=some none)
  (zrange:W.nsIn K mainGlobals "range"=some none)
  (zisin:W.nsIn K mainGlobals "isinstance"=some none)
  (zstr:W.nsIn K mainGlobals "str"=some none)
  (zbool:W.nsIn K mainGlobals "bool"=some none)
  (zzip:W.nsIn K mainGlobals "zip"=some none)
  :∃fd:FuncData,(∀(s:Shared)(v:Value),BindsTo s fd ⟨[v],[]⟩ [("_law_script",v)])/\∀base:Heap,K.In base->base.Ns mainGlobals mg->FnOk l.prog w K mg base CX0 26 fa fd ["_law_script"] (zGh K):=by
 have e:=hfa.symm.trans (W.mg_of X G aZ)
 cases e
 have T:Txt mg:=⟨W.mg_none_of X G zlen,W.mg_none_of X G zrange,W.mg_none_of X G zisin,W.mg_none_of X G zstr,W.mg_none_of X G zbool,W.mg_none_of X G zzip⟩
 have mgCN:=W.mg_of X G aCN
 have clCN:Cls K CN:=⟨pgCN,hdCN,poCN,saCN⟩
 have MCN:MkN K CN:=⟨mkCN,inCN,kcCN⟩
 have mgCA:=W.mg_of X G aCA
 have clCA:Cls K CA:=⟨pgCA,hdCA,poCA,saCA⟩
 have MCA:MkN K CA:=⟨mkCA,inCA,kcCA⟩
 have mgCI:=W.mg_of X G aCI
 have clCI:Cls K CI:=⟨pgCI,hdCI,poCI,saCI⟩
 have MCI:MkN K CI:=⟨mkCI,inCI,kcCI⟩
 have mgCK:=W.mg_of X G aCK
 have clCK:Cls K CK:=⟨pgCK,hdCK,poCK,saCK⟩
 have MCK:MkN K CK:=⟨mkCK,inCK,kcCK⟩
 have mgXR:=W.mg_of X G aXR
 have mgXF:=W.mg_of X G aXF
 have mgXM:=W.mg_of X G aXM
 have mgXU:=W.mg_of X G aXU
 have mgXE:=W.mg_of X G aXE
 have mgCL:=W.mg_of X G aCL
 have clCL:Cls K CL:=⟨pgCL,hdCL,poCL,saCL⟩
 have FMo:=zI (st:=sMo) lMo cMo kMo
 have bMo:=FMo.binds (ps:=["signs","text"]) fun _ _ _ _ _ _ u h=>match u,h with | [_,_],_=>rfl
 have FIi:=zI (st:=sIi) lIi cIi kIi
 have bIi:=FIi.binds (ps:=["text"]) fun _ _ _ _ _ _ u h=>match u,h with | [_],_=>rfl
 have FAl:=zI (st:=sAl) lAl cAl kAl
 have bAl:=FAl.binds (ps:=[]) fun _ _ _ _ _ _ u h=>match u,h with | [],_=>rfl
 have FSo:=zI (st:=sSo) lSo cSo kSo
 have bSo:=FSo.binds (ps:=["text"]) fun _ _ _ _ _ _ u h=>match u,h with | [_],_=>rfl
 have FIg:=zI (st:=sIg) lIg cIg kIg
 have bIg:=FIg.binds (ps:=["part"]) fun _ _ _ _ _ _ u h=>match u,h with | [_],_=>rfl
 have FPa:=zI (st:=sPa) lPa cPa kPa
 have bPa:=FPa.binds (ps:=["part","word"]) fun _ _ _ _ _ _ u h=>match u,h with | [_,_],_=>rfl
 have FFm:=zI (st:=sFm) lFm cFm kFm
 have bFm:=FFm.binds (ps:=["parts","words"]) fun _ _ _ _ _ _ u h=>match u,h with | [_,_],_=>rfl
 have FWr:=zI (st:=sWr) lWr cWr kWr
 have bWr:=FWr.binds (ps:=["form","row"]) fun _ _ _ _ _ _ u h=>match u,h with | [_,_],_=>rfl
 have FGs:=zI (st:=sGs) lGs cGs kGs
 have bGs:=FGs.binds (ps:=["form","row"]) fun _ _ _ _ _ _ u h=>match u,h with | [_,_],_=>rfl
 have FFx:=zI (st:=sFx) lFx cFx kFx
 have bFx:=FFx.binds (ps:=["forms","row"]) fun _ _ _ _ _ _ u h=>match u,h with | [_,_],_=>rfl
 have FUn:=zI (st:=sUn) lUn cUn kUn
 have bUn:=FUn.binds (ps:=["rows"]) fun _ _ _ _ _ _ u h=>match u,h with | [_],_=>rfl
 have FWa:=zI (st:=sWa) lWa cWa kWa
 have bWa:=FWa.binds (ps:=["place","rows"]) fun _ _ _ _ _ _ u h=>match u,h with | [_,_],_=>rfl
 have FLp:=zI (st:=sLp) lLp cLp kLp
 have bLp:=FLp.binds (ps:=["words"]) fun _ _ _ _ _ _ u h=>match u,h with | [_],_=>rfl
 have FLf:=zI (st:=sLf) lLf cLf kLf
 have bLf:=FLf.binds (ps:=["rows"]) fun _ _ _ _ _ _ u h=>match u,h with | [_],_=>rfl
 have FFw:=zI (st:=sFw) lFw cFw kFw
 have bFw:=FFw.binds (ps:=["rows","most"]) fun _ _ _ _ _ _ u h=>match u,h with | [_,_],_=>rfl
 have FRin:=zI (st:=sRin) lRin cRin kRin
 have bRin:=FRin.binds (ps:=["group","known"]) fun _ _ _ _ _ _ u h=>match u,h with | [_,_],_=>rfl
 have FWt:=zI (st:=sWt) lWt cWt kWt
 have bWt:=FWt.binds (ps:=["form","group","known"]) fun _ _ _ _ _ _ u h=>match u,h with | [_,_,_],_=>rfl
 have FGo:=zI (st:=sGo) lGo cGo kGo
 have bGo:=FGo.binds (ps:=["group","known","most"]) fun _ _ _ _ _ _ u h=>match u,h with | [_,_,_],_=>rfl
 have FFg:=zI (st:=sFg) lFg cFg kFg
 have bFg:=FFg.binds (ps:=["left","choices","many"]) fun _ _ _ _ _ _ u h=>match u,h with | [_,_,_],_=>rfl
 have FGr:=zCe (st:=sGr) lGr ddGr cGr kGr
 have bGr:=FGr.binds (ps:=["rows","most"]) (ds:=[]) fun _ _ _ _ _ _ _ us hl=>match us,hl with | [_,_],_=>⟨_,rfl,rfl⟩
 have FFo:=zCe (st:=sFo) lFo ddFo cFo kFo
 have bFo:=FFo.binds (ps:=["rows","most"]) (ds:=[]) fun _ _ _ _ _ _ _ us hl=>match us,hl with | [_,_],_=>⟨_,rfl,rfl⟩
 have FWd:=zI (st:=sWd) lWd cWd kWd
 have bWd:=FWd.binds (ps:=["text"]) fun _ _ _ _ _ _ u h=>match u,h with | [_],_=>rfl
 have FRof:=zI (st:=sRof) lRof cRof kRof
 have bRof:=FRof.binds (ps:=["text"]) fun _ _ _ _ _ _ u h=>match u,h with | [_],_=>rfl
 have FRsf:=zI (st:=sRsf) lRsf cRsf kRsf
 have bRsf:=FRsf.binds (ps:=["texts"]) fun _ _ _ _ _ _ u h=>match u,h with | [_],_=>rfl
 have FEo:=zI (st:=sEo) lEo cEo kEo
 have bEo:=FEo.binds (ps:=["forms","text"]) fun _ _ _ _ _ _ u h=>match u,h with | [_,_],_=>rfl
 have FCe:=zI (st:=sCe) lCe cCe kCe
 have bCe:=FCe.binds (ps:=["_law_script","_law_k"]) fun _ _ _ _ _ _ u h=>match u,h with | [_,_],_=>rfl
 have FOf:=zI (st:=sOf) lOf cOf kOf
 have bOf:=FOf.binds (ps:=["_law_text_here","_law_signs_here"]) fun _ _ _ _ _ _ u h=>match u,h with | [_,_],_=>rfl
 have FIn:=zI (st:=sIn) lIn cIn kIn
 have bIn:=FIn.binds (ps:=["_law_text_here"]) fun _ _ _ _ _ _ u h=>match u,h with | [_],_=>rfl
 have FIm:=zI (st:=sIm) lIm cIm kIm
 have bIm:=FIm.binds (ps:=["_law_text_here"]) fun _ _ _ _ _ _ u h=>match u,h with | [_],_=>rfl
 have FIl:=zI (st:=sIl) lIl cIl kIl
 have bIl:=FIl.binds (ps:=["_law_text_here"]) fun _ _ _ _ _ _ u h=>match u,h with | [_],_=>rfl
 have FLs:=zI (st:=sLs) lLs cLs kLs
 have bLs:=FLs.binds (ps:=["_law_text_here"]) fun _ _ _ _ _ _ u h=>match u,h with | [_],_=>rfl
 have FSi:=zI (st:=sSi) lSi cSi kSi
 have bSi:=FSi.binds (ps:=["_law_cell","_law_many","_law_signs_here"]) fun _ _ _ _ _ _ u h=>match u,h with | [_,_,_],_=>rfl
 have FNu:=zI (st:=sNu) lNu cNu kNu
 have bNu:=FNu.binds (ps:=["_law_cell"]) fun _ _ _ _ _ _ u h=>match u,h with | [_],_=>rfl
 have FNa:=zI (st:=sNa) lNa cNa kNa
 have bNa:=FNa.binds (ps:=["_law_cell"]) fun _ _ _ _ _ _ u h=>match u,h with | [_],_=>rfl
 have FMk:=zI (st:=sMk) lMk cMk kMk
 have bMk:=FMk.binds (ps:=["_law_cell"]) fun _ _ _ _ _ _ u h=>match u,h with | [_],_=>rfl
 have FLi:=zI (st:=sLi) lLi cLi kLi
 have bLi:=FLi.binds (ps:=["_law_cell"]) fun _ _ _ _ _ _ u h=>match u,h with | [_],_=>rfl
 have FWo:=zI (st:=sWo) lWo cWo kWo
 have bWo:=FWo.binds (ps:=["_law_cell"]) fun _ _ _ _ _ _ u h=>match u,h with | [_],_=>rfl
 have FLb:=zI (st:=sLb) lLb cLb kLb
 have bLb:=FLb.binds (ps:=["_law_cell","_law_many"]) fun _ _ _ _ _ _ u h=>match u,h with | [_,_],_=>rfl
 have FWq:=zI (st:=sWq) lWq cWq kWq
 have bWq:=FWq.binds (ps:=["_law_sort_here","_law_cell"]) fun _ _ _ _ _ _ u h=>match u,h with | [_,_],_=>rfl
 have FBa:=zI (st:=sBa) lBa cBa kBa
 have bBa:=FBa.binds (ps:=["_law_script"]) fun _ _ _ _ _ _ u h=>match u,h with | [_],_=>rfl
 have FTe:=zI (st:=sTe) lTe cTe kTe
 have bTe:=FTe.binds (ps:=["_law_script","_law_bases_here","_law_cell"]) fun _ _ _ _ _ _ u h=>match u,h with | [_,_,_],_=>rfl
 have FOd:=zI (st:=sOd) lOd cOd kOd
 have bOd:=FOd.binds (ps:=["_law_cell"]) fun _ _ _ _ _ _ u h=>match u,h with | [_],_=>rfl
 have FTk:=zI (st:=sTk) lTk cTk kTk
 have bTk:=FTk.binds (ps:=["_law_part","_law_word_here"]) fun _ _ _ _ _ _ u h=>match u,h with | [_,_],_=>rfl
 have FEn:=zI (st:=sEn) lEn cEn kEn
 have bEn:=FEn.binds (ps:=["_law_forms","_law_text_here"]) fun _ _ _ _ _ _ u h=>match u,h with | [_,_],_=>rfl
 have FUk:=zI (st:=sUk) lUk cUk kUk
 have bUk:=FUk.binds (ps:=["_law_texts_here","_law_most_here"]) fun _ _ _ _ _ _ u h=>match u,h with | [_,_],_=>rfl
 have FTs:=zI (st:=sTs) lTs cTs kTs
 have bTs:=FTs.binds (ps:=["_law_script"]) fun _ _ _ _ _ _ u h=>match u,h with | [_],_=>rfl
 have FMa:=zI (st:=sMa) lMa cMa kMa
 have bMa:=FMa.binds (ps:=["_law_texts_here","_law_cell"]) fun _ _ _ _ _ _ u h=>match u,h with | [_,_],_=>rfl
 have FMs:=zI (st:=sMs) lMs cMs kMs
 have bMs:=FMs.binds (ps:=["_law_cell"]) fun _ _ _ _ _ _ u h=>match u,h with | [_],_=>rfl
 have FRf:=zI (st:=sRf) lRf cRf kRf
 have bRf:=FRf.binds (ps:=["_law_texts_here","_law_cell","_law_wanted","_law_number"]) fun _ _ _ _ _ _ u h=>match u,h with | [_,_,_,_],_=>rfl
 have FIr:=zI (st:=sIr) lIr cIr kIr
 have bIr:=FIr.binds (ps:=["_law_text_here"]) fun _ _ _ _ _ _ u h=>match u,h with | [_],_=>rfl
 have FWs:=zI (st:=sWs) lWs cWs kWs
 have bWs:=FWs.binds (ps:=["_law_forms","_law_text_here"]) fun _ _ _ _ _ _ u h=>match u,h with | [_,_],_=>rfl
 have FZ:=zI (st:=sLaw) lZ cZ kZ
 have FNt:=zI (st:=sNt) lNt cNt kNt
 have bNt:=FNt.binds (ps:=["self","text"]) fun _ _ _ _ _ _ u h=>match u,h with | [_,_],_=>rfl
 have FNw:=zI (st:=sNw) lNw cNw kNw
 have bNw:=FNw.binds (ps:=["self"]) fun _ _ _ _ _ _ u h=>match u,h with | [_],_=>rfl
 have FAt:=zI (st:=sAt) lAt cAt kAt
 have bAt:=FAt.binds (ps:=["self","text"]) fun _ _ _ _ _ _ u h=>match u,h with | [_,_],_=>rfl
 have FAw:=zI (st:=sAw) lAw cAw kAw
 have bAw:=FAw.binds (ps:=["self"]) fun _ _ _ _ _ _ u h=>match u,h with | [_],_=>rfl
 have FIt:=zI (st:=sIt) lIt cIt kIt
 have bIt:=FIt.binds (ps:=["self","text"]) fun _ _ _ _ _ _ u h=>match u,h with | [_,_],_=>rfl
 have FIw:=zI (st:=sIw) lIw cIw kIw
 have bIw:=FIw.binds (ps:=["self"]) fun _ _ _ _ _ _ u h=>match u,h with | [_],_=>rfl
 have FKt:=zI (st:=sKt) lKt cKt kKt
 have bKt:=FKt.binds (ps:=["self","text"]) fun _ _ _ _ _ _ u h=>match u,h with | [_,_],_=>rfl
 have FKw:=zI (st:=sKw) lKw cKw kKw
 have bKw:=FKw.binds (ps:=["self"]) fun _ _ _ _ _ _ u h=>match u,h with | [_],_=>rfl
 have FRi:=zI (st:=sRi) lRi cRi kRi
 have bRi:=FRi.binds (ps:=["self","at"]) fun _ _ _ _ _ _ u h=>match u,h with | [_,_],_=>rfl
 have FXf:=zI (st:=sXf) lXf cXf kXf
 have bXf:=FXf.binds (ps:=["self","at"]) fun _ _ _ _ _ _ u h=>match u,h with | [_,_],_=>rfl
 have FXm:=zI (st:=sXm) lXm cXm kXm
 have bXm:=FXm.binds (ps:=["self","number"]) fun _ _ _ _ _ _ u h=>match u,h with | [_,_],_=>rfl
 have FXu:=zI (st:=sXu) lXu cXu kXu
 have bXu:=FXu.binds (ps:=["self","number"]) fun _ _ _ _ _ _ u h=>match u,h with | [_,_],_=>rfl
 have FOi:=zCe (st:=sOi) lOi ddOi cOi kOi
 have bOi:=FOi.binds (ps:=["self","texts","most"]) (ds:=[]) fun _ _ _ _ _ _ _ us hl=>match us,hl with | [_,_,_],_=>⟨_,rfl,rfl⟩
 have FOf2:=zI (st:=sOf2) lOf2 cOf2 kOf2
 have bOf2:=FOf2.binds (ps:=["self"]) fun _ _ _ _ _ _ u h=>match u,h with | [_],_=>rfl
 have FOl:=zI (st:=sOl) lOl cOl kOl
 have bOl:=FOl.binds (ps:=["self","text"]) fun _ _ _ _ _ _ u h=>match u,h with | [_,_],_=>rfl
 have FOm:=zI (st:=sOm) lOm cOm kOm
 have bOm:=FOm.binds (ps:=["self"]) fun _ _ _ _ _ _ u h=>match u,h with | [_],_=>rfl
 have gMo:=W.mg_of X G aMo
 have gIi:=W.mg_of X G aIi
 have gAl:=W.mg_of X G aAl
 have gSo:=W.mg_of X G aSo
 have gIg:=W.mg_of X G aIg
 have gPa:=W.mg_of X G aPa
 have gFm:=W.mg_of X G aFm
 have gWr:=W.mg_of X G aWr
 have gGs:=W.mg_of X G aGs
 have gFx:=W.mg_of X G aFx
 have gUn:=W.mg_of X G aUn
 have gWa:=W.mg_of X G aWa
 have gLp:=W.mg_of X G aLp
 have gLf:=W.mg_of X G aLf
 have gFw:=W.mg_of X G aFw
 have gRin:=W.mg_of X G aRin
 have gWt:=W.mg_of X G aWt
 have gGo:=W.mg_of X G aGo
 have gFg:=W.mg_of X G aFg
 have gGr:=W.mg_of X G aGr
 have gFo:=W.mg_of X G aFo
 have gWd:=W.mg_of X G aWd
 have gRof:=W.mg_of X G aRof
 have gRsf:=W.mg_of X G aRsf
 have gEo:=W.mg_of X G aEo
 have gCe:=W.mg_of X G aCe
 have gOf:=W.mg_of X G aOf
 have gIn:=W.mg_of X G aIn
 have gIm:=W.mg_of X G aIm
 have gIl:=W.mg_of X G aIl
 have gLs:=W.mg_of X G aLs
 have gSi:=W.mg_of X G aSi
 have gNu:=W.mg_of X G aNu
 have gNa:=W.mg_of X G aNa
 have gMk:=W.mg_of X G aMk
 have gLi:=W.mg_of X G aLi
 have gWo:=W.mg_of X G aWo
 have gLb:=W.mg_of X G aLb
 have gWq:=W.mg_of X G aWq
 have gBa:=W.mg_of X G aBa
 have gTe:=W.mg_of X G aTe
 have gOd:=W.mg_of X G aOd
 have gTk:=W.mg_of X G aTk
 have gEn:=W.mg_of X G aEn
 have gUk:=W.mg_of X G aUk
 have gTs:=W.mg_of X G aTs
 have gMa:=W.mg_of X G aMa
 have gMs:=W.mg_of X G aMs
 have gRf:=W.mg_of X G aRf
 have gIr:=W.mg_of X G aIr
 have gWs:=W.mg_of X G aWs
 have mNt:Meth K CN "takes" fNt:=⟨aNt,iNt,kNt⟩
 have mNw:Meth K CN "word" fNw:=⟨aNw,iNw,kNw⟩
 have mAt:Meth K CA "takes" fAt:=⟨aAt,iAt,kAt⟩
 have mAw:Meth K CA "word" fAw:=⟨aAw,iAw,kAw⟩
 have mIt:Meth K CI "takes" fIt:=⟨aIt,iIt,kIt⟩
 have mIw:Meth K CI "word" fIw:=⟨aIw,iIw,kIw⟩
 have mKt:Meth K CK "takes" fKt:=⟨aKt,iKt,kKt⟩
 have mKw:Meth K CK "word" fKw:=⟨aKw,iKw,kKw⟩
 have MXR:MkX K XR fRi:=⟨mxXR,tfXR,kcXR⟩
 have MXF:MkX K XF fXf:=⟨mxXF,tfXF,kcXF⟩
 have MXM:MkX K XM fXm:=⟨mxXM,tfXM,kcXM⟩
 have MXU:MkX K XU fXu:=⟨mxXU,tfXU,kcXU⟩
 have MCL:Mk K CL fOi:=⟨mkCL,aOi,iOi,kcCL⟩
 have mOf2:Meth K CL "forms" fOf2:=⟨aOf2,iOf2,kOf2⟩
 have mOl:Meth K CL "letter" fOl:=⟨aOl,iOl,kOl⟩
 have mOm:Meth K CL "machine" fOm:=⟨aOm,iOm,kOm⟩
 have TT:TS mg:=⟨T.len,W.mg_none_of X G zall,⟨_,W.mg_of X G qf,_,rfl⟩,⟨_,W.mg_of X G qs,_,rfl⟩,⟨_,W.mg_of X G qn,_,rfl⟩,⟨_,W.mg_of X G qm,_,rfl⟩,⟨_,W.mg_of X G qa,_,rfl⟩,⟨_,W.mg_of X G qb,_,rfl⟩,⟨_,W.mg_of X G qc,_,rfl⟩⟩
 have bOi1:=FOi.binds (ps:=["self","texts","most"]) (ds:=[.int 2 tkdOi]) fun _ _ _ _ _ _ _ us hl=>match us,hl with | [_,_],_=>⟨_,rfl,rfl⟩ | [],h=>absurd h (by simp) | [_],h=>absurd h (by simp)|_::_::_::t,h=>absurd h (by simp)
 have g8:=W.mg_of X G q8
 have gS:=W.mg_of X G qS
 have r8:RelV (.int 8) (Value.int 8 tk8):=⟨_,rfl⟩
 have rS:RelV (.int 8) (Value.int 8 tkS):=⟨_,rfl⟩
 have r2:RelV (.int 2) (Value.int 2 tkdOi):=⟨_,rfl⟩
 have Y:LK K CL:=⟨clCL,nCL_known,nCL_taught⟩
 have R:RfK K mg XE XU XM:=⟨mgXE,mgXU,mgXM,xtEXU,xtEXM,xgeXU,xgeXM,xgfXU,xgfXM,kiXUXU,kiXUXM,kiXMXU,kiXMXM⟩
 exact⟨W.fnOf "law" "law" (zk sLaw) (zj sLaw) (zb sLaw) .none kVZ dcZ pmZ anZ cdZ ctZ,fun s v=>.of_eq rfl,fun base _ _=>ok_all FZ T TT (W.mg_none_of X G zenu) (W.mg_none_of X G ztup) (W.mg_none_of X G zlis) (W.mg_none_of X G zint) (W.mg_none_of X G zhset) (W.mg_none_of X G zhmin) (W.mg_none_of X G zhany) ⟨_,W.mg_of X G qu,_,rfl⟩ g8 r8 gS rS MXR FRi bRi xseXR xrzXR mgXR MXF FXf bXf xseXF xrzXF mgXF MXM FXm bXm xseXM xrzXM mgXM MXU FXu bXu xseXU xrzXU mgXU xtN R Y MCL mgCL FOi bOi1 r2 bOi FOf2 mOf2 bOf2 FOl mOl bOl FOm mOm bOm ⟨MCN,mgCN,clCN,mNt,bNt,mNw,bNw⟩ FNt FNw ⟨MCA,mgCA,clCA,mAt,bAt,mAw,bAw⟩ FAt FAw ⟨MCI,mgCI,clCI,mIt,bIt,mIw,bIw⟩ FIt FIw ⟨MCK,mgCK,clCK,mKt,bKt,mKw,bKw⟩ FKt FKw FMo bMo gMo FIi bIi gIi FAl bAl gAl FSo bSo gSo FIg bIg gIg FPa bPa gPa FFm bFm gFm FWr bWr gWr FGs bGs gGs FFx bFx gFx FUn bUn gUn FWa bWa gWa FLp bLp gLp FLf bLf gLf FFw bFw gFw FRin bRin gRin FWt bWt gWt FGo bGo gGo FFg bFg gFg FGr bGr gGr FFo bFo gFo FWd bWd gWd FRof bRof gRof FRsf bRsf gRsf FEo bEo gEo FCe bCe gCe FOf bOf gOf FIn bIn gIn FIm bIm gIm FIl bIl gIl FLs bLs gLs FSi bSi gSi FNu bNu gNu FNa bNa gNa FMk bMk gMk FLi bLi gLi FWo bWo gWo FLb bLb gLb FWq bWq gWq FBa bBa gBa FTe bTe gTe FOd bOd gOd FTk bTk gTk FEn bEn gEn FUk bUk gUk FTs bTs gTs FMa bMa gMa FMs bMs gMs FRf bRf gRf FIr bIr gIr FWs bWs gWs⟩
theorem walk {l:W.OpenLaw}{q:Program}{loose:List Str}{XP:(Str->Option Value)->Heap->Prop}{YP:World->Heap->Prop}{d:DefRec}{K:Params->W.Frag}(hn:l.most=some 63)(hdf:d.params.defaults=[])
  (hY:∀(w:World)(h:Heap),YP w h->(K w.params).In h)
  (F:∀(w:World)(mg:zT3)(fa:Addr)(h:Heap),(K w.params).In h->h.Ns mainGlobals mg->mg d.name=some (.ref fa)→
   ∃fd:FuncData,(∀(s:Shared)(u:Value),BindsTo s fd ⟨[u],[]⟩ [("_law_script",u)])/\∀base:Heap,(K w.params).In base->base.Ns mainGlobals mg->FnOk l.prog w (K w.params) mg base CX0 26 fa fd ["_law_script"] (zGh (K w.params))):
  W.WalkO q loose XP YP l.row.toRowW d [] (fun f vs=>PySem.call f vs):=
 L2.zwj (n:=63) (k:=26) (x:="_law_script") (CX:=fun _=>CX0) (sp:=fun w=>zGh (K w.params)) hn (by decide) hdf ⟨rfl,by decide,by decide⟩ hY F (fun _ _ a ns hl _ hS=>⟨a,ns,rfl,hS,hl,fun _=>rfl⟩) fun _ _ _ _ _ z=>z
end SL
open PySem PySem.W PyProof.Rows
set_option maxRecDepth 100000 in
set_option maxHeartbeats 0 in
theorem PySem.Challenge.cw_logloom_k80_looms_of_texts_holds : PySem.Challenge.rw_logloom_k80_looms_of_texts.Holds := by
 w_on;o_law
 refine PySem.W.holds_open (q:=SL.hQ) (loose:=[PySem.Str.ofString "groups",PySem.Str.ofString "forms_of"]) (Xt:=SL.hX)
  (XP:=PySem.W.XL SL.hQ [])
  (Yf:=(PySem.W.kHook SL.hK SL.hA SL.hE).obs) (Ya:=(PySem.W.kHook SL.hK SL.hA SL.hE).val)
  (YP:=(PySem.W.kHook SL.hK SL.hA SL.hE).says)
  (N:=9746) SL.hL (PySem.W.kHook SL.hK SL.hA SL.hE).of (PySem.W.kHook SL.hK SL.hA SL.hE).keeps
  (fun s e=>PySem.W.xl_of s (Bool.and_eq_true_iff.mp e).1) PySem.W.XL.keeps
  rfl rfl rfl
  (fun s e=>PySem.W.recFacts_of (Bool.and_eq_true_iff.mp e).2)
  rfl (by first|assumption|decide +kernel) (by decide +kernel)
  ⟨rfl,rfl,rfl,rfl,rfl,by decide +kernel⟩ ?hw ?hc
 case hw=>w_witness2
 k_fill
 refine SL.walk (l:=PySem.Challenge.rw_logloom_k80_looms_of_texts) rfl rfl (fun w h Y=>PySem.W.kIn_of Y) ?F
 case F=>
  intro w mg fa h KX G hmg
  refine' SL.all_mk KX G hmg ?aCN ?pgCN ?hdCN ?poCN ?saCN ?mkCN ?kcCN ?haCN ?hmCN ?inCN ?aCA ?pgCA ?hdCA ?poCA ?saCA ?mkCA ?kcCA ?haCA ?hmCA ?inCA ?aCI ?pgCI ?hdCI ?poCI ?saCI ?mkCI ?kcCI ?haCI ?hmCI ?inCI ?aCK ?pgCK ?hdCK ?poCK ?saCK ?mkCK ?kcCK ?haCK ?hmCK ?inCK ?aXR ?kcXR ?aXF ?kcXF ?aXM ?kcXM ?aXU ?kcXU ?aXE ?aCL ?pgCL ?hdCL ?poCL ?saCL ?mkCL ?kcCL ?haCL ?hmCL ?nCL_known ?nCL_taught ?hn ?htk ?xseXR ?xrzXR ?xseXF ?xrzXF ?xseXM ?xrzXM ?xseXU ?xrzXU ?xtN ?xtEXU ?xgeXU ?xgfXU ?xtEXM ?xgeXM ?xgfXM ?kiXUXU ?kiXUXM ?kiXMXU ?kiXMXM ?aMo ?lMo ?cMo ?kMo ?aIi ?lIi ?cIi ?kIi ?aAl ?lAl ?cAl ?kAl ?aSo ?lSo ?cSo ?kSo ?aIg ?lIg ?cIg ?kIg ?aPa ?lPa ?cPa ?kPa ?aFm ?lFm ?cFm ?kFm ?aWr ?lWr ?cWr ?kWr ?aGs ?lGs ?cGs ?kGs ?aFx ?lFx ?cFx ?kFx ?aUn ?lUn ?cUn ?kUn ?aWa ?lWa ?cWa ?kWa ?aLp ?lLp ?cLp ?kLp ?aLf ?lLf ?cLf ?kLf ?aFw ?lFw ?cFw ?kFw ?aRin ?lRin ?cRin ?kRin ?aWt ?lWt ?cWt ?kWt ?aGo ?lGo ?cGo ?kGo ?aFg ?lFg ?cFg ?kFg ?aGr ?lGr ?ddGr ?cGr ?kGr ?aFo ?lFo ?ddFo ?cFo ?kFo ?aWd ?lWd ?cWd ?kWd ?aRof ?lRof ?cRof ?kRof ?aRsf ?lRsf ?cRsf ?kRsf ?aEo ?lEo ?cEo ?kEo ?aCe ?lCe ?cCe ?kCe ?aOf ?lOf ?cOf ?kOf ?aIn ?lIn ?cIn ?kIn ?aIm ?lIm ?cIm ?kIm ?aIl ?lIl ?cIl ?kIl ?aLs ?lLs ?cLs ?kLs ?aSi ?lSi ?cSi ?kSi ?aNu ?lNu ?cNu ?kNu ?aNa ?lNa ?cNa ?kNa ?aMk ?lMk ?cMk ?kMk ?aLi ?lLi ?cLi ?kLi ?aWo ?lWo ?cWo ?kWo ?aLb ?lLb ?cLb ?kLb ?aWq ?lWq ?cWq ?kWq ?aBa ?lBa ?cBa ?kBa ?aTe ?lTe ?cTe ?kTe ?aOd ?lOd ?cOd ?kOd ?aTk ?lTk ?cTk ?kTk ?aEn ?lEn ?cEn ?kEn ?aUk ?lUk ?cUk ?kUk ?aTs ?lTs ?cTs ?kTs ?aMa ?lMa ?cMa ?kMa ?aMs ?lMs ?cMs ?kMs ?aRf ?lRf ?cRf ?kRf ?aIr ?lIr ?cIr ?kIr ?aWs ?lWs ?cWs ?kWs ?aZ ?lZ ?cZ ?kZ ?aNt ?iNt ?lNt ?cNt ?kNt ?aNw ?iNw ?lNw ?cNw ?kNw ?aAt ?iAt ?lAt ?cAt ?kAt ?aAw ?iAw ?lAw ?cAw ?kAw ?aIt ?iIt ?lIt ?cIt ?kIt ?aIw ?iIw ?lIw ?cIw ?kIw ?aKt ?iKt ?lKt ?cKt ?kKt ?aKw ?iKw ?lKw ?cKw ?kKw ?aRi ?iRi ?lRi ?cRi ?kRi ?mxXR ?tfXR ?aXf ?iXf ?lXf ?cXf ?kXf ?mxXF ?tfXF ?aXm ?iXm ?lXm ?cXm ?kXm ?mxXM ?tfXM ?aXu ?iXu ?lXu ?cXu ?kXu ?mxXU ?tfXU ?aOi ?iOi ?lOi ?ddOi ?cOi ?kOi ?aOf2 ?iOf2 ?lOf2 ?cOf2 ?kOf2 ?aOl ?iOl ?lOl ?cOl ?kOl ?aOm ?iOm ?lOm ?cOm ?kOm ?qf ?qs ?qn ?qm ?qa ?qb ?qc ?qu ?q8 ?qS ?zall ?zenu ?ztup ?zlis ?zint ?zhset ?zhmin ?zhany ?zlen ?zrange ?zisin ?zstr ?zbool ?zzip
  case aCN|pgCN|hdCN|poCN|saCN|mkCN|kcCN|haCN|hmCN|inCN|aCA|pgCA|hdCA|poCA|saCA|mkCA|kcCA|haCA|hmCA|inCA|aCI|pgCI|hdCI|poCI|saCI|mkCI|kcCI|haCI|hmCI|inCI|aCK|pgCK|hdCK|poCK|saCK|mkCK|kcCK|haCK|hmCK|inCK|aXR|kcXR|aXF|kcXF|aXM|kcXM|aXU|kcXU|aXE|aCL|pgCL|hdCL|poCL|saCL|mkCL|kcCL|haCL|hmCL|nCL_known|nCL_taught|hn|htk=>k_is
  case xseXR|xrzXR|xseXF|xrzXF|xseXM|xrzXM|xseXU|xrzXU|xtN|xtEXU|xgeXU|xgfXU|xtEXM|xgeXM|xgfXM=>(first|kernel_rfl|decide +kernel)
  case kiXUXU|kiXUXM|kiXMXU|kiXMXM=>kit_is
  case aMo|lMo|cMo|kMo|aIi|lIi|cIi|kIi|aAl|lAl|cAl|kAl|aSo|lSo|cSo|kSo|aIg|lIg|cIg|kIg|aPa|lPa|cPa|kPa|aFm|lFm|cFm|kFm|aWr|lWr|cWr|kWr|aGs|lGs|cGs|kGs|aFx|lFx|cFx|kFx|aUn|lUn|cUn|kUn|aWa|lWa|cWa|kWa|aLp|lLp|cLp|kLp|aLf|lLf|cLf|kLf|aFw|lFw|cFw|kFw|aRin|lRin|cRin|kRin|aWt|lWt|cWt|kWt|aGo|lGo|cGo|kGo|aFg|lFg|cFg|kFg|aGr|lGr|ddGr|cGr|kGr|aFo|lFo|ddFo|cFo|kFo|aWd|lWd|cWd|kWd|aRof|lRof|cRof|kRof|aRsf|lRsf|cRsf|kRsf|aEo|lEo|cEo|kEo|aCe|lCe|cCe|kCe|aOf|lOf|cOf|kOf|aIn|lIn|cIn|kIn|aIm|lIm|cIm|kIm|aIl|lIl|cIl|kIl|aLs|lLs|cLs|kLs|aSi|lSi|cSi|kSi|aNu|lNu|cNu|kNu|aNa|lNa|cNa|kNa|aMk|lMk|cMk|kMk|aLi|lLi|cLi|kLi|aWo|lWo|cWo|kWo|aLb|lLb|cLb|kLb|aWq|lWq|cWq|kWq|aBa|lBa|cBa|kBa|aTe|lTe|cTe|kTe|aOd|lOd|cOd|kOd|aTk|lTk|cTk|kTk|aEn|lEn|cEn|kEn|aUk|lUk|cUk|kUk|aTs|lTs|cTs|kTs|aMa|lMa|cMa|kMa|aMs|lMs|cMs|kMs|aRf|lRf|cRf|kRf|aIr|lIr|cIr|kIr|aWs|lWs|cWs|kWs|aZ|lZ|cZ|kZ|aNt|iNt|lNt|cNt|kNt|aNw|iNw|lNw|cNw|kNw|aAt|iAt|lAt|cAt|kAt|aAw|iAw|lAw|cAw|kAw|aIt|iIt|lIt|cIt|kIt|aIw|iIw|lIw|cIw|kIw|aKt|iKt|lKt|cKt|kKt|aKw|iKw|lKw|cKw|kKw|aRi|iRi|lRi|cRi|kRi=>k_is
  case mxXR|tfXR=>(first|kernel_rfl|decide +kernel)
  case aXf|iXf|lXf|cXf|kXf=>k_is
  case mxXF|tfXF=>(first|kernel_rfl|decide +kernel)
  case aXm|iXm|lXm|cXm|kXm=>k_is
  case mxXM|tfXM=>(first|kernel_rfl|decide +kernel)
  case aXu|iXu|lXu|cXu|kXu=>k_is
  case mxXU|tfXU=>(first|kernel_rfl|decide +kernel)
  case aOi|iOi|lOi|ddOi|cOi|kOi|aOf2|iOf2|lOf2|cOf2|kOf2|aOl|iOl|lOl|cOl|kOl|aOm|iOm|lOm|cOm|kOm|qf|qs|qn|qm|qa|qb|qc|qu|q8|qS|zall|zenu|ztup|zlis|zint|zhset|zhmin|zhany|zlen|zrange|zisin|zstr|zbool|zzip=>k_is
