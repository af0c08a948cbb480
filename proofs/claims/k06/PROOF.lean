import PyProof.Rows.All
import Wide.All
import OpenK.KLine
import KE.KIsAll
import KE.KNestM
import KE.KLam
import PySem.Challenge.RW_joinmill_k06_whole_read_back
import Wide.FinOn
import Lean
import PyProof.EqAt
import PyProof.EqKinds
import PyProof.TupleCall
import PyProof.ListMulRoad
import PyProof.ZipIter
import PyProof.EnumMake
import PyProof.Rows.SetFrom
import KE.KIntText
import KE.IntTextLaws
set_option Elab.async false
set_option linter.all false
set_option maxRecDepth 100000
set_option maxHeartbeats 8000000
noncomputable section
open Bool (and_eq_true false_eq_true noConfusion not_eq_true' or_eq_true)
open Classical (axiomOfChoice)
open False (elim)
open ForInStep (yield)
open Function (comp)
open Int (emod_lt_of_pos emod_nonneg)
open List (all_cons all_eq_true all_map all_nil any_cons any_nil append_assoc append_nil eq_of_mem_replicate flatMap_cons flatten_cons foldl getD_eq_getElem?_getD getElem?_append_left getElem?_append_right getElem?_eq_getElem getElem?_map getElem?_set_ne getElem?_set_self length_append length_cons length_map length_nil length_set lookup_cons map_append map_cons map_map mem_append_right mem_cons mem_cons_of_mem mem_cons_self mem_of_getElem? not_mem_nil replicate replicate_succ size_toArray zip_cons_cons zip_nil_right)
open Nat (le_add_right le_refl le_succ le_trans lt_irrefl lt_of_lt_of_le ne_of_gt ne_of_lt toDigits zero_le)
open Ne (symm)
open PyProof.Rows (boot_list boot_tuple)
open PySem (boot_len)
open PySem.Builtin.List (listTooLong)
open PySem.Builtin.Slice (sliceAdjust slicePlaces)
open PySem.Builtin.SmallTypes (nextOf ownedTupleIsFree)
open PySem.Builtin.Str (occurrences strSliceIndices)
open PySem.Builtin.Tuple (tupleExact)
open PySem.F (slot_str_split)
open PySem.Heap (get?_push_of_some get?_push_size lt_size size_push)
open PySem.PassesOwn (never)
open PySem.Str (ofString)
open PySem.W (findIn keepIn kitOne mg_of nsIn)
theorem bD{p:Prop}(h:p:=by omega):p:=h
theorem dX{p:Prop}(h:p:=by decide+kernel):p:=h
theorem bO{p:Prop}(h:p:=by kernel_rfl):p:=h
section
set_option Elab.async false
namespace Jm
open PySem PySem.W PyProof.Rows
set_option maxRecDepth 100000
set_option maxHeartbeats 0
local macro_rules| `(tactic|o_head $H)=> `(tactic|assumption)
theorem pre(h:PySem.Challenge.rw_joinmill_k06_whole_read_back.row.Holds):PySem.Challenge.rw_joinmill_k06_whole_read_back.row.Holds:=by k_head
abbrev rr:=PySem.Challenge.rw_joinmill_k06_whole_read_back.row
noncomputable def vw:Program:={PySem.Challenge.pw_joinmill_k06_whole_read_back with main:={PySem.Challenge.pw_joinmill_k06_whole_read_back.main with body:=(((((PySem.Challenge.pw_joinmill_k06_whole_read_back.main.body.eraseIdx 68).eraseIdx 57).eraseIdx 39).eraseIdx 4).eraseIdx 0)}}
noncomputable def lv:List (Str×WData):=[]
noncomputable def ad:List Addr:=[2,3,15,22,23,24,25,28,35,36,37,40,47,48,49,52,53,54,55,56,57,58,59,60,61,62,63,64,65,66,67,69,70,72,73,74,76,77,79,80,81,84,85,86,88,89,91,92,93,95,96,98,99,100,102,103,105,106,107,109,110,112,113,114,116,117,119,120,121,123,124,126,127,128,130,131,133,134,135,137,138,140,141,142,144,145,147,148,149,151,152,154,155,156,159,160,161,163,164,166,167,168,170,171,173,174,175,178,179,180,182,183,185,186,187,189,190,192,193,194,196,197,199,200,208,210,211,213,214,215,217,218,220,221,222,224,225,227,228,229,231,232,234,235,236,238,239,241,242,243,244,245,246,247,250,252,253,255,256,257,259,260,262,263,264,266,267,269,270,271,273,274,276,277,278,280,281,283,284,285,287,288,290,291,292,294,295,297,298,299,301,302,304,305,306,308,309,311,312,313,315,316,318,319,320,322,323,325,326,327,329,330,332,333,334,337,338,339,341,342,344,345,346,348,349,351,352,353,356,357,358,360,361,363,364,365,367,368,370,371,372,374,375,377,378,379,381,382,384,385,386,388,389,391,392,393,395,396,398,399,400,402,403,405,406,407,409,410,412,413,414,416,417,419,420,421,423,424,426,427,428,430,431,433,434,435,437,438,440,441,442,444,445,447,448,449,451,452,454,455,456,458,459,461,462,463,465,466,468,469,470,473,474,475,478,479,480,482,483,485,486,487,490,491,492,494,495,497,498,499,502,503,504,507,508,509,512,513,514,517,518,519,522,523,524,526,527,529,530]
abbrev xt(s:Shared):Bool:=xlAt vw lv s&&recOk rr.records s
abbrev hk:Hook:=kmHook pre.heap_1 ad (fun _=>by kernel_rfl) [129,143]
noncomputable def bM9(tb:String->Option Builtin)(p:Program)(w:World)(n₀:Nat)(ann:Option Value):Nat->SharedT->Thread->Option SharedT
 |0,_,_=>none
 |n+1,s,t=>match through t with
  |true=>some s
  |false=>match Fast.tw6613529449190102663 n₀ ann t with
   |false=>none
   |true=>match Fast.tw10156331382660048174 (Fast.tw11892475500146522536 Fast.tw14364793385576792824) p w s t with
    |some (s',t')=>bM9 tb p w n₀ ann n s' t'
    |none=>none
theorem cQ2{tb:String->Option Builtin}{p:Program}{w:World}{n₀:Nat}{ann:Option Value}:∀{n:Nat} {s s':SharedT} {t:Thread},bM9 tb p w n₀ ann n s t=some s'->topRun treeTable p w n₀ ann n s.abs t=some s'.abs
 |0,_,_,_,h=>by cases h
 |n+1,s,s',t,h=>by
  unfold bM9 at h;rw[<-Fast.te6613529449190102663, <-Fast.te10156331382660048174, <-Fast.te11892475500146522536, <-Fast.te14364793385576792824]at h
  unfold topRun
  cases he:through t with
  |true=>rw[he]at h;cases h;rfl
  |false=>
   rw[he]at h
   cases hk:stepOk n₀ ann t with
   |false=>rw[hk]at h;cases h
   |true=>
    rw[hk]at h
    cases hs:stepT (denote treeTable) p w s t with
    |none=>rw[hs]at h;cases h
    |some r=>obtain⟨s₂,t₂⟩:=r;rw[hs]at h;rw[stepT_spec hs];exact cQ2 h
noncomputable def ofL:List Obj->Nat->BT->BT
 | [],_,t=>t
 |o::l,i,t=>ofL l (i+1) (t.ins i o)
def T0(P:Params):BT:=ofL (boot_heap P).objs.toList 0 .nil
theorem n0(P:Params):(boot_heap P).objs.size=11:=by kernel_rfl
noncomputable def an(P:Params):Option Value:=(boot_heap P).nsMap mainGlobals "__annotations__"
theorem dS8(P:Params):absHeap (T0 P) 11 (boot_heap P).life=boot_heap P:=by kernel_rfl
def cZ(w:World)(os:OsState):Option SharedT:=bM9 treeTable rr.prog w 11 (an w.params) 6610 ⟨T0 w.params,11,(boot_heap w.params).life, #[],boot_drawn,boot_toks,os⟩ (topStub rr.prog)
noncomputable abbrev LO:List Str:=["STATEMENT_FORMS"]
noncomputable abbrev md:List Str:=importedModules rr.prog.main.body
theorem opn:∀w:World,(fencedOpening treeTable rr.prog w 6610).map (fun s=>(s.heap,s.gens,s.drawn,s.toks))=some (boot_heap w.params,Array.mk [],boot_drawn,boot_toks):=boot_open bO bO (fun s=>by kernel_rfl)
theorem ns0(P:Params):((boot_heap P).isNs mainGlobals&&(#[]:Array GenState).size==0)=true:=by kernel_rfl
def tR(P:Params)(s:Shared):Bool:=staticsOk md (boot_heap P) s.heap&&namesBound rr.prog s.heap&&gensDone s&&laidKept (boot_heap P) s.heap
theorem dT1{p:Program}{w:World}{N:Nat}{s₀ s₁:Shared}(a:(s₀.heap.isNs mainGlobals&&s₀.gens.size==0)=true)(r:topRun treeTable p w s₀.heap.objs.size (s₀.heap.nsMap mainGlobals "__annotations__") N s₀ (topStub p)=some s₁)
 (b:(staticsOk (importedModules p.main.body) s₀.heap s₁.heap&&namesBound p s₁.heap&&gensDone s₁&&laidKept s₀.heap s₁.heap)=true):topFrom treeTable p w N s₀=some s₁:=by
 unfold topFrom
 rw[a]
 dsimp only
 rw[r]
 dsimp only[Option.bind]
 rw[b]
theorem dT2{q:Program}{l m:List Str}{X:Shared->Bool}{s:Shared}(b:seen ((recsOf q).map (·.name)) (ownsOf q) [] {s with gens:= #[]}=expectedOf q)(bl:s.heap.bltView=bltViewBooted)
 (c:(s.heap.keysOk (looseW q l) ((recsOf q).map (·.name)) ((litsOf q).map (·.1)) ((clssOf q (looseW q l)).map (·.name))&&s.heap.accountedOkI m&&s.heap.isNs mainGlobals&&s.heap.isNs builtinsNs&&tablesOk q s.heap&&X s&&(if true then s.gens.size==0 else !leftWithCleanup s.gens))=true)
 (e:tabsOk q s=true) (d:(pinSeenD q (drecsOf q) s,plainSeenE q (looseW q l) s,plainSeenD q l s,wideSeen q s,clsSeenW q l s)=(pinGoodD (drecsOf q),plainGoodE q (looseW q l),plainGoodD q l,wideGood q,clsGoodW q l)):openSeen q l m X true s=openGood q l:=
 Prod.ext b (Prod.ext bl (Prod.ext c (Prod.ext e d)))
theorem dT3{p q:Program}{l:List Str}{X:Shared->Bool}{α:Type}{f:Shared->α}{y:α}{w:World}{N:Nat}{s₁:OsState->Shared}{h:Heap}{d:Drawn}{k:Nat}
 (o:(fencedOpening treeTable p w N).map (fun s=>(s.heap,s.gens,s.drawn,s.toks))=some (h,Array.mk [],d,k)) (r:∀os,topFrom treeTable p w N ⟨h, #[],d,k,os⟩=some (s₁ os))
 (a:∀os,openSeen q l (importedModules p.main.body) X true (s₁ os)=openGood q l) (b:∀os,f (s₁ os)=y):(openEnds treeTable p w N).map (fun s=>(openSeen q l (importedModules p.main.body) X true s,f s))=some (openGood q l,y):=by
 obtain⟨⟨h',gs,d',k',os⟩,e,e'⟩:=Option.map_eq_some_iff.mp o
 obtain⟨rfl,rfl,rfl,rfl⟩:h'=h/\gs=Array.mk []/\d'=d/\k'=k:=by
  have a1:=congrArg (·.1) e'
  have a2:=congrArg (·.2.1) e'
  have a3:=congrArg (·.2.2.1) e'
  have a4:=congrArg (·.2.2.2) e'
  exact⟨a1,a2,a3,a4⟩
 unfold openEnds
 rw[e]
 show(topFrom treeTable p w N _).map _=_
 rw[r os]
 exact congrArg some (Prod.ext (a os) (b os))
theorem dT4{w:World}{os:OsState}{s:SharedT}(h:cZ w os=some s)(b:tR w.params s.abs=true):topFrom treeTable rr.prog w 6610 ⟨boot_heap w.params, #[],boot_drawn,boot_toks,os⟩=some s.abs:=by
 have r:=cQ2 h
 unfold SharedT.abs at r
 dsimp only at r
 rw[dS8]at r
 refine dT1 (ns0 _) ?_ b
 show topRun _ _ _ (boot_heap w.params).objs.size _ _ _ _=_
 rw[n0]
 exact r
theorem cQ4{w:World}(a:∀os,(cZ w os).map (fun s=>(tR w.params s.abs,s.abs.heap.bltView,hk.obs s.abs))=some (true,bltViewBooted,hk.val w))
 (b:∀os,(cZ w os).map (fun s=>seen ((recsOf vw).map (·.name)) (ownsOf vw) [] {s.abs with gens:= #[]})=some (expectedOf vw))
 (c:∀os,(cZ w os).map (fun s=>s.abs.heap.keysOk (looseW vw LO) ((recsOf vw).map (·.name)) ((litsOf vw).map (·.1)) ((clssOf vw (looseW vw LO)).map (·.name))&&s.abs.heap.accountedOkI md&&s.abs.heap.isNs mainGlobals&&s.abs.heap.isNs builtinsNs&&tablesOk vw s.abs.heap&&xt s.abs&&(if true then s.abs.gens.size==0 else !leftWithCleanup s.abs.gens))=some true)
 (e:∀os,(cZ w os).map (fun s=>tabsOk vw s.abs)=some true)
 (d:∀os,(cZ w os).map (fun s=>(pinSeenD vw (drecsOf vw) s.abs,plainSeenE vw (looseW vw LO) s.abs,plainSeenD vw LO s.abs,wideSeen vw s.abs,clsSeenW vw LO s.abs))=some (pinGoodD (drecsOf vw),plainGoodE vw (looseW vw LO),plainGoodD vw LO,wideGood vw,clsGoodW vw LO)):
 (openEnds treeTable rr.prog w 6610).map (fun s=>(openSeen vw LO md xt true s,hk.obs s))=some (openGood vw LO,hk.val w):=by
 have z:∀os,∃s,cZ w os=some s/\tR w.params s.abs=true/\openSeen vw LO md xt true s.abs=openGood vw LO/\hk.obs s.abs=hk.val w:=fun os=>by
  have a:=a os;have b:=b os;have c:=c os;have d:=d os;have e:=e os
  cases h:cZ w os with
  |none=>rw[h]at a;cases a
  |some s=>
   rw[h]at a b c d e
   have a:=Option.some.inj a
   exact⟨s,rfl,congrArg Prod.fst a,dT2 (Option.some.inj b) (congrArg (fun x=>x.2.1) a) (Option.some.inj c) (Option.some.inj e) (Option.some.inj d),congrArg (fun x=>x.2.2) a⟩
 exact dT3 (s₁:=fun os=>(z os).choose.abs) (opn w) (fun os=>dT4 (z os).choose_spec.1 (z os).choose_spec.2.1) (fun os=>(z os).choose_spec.2.2.1) fun os=>(z os).choose_spec.2.2.2
noncomputable abbrev w0(w:World):World:=w.withFollow "special-get-raises" false
noncomputable abbrev w1(w:World):World:=w.withFollow "special-get-raises" true
theorem la0(w:World)(os:OsState):(cZ (w0 w) os).map (fun s=>(tR (w0 w).params s.abs,s.abs.heap.bltView,hk.obs s.abs))=some (true,bltViewBooted,hk.val (w0 w)):=by kernel_rfl
theorem lb0(w:World)(os:OsState):(cZ (w0 w) os).map (fun s=>seen ((recsOf vw).map (·.name)) (ownsOf vw) [] {s.abs with gens:= #[]})=some (expectedOf vw):=by kernel_rfl
theorem lc0(w:World)(os:OsState):(cZ (w0 w) os).map (fun s=>s.abs.heap.keysOk (looseW vw LO) ((recsOf vw).map (·.name)) ((litsOf vw).map (·.1)) ((clssOf vw (looseW vw LO)).map (·.name))&&s.abs.heap.accountedOkI md&&s.abs.heap.isNs mainGlobals&&s.abs.heap.isNs builtinsNs&&tablesOk vw s.abs.heap&&xt s.abs&&(if true then s.abs.gens.size==0 else !leftWithCleanup s.abs.gens))=some true:=by kernel_rfl
theorem le0(w:World)(os:OsState):(cZ (w0 w) os).map (fun s=>tabsOk vw s.abs)=some true:=by kernel_rfl
theorem ld0(w:World)(os:OsState):(cZ (w0 w) os).map (fun s=>(pinSeenD vw (drecsOf vw) s.abs,plainSeenE vw (looseW vw LO) s.abs,plainSeenD vw LO s.abs,wideSeen vw s.abs,clsSeenW vw LO s.abs))=some (pinGoodD (drecsOf vw),plainGoodE vw (looseW vw LO),plainGoodD vw LO,wideGood vw,clsGoodW vw LO):=by kernel_rfl
theorem la1(w:World)(os:OsState):(cZ (w1 w) os).map (fun s=>(tR (w1 w).params s.abs,s.abs.heap.bltView,hk.obs s.abs))=some (true,bltViewBooted,hk.val (w1 w)):=by kernel_rfl
theorem lb1(w:World)(os:OsState):(cZ (w1 w) os).map (fun s=>seen ((recsOf vw).map (·.name)) (ownsOf vw) [] {s.abs with gens:= #[]})=some (expectedOf vw):=by kernel_rfl
theorem lc1(w:World)(os:OsState):(cZ (w1 w) os).map (fun s=>s.abs.heap.keysOk (looseW vw LO) ((recsOf vw).map (·.name)) ((litsOf vw).map (·.1)) ((clssOf vw (looseW vw LO)).map (·.name))&&s.abs.heap.accountedOkI md&&s.abs.heap.isNs mainGlobals&&s.abs.heap.isNs builtinsNs&&tablesOk vw s.abs.heap&&xt s.abs&&(if true then s.abs.gens.size==0 else !leftWithCleanup s.abs.gens))=some true:=by kernel_rfl
theorem le1(w:World)(os:OsState):(cZ (w1 w) os).map (fun s=>tabsOk vw s.abs)=some true:=by kernel_rfl
theorem ld1(w:World)(os:OsState):(cZ (w1 w) os).map (fun s=>(pinSeenD vw (drecsOf vw) s.abs,plainSeenE vw (looseW vw LO) s.abs,plainSeenD vw LO s.abs,wideSeen vw s.abs,clsSeenW vw LO s.abs))=some (pinGoodD (drecsOf vw),plainGoodE vw (looseW vw LO),plainGoodD vw LO,wideGood vw,clsGoodW vw LO):=by kernel_rfl
theorem ws1:PySem.Challenge.rw_joinmill_k06_whole_read_back.row.wellSaid=true:=by kernel_rfl
theorem ws:PySem.Challenge.rw_joinmill_k06_whole_read_back.wellSaid=true:=by
 unfold OpenLaw.wellSaid
 rw[ws1]
 kernel_rfl
theorem le:LeftO rr.prog vw LO xt hk.obs hk.val 6610:=fun w=>byRow2 "special-get-raises" (P:=fun w=>(openEnds treeTable rr.prog w 6610).map (fun s=>(openSeen vw LO md xt true s,hk.obs s))=some (openGood vw LO,hk.val w)) (fun w=>cQ4 (la0 w) (lb0 w) (lc0 w) (le0 w) (ld0 w)) (fun w=>cQ4 (la1 w) (lb1 w) (lc1 w) (le1 w) (ld1 w)) w
theorem hd{d:DefRec}{kwd:List (Str×Expr)}(a:defOf vw rr.name=some (d,kwd))(b:rr.prog.theDef rr.name=some (d.params,d.body,d.scope))
 (c:kwWritten? d.params.kwonlyargs d.params.kw_defaults=some kwd) (e:(!rr.writes||List.isEmpty rr.records)=true) (f:rr.wellSaid=true)
 (g:(chainsOk vw&&opensWell rr.prog&&(frees rr.toRowW&&rr.within.isEmpty))=true) (B:rr.prog.bare)
 (hw:rr.promised) (hc:WalkO vw LO (XL vw lv) hk.says rr.toRowW d kwd fun f vs=>call f vs):rr.Holds:=
 holds_open le (Hook.of hk) (Hook.keeps hk) (fun s z=>xl_of s (Bool.and_eq_true_iff.mp z).1) XL.keeps a b c (fun s z=>recFacts_of (Bool.and_eq_true_iff.mp z).2) e f g B hw hc
end Jm
end
section
namespace L2
open PySem PySem.Spec PyProof.Rows
noncomputable abbrev lY:=Sum Int Str
noncomputable def bN0:lY->Value->Bool
 | .inl k,v=>Value.isInt k v
 | .inr x,v=>Value.isStrOf x v
noncomputable def dU6(w:World):lY->Int
 | .inl k=>hashInt k
 | .inr x=>hashStr w x
theorem tT:∀{k:lY} {v:Value},bN0 k v=true->(∃i t,k=Sum.inl i/\v=Value.int i t)\/(∃x t,k=Sum.inr x/\v=Value.str x t)
 | .inl i,v,h=>by
  obtain⟨t,e⟩:=Value.isInt_shape (k:=i) (v:=v) h
  exact .inl ⟨i,t,rfl,e⟩
 | .inr x,v,h=>by
  obtain⟨t,e⟩:=Value.isStrOf_shape (x:=x) (v:=v) h
  exact .inr ⟨x,t,rfl,e⟩
theorem dU7(x:Str)(t:Tok):bN0 (.inr x) (.str x t)=true:=by simp[bN0,Value.isStrOf]
theorem dU8(a b:Int):decide ((Sum.inl a:lY)=Sum.inl b)=(a==b):=by
 by_cases e:a=b
 ·subst e;simp
 ·have h: ¬ (Sum.inl a:lY)=Sum.inl b:=fun q=>e (Sum.inl.inj q)
  rw[decide_eq_false h]
  exact(beq_eq_false_iff_ne.mpr e).symm
theorem dU9(a b:Str):decide ((Sum.inr a:lY)=Sum.inr b)=decide (a=b):=by
 by_cases e:a=b
 ·subst e;simp
 ·have h: ¬ (Sum.inr a:lY)=Sum.inr b:=fun q=>e (Sum.inr.inj q)
  rw[decide_eq_false h,decide_eq_false e]
theorem dV0(a:Int)(b:Str):decide ((Sum.inl a:lY)=Sum.inr b)=false:=decide_eq_false (fun q=>nomatch q)
theorem dV1(a:Str)(b:Int):decide ((Sum.inr a:lY)=Sum.inl b)=false:=decide_eq_false (fun q=>nomatch q)
def lZ(prog:Program)(w:World):PySem.KeyKind prog w lY where
 is:=bN0
 hash:=dU6 w
 inj:=fun v a b ha hb=>by
  rcases tT ha with⟨i,t,rfl,rfl⟩|⟨x,t,rfl,rfl⟩
  ·rcases tT hb with⟨j,u,rfl,e⟩|⟨y,u,rfl,e⟩
   ·injection e with e1 _;rw[e1]
   ·exact nomatch e
  ·rcases tT hb with⟨j,u,rfl,e⟩|⟨y,u,rfl,e⟩
   ·exact nomatch e
   ·injection e with e1 _;rw[e1]
 byValue:=fun k v h=>by
  rcases tT h with⟨i,t,rfl,rfl⟩|⟨x,t,rfl,rfl⟩<;>rfl
 pyHash:=fun hv h=>by
  rcases tT hv with⟨i,t,rfl,rfl⟩|⟨x,t,rfl,rfl⟩
  ·exact wpAny_pyHash_int h
  ·exact wpAny_pyHash_str h
 eqBool:=fun hu hv h=>by
  rcases tT hu with⟨i,t,rfl,rfl⟩|⟨x,t,rfl,rfl⟩
  ·rcases tT hv with⟨j,u,rfl,rfl⟩|⟨y,u,rfl,rfl⟩
   ·rw[dU8]at h;exact wpAny_eqBool_int h
   ·rw[dV0]at h;exact SeqAt.EqAt.int_str i t y u _ _ _ _ h
  ·rcases tT hv with⟨j,u,rfl,rfl⟩|⟨y,u,rfl,rfl⟩
   ·rw[dV1]at h;exact SeqAt.EqAt.str_int x t j u _ _ _ _ h
   ·rw[dU9]at h;exact wpAny_eqBool_str h
 «strs» :=fun k x t v h=>by
  rcases tT h with⟨i,u,rfl,e⟩|⟨y,u,rfl,e⟩
  ·exact nomatch e
  ·injection e with e1 _
   subst e1
   cases v<;>rfl
theorem zJ(prog:Program)(w:World)(x:Str)(t:Tok):(lZ prog w).is (.inr x) (.str x t)=true:=dU7 x t
end L2
namespace L2
open PySem PySem.Spec PyProof.Rows
inductive V where
 |non|bl (b:Bool)|int (i:Int)|str (x:Str)|byt (b:Array UInt8)|flt (b:UInt64)|ref (a:Addr)|ty (n:String)
 deriving DecidableEq
def cG:V->Value->Prop
 | .non,u=>u=Value.none
 | .bl b,u=>u=Value.bool b
 | .int i,u=>∃t,u=Value.int i t
 | .str x,u=>∃t,u=Value.str x t
 | .byt b,u=>∃t,u=Value.bytes b t
 | .flt b,u=>∃t,u=Value.float b t
 | .ref a,u=>u=Value.ref a
 | .ty n,u=>u=Value.type n
abbrev bV:List V->List Value->Prop:=Paired cG
theorem bV.length{xs:List V}{us:List Value}(r:bV xs us):xs.length=us.length:=Paired.length r
theorem bV.get:∀{xs:List V} {us:List Value} {i:Nat} {x:V},bV xs us->xs[i]? =some x->∃u,us[i]? =some u/\cG x u
 |_,_,_,_,.nil,e=>by simp at e
 |_,_,0,_,.cons r _,e=>by simp at e;subst e;exact⟨_,rfl,r⟩
 |_,_,i+1,x,.cons _ t,e=>by
  obtain⟨u,h1,h2⟩:=bV.get (i:=i) (x:=x) t (by simpa using e)
  exact⟨u,by simpa using h1,h2⟩
theorem bV.append:∀{xs ys:List V} {us ws:List Value},bV xs us->bV ys ws->bV (xs++ys) (us++ws)
 |_,_,_,_,.nil,s=>s
 |_,_,_,_,.cons r t,s=>.cons r (bV.append t s)
theorem bV.take:∀{xs:List V} {us:List Value} (n:Nat),bV xs us->bV (xs.take n) (us.take n)
 |_,_,0,_=>.nil
 |_,_,_+1,.nil=>.nil
 |_,_,n+1,.cons r t=>.cons r (bV.take n t)
theorem bV.drop:∀{xs:List V} {us:List Value} (n:Nat),bV xs us->bV (xs.drop n) (us.drop n)
 |_,_,0,r=>r
 |_,_,_+1,.nil=>.nil
 |_,_,n+1,.cons _ t=>bV.drop n t
theorem bV.none_of:∀{xs:List V} {us:List Value} {i:Nat},bV xs us->xs[i]? =none->us[i]? =none:=fun{xs us i} r e=>by
 have h1:=r.length
 have h2:xs.length<=i:=List.getElem?_eq_none_iff.mp e
 exact List.getElem?_eq_none_iff.mpr bD
def RelO:Option V->Option Value->Prop
 |some v,some u=>cG v u
 |none,none=>True
 |_,_=>False
def KV{κ:Type}:List (κ×V)->List (κ×Value)->Prop:=Paired fun(p:κ×V) (q:κ×Value)=>p.1=q.1/\cG p.2 q.2
noncomputable def kV:lY->V
 | .inl i=>.int i
 | .inr x=>.str x
inductive HO where
 |lst (xs:List V)
 |tup (xs:List V)
 |dK (kvs:List (lY×V))|dT (kvs:List (List lY×V))
 |set (S:Int->Bool) (n:Nat)
 |ins (C dx:Addr) (fs:List (Str×V))
 |own (x:Addr)
 |xd (fs:List (Str×V))
 |met (f x:Addr)
 |rng (lo hi:Int)
 |frz (o:Obj) (u:HO)
 |tbl (ps:Array Value)
 |ext (φ:Heap->Prop)
noncomputable abbrev Hp:=Addr->Option HO
noncomputable def upd(H:Hp)(a:Addr)(o:HO):Hp:=fun b=>if b=a then some o else H b
theorem dY{H:Hp}{a:Addr}{o:HO}:upd H a o a=some o:=by unfold upd;rw[if_pos rfl]
theorem cK{H:Hp}{a b:Addr}{o:HO}(h:b≠a):upd H a o b=H b:=by unfold upd;rw[if_neg h]
theorem dV2{H:Hp}{a:Addr}{o u:HO}:upd (upd H a o) a u=upd H a u:=by
 funext b;unfold upd;split<;>rfl
theorem wZ{H:Hp}{a b:Addr}{o u:HO}(h:H a=some o)(h':H b=some u)(d:o≠u):a≠b:=by
 intro e;subst e;rw[h]at h';exact d (Option.some.inj h')
theorem pL{H:Hp}{a b:Addr}{o:HO}(h:H a=some o)(h':H b=none):a≠b:=by
 intro e;subst e;rw[h]at h';cases h'
section
variable(P:Program)(w:World)
def mX(H:Hp)(h:Heap)(a:Addr):HO->Prop
 | .lst xs=>xs.length<=sizeLine/\ ∃(its:List Value) (n:Nat),bV xs its/\h.get? a=some {cls:=.type "list",data:=.seq its.toArray n}
 | .tup xs=>xs.length<=sizeLine/\ ∃its:List Value,bV xs its/\IsTup h a its.toArray
 | .dK kvs=>kvs.length<=sizeLine/\(a==sysModules)=false/\ ∃vs,KV kvs vs/\h.DictOf (lZ P w) a vs
 | .dT kvs=>kvs.length<=sizeLine/\(a==sysModules)=false/\ ∃xs:List (List lY×Addr×Value),
  Paired (fun(p:List lY×V) (q:List lY×Addr×Value)=>p.1=q.1/\H q.2.1=some (.tup (p.1.map kV))/\cG p.2 q.2.2) kvs xs/\
  ∃o es ep,h.get? a=some o/\o.ExactDict/\o.data= .dict es ep/\es.toList=xs.map (entryOfKey (tupleKind (lZ P w)))/\(xs.map (·.1)).Nodup
 | .set S n=>h.SetOf (intKind P w) a S n
 | .ins C dx fs=>H dx=some (.own a)/\fs.length<=1000/\dx≠a/\h.get? a=some (W.instObj C dx)/\
  ∃mA,h.Ns1 dx mA/\(∀f,RelO (fs.lookup f) (mA f))/\PySem.Within mA (fs.map (·.1))
 | .own _=>∃o,h.get? a=some o
 | .xd fs=>∃mA,h.Ns1 a mA/\ ∀f,RelO (fs.lookup f) (mA f)
 | .rng lo hi=>∃t u v,h.get? a=some {cls:=.type "range",data:=.fields #[.int lo t,.int hi u,.int 1 v]}
 | .frz o u=>h.get? a=some o/\mX H h a u
 | .tbl ps=>h.get? a=some {cls:=.none,data:=.fields ps}
 | .met f x=>h.get? a=some (W.methodObj (.ref f) (.ref x))
 | .ext φ=>φ h/\(∃o,h.get? a=some o)/\ ∀h1 h2:Heap,φ h1->(∀o,h1.get? a=some o->h2.get? a=some o)->φ h2
def jE(H:Hp)(h:Heap):Prop:=∀a o,H a=some o->mX P w H h a o
end
section
variable{P:Program}{w:World}{H H':Hp}{h h':Heap}{a:Addr}{o:HO}
theorem mX.lt(x:mX P w H h a o):a<h.objs.size:=by
 cases o with
 |lst xs=>obtain⟨_,_,_,_,e⟩:=x;exact lt_size e
 |tup xs=>obtain⟨_,_,_,p⟩:=x;exact p.lt
 |dK kvs=>obtain⟨_,_,_,_,o,_,_,e,_⟩:=x;exact lt_size e
 |dT kvs=>obtain⟨_,_,_,_,o,_,_,e,_⟩:=x;exact lt_size e
 |set S n=>obtain⟨o,_,_,_,e,_⟩:=x;exact lt_size e
 |ins C dx fs=>obtain⟨_,_,_,e,_⟩:=x;exact lt_size e
 |own y=>obtain⟨_,e⟩:=x;exact lt_size e
 |xd fs=>obtain⟨_,⟨_,_,_,e,_⟩,_⟩:=x;exact lt_size e
 |rng lo hi=>obtain⟨_,_,_,e⟩:=x;exact lt_size e
 |frz ob u=>obtain⟨e,_⟩:=x;exact lt_size e
 |tbl ps=>exact lt_size (show h.get? a=some _ from x)
 |met f y=>exact lt_size (show h.get? a=some _ from x)
 |ext φ=>obtain⟨_,⟨_,e⟩,_⟩:=x;exact lt_size e
theorem Paired.mapP{α β:Type}{F G:α->β->Prop}:∀{l₁:List α} {l₂:List β},Paired F l₁ l₂->(∀a b,F a b->G a b)->Paired G l₁ l₂
 |_,_,.nil,_=>.nil
 |_,_,.cons r t,f=>.cons (f _ _ r) (Paired.mapP t f)
theorem mX.stay(x:mX P w H h a o)(k:∀b u,(b=a\/H b=some (.own a))->h.get? b=some u->h'.get? b=some u)
 (ho:∀b,H b=some (.own a)->H' b=some (.own a)) (ht:∀b xs,H b=some (.tup xs)->H' b=some (.tup xs)):mX P w H' h' a o:=by
 induction o with
 |lst xs=>obtain⟨z,its,n,r,e⟩:=x;exact⟨z,its,n,r,k _ _ (.inl rfl) e⟩
 |tup xs=>obtain⟨z,its,r,ob,e,c⟩:=x;exact⟨z,its,r,ob,k _ _ (.inl rfl) e,c⟩
 |dK kvs=>obtain⟨z,y,vs,r,ob,es,ep,e,c⟩:=x;exact⟨z,y,vs,r,ob,es,ep,k _ _ (.inl rfl) e,c⟩
 |dT kvs=>
  obtain⟨z,y,xs,r,ob,es,ep,e,c⟩:=x
  exact⟨z,y,xs,Paired.mapP r fun p q z=>⟨z.1,ht _ _ z.2.1,z.2.2⟩,ob,es,ep,k _ _ (.inl rfl) e,c⟩
 |set S n=>obtain⟨ob,es,ep,t,e,c⟩:=x;exact⟨ob,es,ep,t,k _ _ (.inl rfl) e,c⟩
 |ins C dx fs=>
  obtain⟨d,z,ne,e,mA,⟨od,es,ep,e2,c⟩,r⟩:=x
  exact⟨ho _ d,z,ne,k _ _ (.inl rfl) e,mA,⟨od,es,ep,k _ _ (.inr d) e2,c⟩,r⟩
 |own y=>obtain⟨ob,e⟩:=x;exact⟨ob,k _ _ (.inl rfl) e⟩
 |xd fs=>obtain⟨mA,⟨od,es,ep,e,c⟩,r⟩:=x;exact⟨mA,⟨od,es,ep,k _ _ (.inl rfl) e,c⟩,r⟩
 |rng lo hi=>obtain⟨t,u,v,e⟩:=x;exact⟨t,u,v,k _ _ (.inl rfl) e⟩
 |frz ob u ih=>obtain⟨e,q⟩:=x;exact⟨k _ _ (.inl rfl) e,ih q⟩
 |tbl ps=>
  have e:h.get? a=some {cls:=.none,data:=.fields ps}:=x
  show h'.get? a=some {cls:=.none,data:=.fields ps}
  exact k a _ (.inl rfl) e
 |met f y=>
  have e:h.get? a=some (W.methodObj (.ref f) (.ref y)):=x
  show h'.get? a=some (W.methodObj (.ref f) (.ref y))
  exact k a _ (.inl rfl) e
 |ext φ=>obtain⟨p,⟨o,e⟩,st⟩:=x;exact⟨st _ _ p fun o q=>k _ _ (.inl rfl) q,⟨o,k _ _ (.inl rfl) e⟩,st⟩
theorem jE.lt(x:jE P w H h)(e:H a=some o):a<h.objs.size:=(x a o e).lt
theorem jE.fresh(x:jE P w H h)(e:h.objs.size<=a):H a=none:=by
 cases q:H a with
 |none=>rfl
 |some u=>exact absurd (lt_of_lt_of_le (x.lt q) e) (lt_irrefl _)
theorem jE.kept(x:jE P w H h)(k:∀b u,h.get? b=some u->h'.get? b=some u):jE P w H h':=fun a o e=>
 (x a o e).stay (fun b u _ q=>k b u q) (fun _ q=>q) fun _ _ q=>q
theorem jE.laid(x:jE P w H h)(k:∀b u,h.get? b=some u->h'.get? b=some u)(hp:h.objs.size<=a)(new:mX P w (upd H a o) h' a o):jE P w (upd H a o) h':=fun b u e=>by
 have hn:=x.fresh hp
 by_cases hb:b=a
 ·subst hb;rw[dY]at e;cases e;exact new
 ·rw[cK hb]at e
  exact(x b u e).stay (fun c v _ q=>k c v q) (fun c q=>by rw[cK (pL q hn)];exact q) fun c xs q=>by rw[cK (pL q hn)];exact q
end
def Rd(H:Hp)(a:Addr)(u:HO):Prop:=H a=some u\/ ∃o,H a=some (.frz o u)
theorem Rd.ok{P:Program}{w:World}{H:Hp}{h:Heap}{a:Addr}{u:HO}(r:Rd H a u)(x:jE P w H h):mX P w H h a u:=by
 rcases r with r|⟨o,r⟩
 ·exact x a u r
 ·obtain⟨_,q⟩:=x a _ r
  exact q
def Mut:Option HO->Prop
 |some (.lst _)=>True
 |some (.dK _)=>True
 |some (.dT _)=>True
 |some (.set _ _)=>True
 |some (.ins _ _ _)=>True
 |some (.ext _)=>True
 |_=>False
section
variable{P:Program}{w:World}{H:Hp}{h h':Heap}{x e:Addr}{o':HO}
theorem jE.write(ok:jE P w H h)(mu:Mut (H x))(he:e=x\/H e=some (.own x))(k:∀b u,b≠e->h.get? b=some u->h'.get? b=some u)(heo:∃u,h'.get? e=some u)
 (new:mX P w (upd H x o') h' x o'):jE P w (upd H x o') h':=fun b u q=>by
 have nown:∀c y,H c=some (.own y)->c≠x:=fun c y r z=>by subst z;rw[r]at mu;exact mu
 have ntup:∀c xs,H c=some (.tup xs)->c≠x:=fun c xs r z=>by subst z;rw[r]at mu;exact mu
 by_cases hb:b=x
 ·subst hb;rw[dY]at q;cases q;exact new
 ·rw[cK hb]at q
  by_cases hbe:b=e
  ·have q':H b=some (.own x):=by
    rcases he with z|z
    ·exact absurd (hbe.trans z) hb
    ·rw[hbe];exact z
   rw[q]at q';cases q'
   obtain⟨v,hv⟩:=heo
   exact⟨v,by rw[hbe];exact hv⟩
  ·refine(ok b u q).stay (fun c v hc r=>k c v ?_ r) (fun c r=>by rw[cK (nown c b r)];exact r) fun c xs r=>by rw[cK (ntup c xs r)];exact r
   rcases hc with rfl|hc
   ·exact hbe
   ·rintro rfl
    rcases he with z|z
    ·exact nown c b hc z
    ·rw[hc]at z;cases z;exact hb rfl
end
structure Un(fs ex:List Addr)(H H':Hp)(h h':Heap):Prop where
 keep:∀b o,h.get? b=some o->H b=none->b∉fs->b∉ex->h'.get? b=some o
 slot:∀b o,h.get? b=some o->H b=none->b∈fs->b∉ex->∃sl,h'.get? b=some {o with slots:=sl}
 free:∀b o,h.get? b=some o->H b=none->b∉ex->H' b=none
 there:∀b o,h.get? b=some o->b∉ex->∃o',h'.get? b=some o'
 tups:∀b xs,H b=some (.tup xs)->H' b=some (.tup xs)
 frzs:∀b o u,H b=some (.frz o u)->H' b=some (.frz o u)
 tbls:∀b ps,H b=some (.tbl ps)->∃more,H' b=some (.tbl (ps++more))
section
variable{fs fs' ex ex':List Addr}{H H1 H2:Hp}{h h1 h2 h':Heap}{a x e:Addr}{o:HO}
theorem Un.any(u:Un fs ex H H1 h h1){b:Addr}{ob:Obj}(q:h.get? b=some ob)(n:H b=none)(hx:b∉ex):∃sl,h1.get? b=some {ob with slots:=sl}:=by
 by_cases hb:b∈fs
 ·exact u.slot b ob q n hb hx
 ·exact⟨ob.slots,u.keep b ob q n hb hx⟩
theorem Un.kept(k:∀b u,h.get? b=some u->h'.get? b=some u):Un fs ex H H h h':=
 ⟨fun b ob q _ _ _=>k b ob q,fun b ob q _ _ _=>⟨ob.slots,k b ob q⟩,fun _ _ _ n _=>n,fun b ob q _=>⟨ob,k b ob q⟩,fun _ _ q=>q,fun _ _ _ q=>q,fun _ ps q=>⟨#[],by rw[q];simp⟩⟩
theorem Un.refl:Un fs ex H H h h:=Un.kept fun _ _ q=>q
theorem Un.laid(k:∀b u,h.get? b=some u->h'.get? b=some u)(hp:h.objs.size<=a)(hn:H a=none):Un fs ex H (upd H a o) h h' where
 keep:=fun b u q _ _ _=>k b u q
 slot:=fun b u q _ _ _=>⟨u.slots,k b u q⟩
 free:=fun b u q n _=>by rw[cK (ne_of_lt (lt_of_lt_of_le (lt_size q) hp))];exact n
 there:=fun b u q _=>⟨u,k b u q⟩
 tups:=fun b xs q=>by rw[cK (pL q hn)];exact q
 frzs:=fun b u xs q=>by rw[cK (pL q hn)];exact q
 tbls:=fun b ps q=>⟨#[],by rw[cK (pL q hn),q];simp⟩
theorem Un.write(mu:Mut (H x))(he:e=x\/H e=some (.own x))(k:∀b u,b≠e->h.get? b=some u->h'.get? b=some u)(heo:∃u,h'.get? e=some u):Un fs ex H (upd H x o) h h':=by
 have hx:∀b,H b=none->b≠x:=fun b n z=>by subst z;rw[n]at mu;exact mu
 have hb:∀b,H b=none->b≠e:=fun b n z=>by
  subst z
  rcases he with r|r
  ·exact hx b n r
  ·rw[n]at r;cases r
 have hm:∀b u,H b=some u-> ¬ Mut (some u)->b≠x:=fun b u q nm z=>by subst z;rw[q]at mu;exact nm mu
 refine⟨fun b u q n _ _=>k b u (hb b n) q,fun b u q n _ _=>⟨u.slots,k b u (hb b n) q⟩,fun b u q n _=>by rw[cK (hx b n)];exact n,fun b u q _=>?_,
  fun b xs q=>by rw[cK (hm b _ q fun z=>z)];exact q,fun b u xs q=>by rw[cK (hm b _ q fun z=>z)];exact q,fun b ps q=>⟨#[],by rw[cK (hm b _ q fun z=>z),q];simp⟩⟩
 by_cases hbe:b=e
 ·subst hbe;exact heo
 ·exact⟨u,k b u hbe q⟩
end
noncomputable def trk(h:Heap)(H:Hp):List Addr:=(List.range h.objs.size).filter fun a=>(H a).isSome
def rR(h:Heap)(H:Hp):Heap:=W.hideAll h (trk h H)
theorem cQ5(h:Heap)(H:Hp):(rR h H).objs.size=h.objs.size:=W.hideAll_size _ _
theorem cQ6{h:Heap}{H:Hp}{b:Addr}{o:Obj}(e:h.get? b=some o)(n:H b=none):(rR h H).get? b=some o:=
 W.hideAll_get _ e fun hm=>by
  have q:(H b).isSome=true:=(List.mem_filter.mp hm).2
  rw[n]at q;simp at q
theorem cQ7{h:Heap}{H:Hp}{b:Addr}{o:Obj}(e:(rR h H).get? b=some o):h.get? b=some o/\H b=none:=by
 have e':h.get? b=some o:=W.of_hideAll (trk h H) e
 refine⟨e',?_⟩
 cases q:H b with
 |none=>rfl
 |some x=>
  have hm:b∈trk h H:=List.mem_filter.mpr ⟨List.mem_range.mpr (lt_size e'),by simp[q]⟩
  have z:(rR h H).get? b=none:=W.hideAll_none (trk h H) hm
  rw[z]at e;cases e
end L2
namespace L2
open PySem PySem.Spec PyProof.Rows
structure Mod(K:W.Frag)(mg:Str->Option Value)(base:Heap):Prop where
 kin:K.In base
 glob:base.Ns mainGlobals mg
 blt:∃mb,base.Ns builtinsNs mb/\ ∀x:Str,x≠ "__name__" ->mb x=bootBuiltins x
 nolimit:base.NoLimit
structure Cx where
 prog:Program
 w:World
 K:W.Frag
 mg:Str->Option Value
 base:Heap
 A:Around
 N:List Str
 s₀:Shared
 Ha:Hp
 env:Env
 outer:List Env
 stack:List Env
 ex:List Addr
 fn:Str->Bool
 calm:Bool
 pn:List (Addr×Obj)
 xe:Value->Shared->Prop
noncomputable def lI(l:List Env):List Addr:=l.filterMap (·.frame)
abbrev Cx.fs(X:Cx):List Addr:=lI X.outer
def Vis(sc:Scope)(x:Str):Prop:=sc.names.lookup x=some .local\/sc.names.lookup x=some .cell\/sc.names.lookup x=some .free
def Loc(sc:Scope)(x:Str):Prop:=sc.names.lookup x=some .local\/sc.names.lookup x=some .cell
def dV3(env:Env)(h:Heap)(m:Str->Option Value)(x:Str)(u:Value):Prop:=
 (env.kindOf x=some .local/\m x=some u)\/((env.kindOf x=some .cell\/env.kindOf x=some .free)/\ ∃c,env.cells.lookup x=some c/\h.IsCell c (some u))
structure Cx.Ok(X:Cx):Prop where
 mod:Mod X.K X.mg X.base
 kind:X.env.scope.kind= .function
 glob:X.env.globals=mainGlobals
 blt:X.env.builtins=builtinsNs
 above:X.s₀.heap.objs.size<=X.env.locals
 inj:∀x y c,X.env.cells.lookup x=some c->X.env.cells.lookup y=some c->x=y
 has:∀x,(X.env.kindOf x=some .cell\/X.env.kindOf x=some .free)->∃c,X.env.cells.lookup x=some c
 cab:∀x c,X.fn x=true->X.env.cells.lookup x=some c->X.s₀.heap.objs.size<=c
 hd:X.calm=true->X.A.handled=none
 frames:X.A.frames=some X.stack
 stk:X.stack=X.outer\/(X.stack=X.env::X.outer/\X.env.frame=some X.env.locals)
 exf:∀b∈X.ex,b≠X.env.locals/\ ∀x c,X.env.cells.lookup x=some c->c≠b
 bs:∀b o,X.base.get? b=some o->X.s₀.heap.get? b=some o/\X.Ha b=none
 bsz:X.base.objs.size<=X.s₀.heap.objs.size
 noex:∀b o,X.base.get? b=some o->b∉X.ex
 exfs:∀b∈X.ex,b∉X.fs
 funs:X.s₀.heap.FunFrames X.base X.outer
 frf:∀b∈X.fs,X.Ha b=none
structure bE(X:Cx)(pc:List (Addr×Obj))(Y:List (Option V))(H:Hp)(s:Shared):Prop where
 ok:X.Ok
 os:s.os=X.s₀.os
 bare:AllBare s.gens
 base:Un X.fs X.ex X.Ha H X.s₀.heap s.heap
 loc:∃m,s.heap.Ns X.env.locals m/\ ∀(i:Nat) (x:Str) (v:V),X.N[i]? =some x->Y[i]? =some (some v)->Vis X.env.scope x->∃u,cG v u/\dV3 X.env s.heap m x u
 cell:∀x c,X.env.cells.lookup x=some c->∃v,s.heap.IsCell c v
 free:H X.env.locals=none
 freeC:∀x c,X.env.cells.lookup x=some c->H c=none
 pin:∀p∈X.pn++pc,s.heap.get? p.1=some p.2/\H p.1=none/\p.1≠X.env.locals/\p.1∉X.fs/\ ∀v,p.2.data≠ .cell v
 hok:jE X.prog X.w H s.heap
 len:Y.length=X.N.length
section
variable{X:Cx}{pc:List (Addr×Obj)}{Y:List (Option V)}{H H':Hp}{s:Shared}{h':Heap}
theorem Cx.Ok.nofr(ok:X.Ok){b:Addr}{o:Obj}(e:X.base.get? b=some o):b∉X.fs:=fun hb=>by
 have:=(ok.funs.mem hb).1
 rw[e]at this;cases this
theorem bE.bs(I:bE X pc Y H s):∀b o,X.base.get? b=some o->s.heap.get? b=some o/\H b=none:=fun b o e=>
 ⟨I.base.keep b o (I.ok.bs b o e).1 (I.ok.bs b o e).2 (I.ok.nofr e) (I.ok.noex b o e),I.base.free b o (I.ok.bs b o e).1 (I.ok.bs b o e).2 (I.ok.noex b o e)⟩
theorem bE.bk(I:bE X pc Y H s):∀b o,X.base.get? b=some o->s.heap.get? b=some o:=fun b o e=>(I.bs b o e).1
theorem bE.mod(I:bE X pc Y H s):Mod X.K X.mg X.base:=I.ok.mod
theorem bE.kIn(I:bE X pc Y H s):X.K.In s.heap:=I.ok.mod.kin.keeps I.bk
theorem bE.nolimit(I:bE X pc Y H s):s.heap.NoLimit:=I.ok.mod.nolimit.keeps I.bk
theorem bE.lt(I:bE X pc Y H s):X.env.locals<s.heap.objs.size:=let ⟨_,hn,_⟩:=I.loc;hn.lt
theorem bE.sz(I:bE X pc Y H s):X.s₀.heap.objs.size<=s.heap.objs.size:=le_trans I.ok.above (Nat.le_of_lt I.lt)
theorem bE.nofs(I:bE X pc Y H s){a:Addr}(h:s.heap.objs.size<=a):a∉X.fs:=fun hb=>by
 obtain⟨_,o,ho,_⟩:=I.ok.funs.mem hb
 exact absurd (lt_of_lt_of_le (lt_size ho) (le_trans I.sz h)) (lt_irrefl _)
theorem bE.cne(I:bE X pc Y H s):∀x c,X.env.cells.lookup x=some c->c≠X.env.locals:=fun x c e z=>by
 obtain⟨v,o,ho,hd⟩:=I.cell x c e
 obtain⟨m,⟨o',es,ep,ho',hd',_⟩,_⟩:=I.loc
 rw[z,ho']at ho;cases ho;rw[hd']at hd;cases hd
theorem bE.funs(I:bE X pc Y H s):s.heap.FunFrames X.base X.outer:=by
 have all:∀(l:List Env),(∀b∈lI l,b∈X.fs)->X.s₀.heap.FunFrames X.base l->s.heap.FunFrames X.base l:=by
  intro l
  induction l with
  |nil=>intro _ _;trivial
  |cons env r ih=>
   intro hs hl
   obtain⟨hk,⟨L,o,hf,hn,ho,hd⟩,hr⟩:=hl
   have hL:L∈X.fs:=hs L (by unfold lI;rw[List.filterMap_cons,hf];exact mem_cons_self)
   obtain⟨sl,e⟩:=I.base.slot L o ho (I.ok.frf L hL) hL fun z=>I.ok.exfs L z hL
   exact⟨hk,⟨L,_,hf,hn,e,hd⟩,ih (fun b hb=>hs b (by unfold lI;rw[List.filterMap_cons,hf];exact mem_cons_of_mem _ hb)) hr⟩
 exact all X.outer (fun _ hb=>hb) I.ok.funs
theorem bE.stack(I:bE X pc Y H s):s.heap.FunFrames X.base X.stack:=by
 rcases I.ok.stk with e|⟨e,hf⟩
 ·rw[e];exact I.funs
 ·rw[e]
  obtain⟨m,hn,_⟩:=I.loc
  refine .cons (by rw[I.ok.kind];decide) hf hn ?_ I.funs
  exact Heap.get?_none_of_le (le_trans I.ok.bsz I.ok.above)
theorem bE.stkSub(I:bE X pc Y H s):∀b∈lI X.stack,b∈X.env.locals::X.fs:=fun b hb=>by
 rcases I.ok.stk with e|⟨e,hf⟩
 ·rw[e]at hb;exact mem_cons_of_mem _ hb
 ·rw[e]at hb
  unfold lI at hb
  rw[List.filterMap_cons,hf]at hb
  exact hb
theorem bE.stkFree(I:bE X pc Y H s):∀b∈lI X.stack,H b=none:=fun b hb=>by
 rcases List.mem_cons.mp (I.stkSub b hb)with e|hb
 ·rw[e];exact I.free
 ·obtain⟨_,o,ho,_⟩:=I.ok.funs.mem hb
  exact I.base.free b o ho (I.ok.frf b hb) fun z=>I.ok.exfs b z hb
theorem bE.step{g':Array GenState}{t':Nat}{d':Drawn}{ch:List Addr}(I:bE X pc Y H s)
 (hch:∀b∈ch,(b∈X.ex\/X.s₀.heap.objs.size<=b)/\b≠X.env.locals/\(∀x c,X.env.cells.lookup x=some c->c≠b)/\ ∀p∈X.pn++pc,p.1≠b)
 (keep:∀b o,b≠X.env.locals->b∉X.fs->b∉ch->s.heap.get? b=some o->H b=none->h'.get? b=some o)
 (slot:∀b o,b≠X.env.locals->b∈X.fs->b∉ch->s.heap.get? b=some o->H b=none->∃sl,h'.get? b=some {o with slots:=sl}) (free:∀b o,b∉ch->s.heap.get? b=some o->H b=none->H' b=none)
 (there:∀b o,b∉ch->s.heap.get? b=some o->∃o',h'.get? b=some o')
 (tups:∀b xs,H b=some (.tup xs)->H' b=some (.tup xs)) (frzs:∀b o u,H b=some (.frz o u)->H' b=some (.frz o u)) (tbls:∀b ps,H b=some (.tbl ps)->∃more,H' b=some (.tbl (ps++more)))
 (ns:∀m,s.heap.Ns X.env.locals m->h'.Ns X.env.locals m) (hok:jE X.prog X.w H' h') (hg:AllBare g'):
 bE X pc Y H' {s with heap:=h',gens:=g',drawn:=d',toks:=t'}:=by
 have neL:∀b o,X.s₀.heap.get? b=some o->b≠X.env.locals:=fun b o e=>ne_of_lt (lt_of_lt_of_le (lt_size e) I.ok.above)
 have neC:∀b o,X.s₀.heap.get? b=some o->b∉X.ex->b∉ch:=fun b o e hx hb=>by
  rcases(hch b hb).1 with z|z
  ·exact hx z
  ·exact absurd (lt_of_lt_of_le (lt_size e) z) (lt_irrefl _)
 have cellK:∀x c,X.env.cells.lookup x=some c->∀v,s.heap.IsCell c v->h'.IsCell c v:=fun x c e v ⟨o,ho,hd⟩=>by
  have nch:c∉ch:=fun z=>(hch c z).2.2.1 x c e rfl
  by_cases hc:c∈X.fs
  ·obtain⟨sl,q⟩:=slot c o (I.cne x c e) hc nch ho (I.freeC x c e)
   exact⟨_,q,hd⟩
  ·exact⟨o,keep c o (I.cne x c e) hc nch ho (I.freeC x c e),hd⟩
 refine⟨I.ok,I.os,hg,⟨fun b o e n hb hx=>?_,fun b o e n hb hx=>?_,fun b o e n hx=>?_,fun b o e hx=>?_,fun b xs e=>tups b xs (I.base.tups b xs e),fun b o xs e=>frzs b o xs (I.base.frzs b o xs e),fun b ps e=>?_⟩,?_,fun x c e=>?_,?_,fun x c e=>?_,fun p hp=>?_,hok,I.len⟩
 ·exact keep b o (neL b o e) hb (neC b o e hx) (I.base.keep b o e n hb hx) (I.base.free b o e n hx)
 ·obtain⟨sl,e1⟩:=I.base.slot b o e n hb hx
  obtain⟨sl',e2⟩:=slot b _ (neL b o e) hb (neC b o e hx) e1 (I.base.free b o e n hx)
  exact⟨sl',e2⟩
 ·obtain⟨o',e1⟩:=I.base.there b o e hx
  exact free b o' (neC b o e hx) e1 (I.base.free b o e n hx)
 ·obtain⟨o',e1⟩:=I.base.there b o e hx
  exact there b o' (neC b o e hx) e1
 ·obtain⟨m1,e1⟩:=I.base.tbls b ps e
  obtain⟨m2,e2⟩:=tbls b _ e1
  exact⟨m1++m2,by rw[e2,Array.append_assoc]⟩
 ·obtain⟨m,hn,hl⟩:=I.loc
  refine⟨m,ns m hn,fun i x v e1 e2 e3=>?_⟩
  obtain⟨u,r,l⟩:=hl i x v e1 e2 e3
  refine⟨u,r,?_⟩
  rcases l with l|⟨k,c,e,z⟩
  ·exact .inl l
  ·exact .inr ⟨k,c,e,cellK x c e _ z⟩
 ·obtain⟨v,z⟩:=I.cell x c e
  exact⟨v,cellK x c e v z⟩
 ·obtain⟨m,⟨o,_,_,ho,_⟩,_⟩:=I.loc
  exact free _ o (fun z=>(hch _ z).2.1 rfl) ho I.free
 ·obtain⟨v,o,ho,hd⟩:=I.cell x c e
  exact free c o (fun z=>(hch c z).2.2.1 x c e rfl) ho (I.freeC x c e)
 ·obtain⟨e,n,ne,nf,d⟩:=I.pin p hp
  have nch:p.1∉ch:=fun z=>(hch p.1 z).2.2.2 p hp rfl
  exact⟨keep p.1 p.2 ne nf nch e n,free p.1 p.2 nch e n,ne,nf,d⟩
theorem bE.un{t':Nat}(I:bE X pc Y H s)(u:Un X.fs [] H H' s.heap h')(hok:jE X.prog X.w H' h'):bE X pc Y H' {s with heap:=h',toks:=t'}:=by
 obtain⟨m,⟨o,es,ep,ho,r⟩,_⟩:=id I.loc
 obtain⟨sl,hL⟩:=u.any ho I.free (by simp)
 exact I.step (g':=s.gens) (d':=s.drawn) (ch:=[]) (fun _ z=>nomatch z) (fun b o _ hb _ e n=>u.keep b o e n hb (by simp)) (fun b o _ hb _ e n=>u.slot b o e n hb (by simp)) (fun b o _ e n=>u.free b o e n (by simp)) (fun b o _ e=>u.there b o e (by simp)) u.tups u.frzs u.tbls (fun m' hm=>by
  obtain⟨o',es',ep',ho',r'⟩:=hm
  rw[ho]at ho';cases ho'
  exact⟨_,es',ep',hL,r'⟩) hok I.bare
theorem bE.call{g':Array GenState}{t':Nat}{d':Drawn}{ch:List Addr}(I:bE X pc Y H s)(u:Un (lI X.stack) ch H H' s.heap h')(hok:jE X.prog X.w H' h')(hg:AllBare g')
 (hch:∀b∈ch,(b∈X.ex\/X.s₀.heap.objs.size<=b)/\b≠X.env.locals/\(∀x c,X.env.cells.lookup x=some c->c≠b)/\ ∀p∈X.pn++pc,p.1≠b):
 bE X pc Y H' {s with heap:=h',gens:=g',drawn:=d',toks:=t'}:=by
 obtain⟨m,⟨o,es,ep,ho,r⟩,_⟩:=id I.loc
 obtain⟨sl,hL⟩:=u.any ho I.free fun z=>(hch _ z).2.1 rfl
 exact I.step (ch:=ch) hch (fun b o hL hb hc e n=>u.keep b o e n (fun z=>(List.mem_cons.mp (I.stkSub b z)).elim hL hb) hc) (fun b o _ _ hc e n=>u.any e n hc) (fun b o hc e n=>u.free b o e n hc) (fun b o hc e=>u.there b o e hc) u.tups u.frzs u.tbls (fun m' hm=>by
  obtain⟨o',es',ep',ho',r'⟩:=hm
  rw[ho]at ho';cases ho'
  exact⟨_,es',ep',hL,r'⟩) hok hg
theorem bE.turned{t':Nat}{it:Addr}(I:bE X pc Y H s)(k:∀b o,b≠it->s.heap.get? b=some o->h'.get? b=some o)(hn:H it=none)(hL:it≠X.env.locals)
 (h1:it∈X.ex\/X.s₀.heap.objs.size<=it) (h2:∀x c,X.env.cells.lookup x=some c->c≠it) (h3:∀p∈X.pn++pc,p.1≠it):bE X pc Y H {s with heap:=h',toks:=t'}:=by
 have nit:∀b u,H b=some u->b≠it:=fun b u e z=>by rw[z,hn]at e;cases e
 refine I.step (g':=s.gens) (d':=s.drawn) (ch:=[it]) (fun b hb=>?_) (fun b o _ _ hc e _=>k b o (fun z=>hc (by simp[z])) e) (fun b o _ _ hc e _=>⟨o.slots,k b o (fun z=>hc (by simp[z])) e⟩) (fun _ _ _ _ n=>n)
  (fun b o hc e=>⟨o,k b o (fun z=>hc (by simp[z])) e⟩) (fun _ _ e=>e) (fun _ _ _ e=>e) (fun b ps e=>⟨#[],by rw[e];simp⟩) (fun m hm=>?_) (fun b u e=>?_) I.bare
 ·have e:b=it:=by simpa using hb
  subst e
  exact⟨h1,hL,h2,h3⟩
 ·obtain⟨o,es,ep,ho,r⟩:=hm
  exact⟨o,es,ep,k _ o (symm hL) ho,r⟩
 ·refine(I.hok b u e).stay (fun c v hc q=>k c v ?_ q) (fun _ q=>q) fun _ _ q=>q
  rcases hc with z|z
  ·rw[z];exact nit b u e
  ·exact nit c _ z
theorem bE.tok(I:bE X pc Y H s)(t:Nat):bE X pc Y H {s with toks:=t}:=I.un (h':=s.heap) (t':=t) Un.refl I.hok
theorem bE.kept{t':Nat}(I:bE X pc Y H s)(k:∀b u,s.heap.get? b=some u->h'.get? b=some u):bE X pc Y H {s with heap:=h',toks:=t'}:=I.un (Un.kept k) (I.hok.kept k)
theorem bE.laid{a:Addr}{o:HO}{t':Nat}(I:bE X pc Y H s)(k:∀b u,s.heap.get? b=some u->h'.get? b=some u)(hp:s.heap.objs.size<=a)(new:mX X.prog X.w (upd H a o) h' a o):
 bE X pc Y (upd H a o) {s with heap:=h',toks:=t'}:=I.un (Un.laid k hp (I.hok.fresh hp)) (I.hok.laid k hp new)
theorem bE.write{x e:Addr}{o:HO}{t':Nat}(I:bE X pc Y H s)(mu:Mut (H x))(he:e=x\/H e=some (.own x))(k:∀b u,b≠e->s.heap.get? b=some u->h'.get? b=some u)(heo:∃u,h'.get? e=some u)
 (new:mX X.prog X.w (upd H x o) h' x o):bE X pc Y (upd H x o) {s with heap:=h',toks:=t'}:=I.un (Un.write mu he k heo) (I.hok.write mu he k heo new)
theorem bE.pins_of{pins':List (Addr×Obj)}(I:bE X pc Y H s)(h:∀p∈pins',s.heap.get? p.1=some p.2/\H p.1=none/\p.1≠X.env.locals/\p.1∉X.fs/\ ∀v,p.2.data≠ .cell v):bE X pins' Y H s:=
 ⟨I.ok,I.os,I.bare,I.base,I.loc,I.cell,I.free,I.freeC,fun p hp=>(List.mem_append.mp hp).elim (fun z=>I.pin p (List.mem_append_left _ z)) (h p),I.hok,I.len⟩
theorem cQ8{N:List Str}(hN:N.Nodup){i j:Nat}{x:Str}(a:N[i]? =some x)(b:N[j]? =some x):i=j:=by
 obtain⟨h1,e1⟩:=List.getElem?_eq_some_iff.mp a
 obtain⟨h2,e2⟩:=List.getElem?_eq_some_iff.mp b
 exact(List.getElem_inj hN).mp (e1.trans e2.symm)
theorem cQ9{M:Model}{A:Around}{E:Value->Shared->Prop}{i:Nat}{x:Str}{v:V}{u:Value}{Q:Unit->Shared->Prop}(I:bE X pc Y H s)(hN:X.N.Nodup)(hi:X.N[i]? =some x)(hx:Loc X.env.scope x)(r:cG v u)
 (h:∀s',bE X pc (Y.set i (some v)) H s'->(∃a,Heap.SameBut a s.heap s'.heap/\(a=X.env.locals\/X.env.cells.lookup x=some a))->Q () s') (hf:X.fn x=true\/X.env.scope.names.lookup x=some .local:=by first|exact .inl rfl|exact .inr rfl|assumption):wpAny M A (storeName X.env x u) Q E s:=by
 obtain⟨m,hn,hl⟩:=id I.loc
 have hcls:(X.env.scope.kind== .class||(X.env.scope.kind== .module&&X.env.locals != X.env.globals))=false:=by rw[I.ok.kind];rfl
 have hiσ:i<Y.length:=by rw[I.len];exact(List.getElem?_eq_some_iff.mp hi).1
 have cne:=I.cne
 have tracked:∀{a:Addr} {h':Heap},(∃o,s.heap.get? a=some o/\H a=none)->Heap.SameBut a s.heap h'->jE X.prog X.w H h':=fun{a h'} ha hs b ob e=>by
  obtain⟨_,_,hfree⟩:=ha
  refine(I.hok b ob e).stay (fun c w' hc q=>(hs.2 c ?_).trans q) (fun _ q=>q) fun _ _ q=>q
  rintro rfl
  rcases hc with rfl|hc
  ·rw[hfree]at e;cases e
  ·rw[hfree]at hc;cases hc
 rcases hx with hk|hk
 ·refine wpAny_storeName_local hk hn (fun h' hn' hs=>?_) hcls
  obtain⟨oL,_,_,hoL,_⟩:=id hn
  refine h _ ⟨I.ok,I.os,I.bare,⟨fun b o e n hb hx=>?_,fun b o e n hb hx=>?_,I.base.free,fun b o e hx=>?_,I.base.tups,I.base.frzs,I.base.tbls⟩,⟨_,hn',fun j y v' e1 e2 e3=>?_⟩,fun y c e=>?_,I.free,I.freeC,fun p hp=>?_,tracked ⟨oL,hoL,I.free⟩ hs,by simpa using I.len⟩ ⟨_,hs,.inl rfl⟩
  ·exact(hs.2 b (ne_of_lt (lt_of_lt_of_le (lt_size e) I.ok.above))).trans (I.base.keep b o e n hb hx)
  ·obtain⟨sl,e1⟩:=I.base.slot b o e n hb hx
   exact⟨sl,(hs.2 b (ne_of_lt (lt_of_lt_of_le (lt_size e) I.ok.above))).trans e1⟩
  ·obtain⟨o',e1⟩:=I.base.there b o e hx
   exact⟨o',(hs.2 b (ne_of_lt (lt_of_lt_of_le (lt_size e) I.ok.above))).trans e1⟩
  ·by_cases hj:j=i
   ·subst hj
    rw[hi]at e1;cases e1
    rw[getElem?_set_self hiσ]at e2
    cases e2
    exact⟨u,r,.inl ⟨hk,by simp⟩⟩
   ·rw[getElem?_set_ne (symm hj)]at e2
    obtain⟨u',r',q⟩:=hl j y v' e1 e2 e3
    refine⟨u',r',?_⟩
    rcases q with⟨k,e⟩|⟨k,c,e,z⟩
    ·refine .inl ⟨k,?_⟩
     have:y≠x:=fun e=>hj (cQ8 hN e1 (e▸hi))
     simp[this,e]
    ·exact .inr ⟨k,c,e,z.sameBut hs (cne y c e)⟩
  ·obtain⟨w',z⟩:=I.cell y c e
   exact⟨w',z.sameBut hs (cne y c e)⟩
  ·obtain⟨e,n,ne,nf,d⟩:=I.pin p hp
   exact⟨(hs.2 p.1 ne).trans e,n,ne,nf,d⟩
 ·have hfn:X.fn x=true:=by
   rcases hf with z|z
   ·exact z
   ·rw[z]at hk;cases hk
  obtain⟨c,hc⟩:=I.ok.has x (.inl hk)
  obtain⟨w',z⟩:=I.cell x c hc
  refine wpAny_storeName_cell I.ok.kind hk hc z (fun h' hc' hs=>?_)
  obtain⟨oc,hoc,hocd⟩:=id z
  refine h {s with heap:=h'} ⟨I.ok,I.os,I.bare,⟨fun b o e n hb hx=>?_,fun b o e n hb hx=>?_,I.base.free,fun b o e hx=>?_,I.base.tups,I.base.frzs,I.base.tbls⟩,⟨m,hn.sameBut hs (symm (cne x c hc)),fun j y v' e1 e2 e3=>?_⟩,fun y c' e=>?_,I.free,I.freeC,fun p hp=>?_,tracked ⟨oc,hoc,I.freeC x c hc⟩ hs,by simpa using I.len⟩ ⟨c,hs,.inr hc⟩
  ·exact(hs.2 b (ne_of_lt (lt_of_lt_of_le (lt_size e) (I.ok.cab x c hfn hc)))).trans (I.base.keep b o e n hb hx)
  ·obtain⟨sl,e1⟩:=I.base.slot b o e n hb hx
   exact⟨sl,(hs.2 b (ne_of_lt (lt_of_lt_of_le (lt_size e) (I.ok.cab x c hfn hc)))).trans e1⟩
  ·obtain⟨o',e1⟩:=I.base.there b o e hx
   exact⟨o',(hs.2 b (ne_of_lt (lt_of_lt_of_le (lt_size e) (I.ok.cab x c hfn hc)))).trans e1⟩
  ·by_cases hj:j=i
   ·subst hj
    rw[hi]at e1;cases e1
    rw[getElem?_set_self hiσ]at e2
    cases e2
    exact⟨u,r,.inr ⟨.inl hk,c,hc,hc'⟩⟩
   ·rw[getElem?_set_ne (symm hj)]at e2
    obtain⟨u',r',q⟩:=hl j y v' e1 e2 e3
    refine⟨u',r',?_⟩
    rcases q with q|⟨k,c',e,z'⟩
    ·exact .inl q
    ·refine .inr ⟨k,c',e,z'.sameBut hs ?_⟩
     rintro rfl
     exact hj (cQ8 hN e1 (I.ok.inj _ _ _ e hc▸hi))
  ·by_cases hcc:c'=c
   ·subst hcc;exact⟨_,hc'⟩
   ·obtain⟨w2,z2⟩:=I.cell y c' e
    exact⟨w2,z2.sameBut hs hcc⟩
  ·obtain⟨e,n,ne,nf,d⟩:=I.pin p hp
   refine⟨(hs.2 p.1 ?_).trans e,n,ne,nf,d⟩
   intro q
   rw[q,hoc]at e
   have q':oc=p.2:=Option.some.inj e
   exact d w' (by rw[<-q'];exact hocd)
theorem bZ6{M:Model}{A:Around}{E:Value->Shared->Prop}{i:Nat}{x:Str}{v:V}{u:Value}{Q:Unit->Shared->Prop}(I:bE X pc Y H s)(hN:X.N.Nodup)(hi:X.N[i]? =some x)(hx:Loc X.env.scope x)(r:cG v u)
 (h:∀s',bE X pc (Y.set i (some v)) H s'->Q () s') (hf:X.fn x=true\/X.env.scope.names.lookup x=some .local:=by first|exact .inl rfl|exact .inr rfl|assumption):wpAny M A (storeName X.env x u) Q E s:=
 cQ9 I hN hi hx r (fun s' I' _=>h s' I') hf
theorem bE.call'{s':Shared}{ch:List Addr}(I:bE X pc Y H s)(ho:s'.os=s.os)(u:Un (lI X.stack) ch H H' s.heap s'.heap)(hok:jE X.prog X.w H' s'.heap)(hg:AllBare s'.gens)
 (hch:∀b∈ch,(b∈X.ex\/X.s₀.heap.objs.size<=b)/\b≠X.env.locals/\(∀x c,X.env.cells.lookup x=some c->c≠b)/\ ∀p∈X.pn++pc,p.1≠b):bE X pc Y H' s':=by
 obtain⟨h',g',d',t',o'⟩:=s'
 have e:o'=s.os:=ho
 subst e
 exact I.call (g':=g') (t':=t') (d':=d') u hok hg hch
end
abbrev XK:=Value->Option Addr->Hp->Prop
noncomputable abbrev St:=List (Option V)
abbrev VK:=V->Hp->Prop
abbrev TE:=St->Hp->VK->Prop
abbrev TT:=St->Hp->(Bool->Hp->Prop)->Prop
abbrev TA:=St->Hp->(List V->Hp->Prop)->Prop
structure pZ where
 nx:St->Hp->Prop
 rt:VK
 bk:St->Hp->Prop:=fun _ _=>False
 ct:St->Hp->Prop:=fun _ _=>False
abbrev TS:=pZ->St->Hp->Prop
def EP(X:Cx)(pc:List (Addr×Obj))(Y:St)(Q:VK)(u:Value)(s':Shared):Prop:=∃v H',bE X pc Y H' s'/\cG v u/\Q v H'
def TP(X:Cx)(pc:List (Addr×Obj))(Y:St)(Q:Bool->Hp->Prop)(b:Bool)(s':Shared):Prop:=∃H',bE X pc Y H' s'/\Q b H'
def AP(X:Cx)(pc:List (Addr×Obj))(Y:St)(Q:List V->Hp->Prop)(us:List Value)(s':Shared):Prop:=∃vs H',bE X pc Y H' s'/\bV vs us/\Q vs H'
def SP(X:Cx)(pc:List (Addr×Obj))(D:pZ)(f:Flow)(s':Shared):Prop:=
 match f with
 | .next=>∃σ' H',bE X pc σ' H' s'/\D.nx σ' H'
 | .brk=>∃σ' H',bE X pc σ' H' s'/\D.bk σ' H'
 | .cont=>∃σ' H',bE X pc σ' H' s'/\D.ct σ' H'
 | .ret u=>∃v σ' H',bE X pc σ' H' s'/\cG v u/\D.rt v H'
def PE(X:Cx)(e:Expr)(t:TE):Prop:=
 ∀(pc:List (Addr×Obj)) (s:Shared) (Y:St) (H:Hp) (Q:VK),bE X pc Y H s->t Y H Q->wpAny (model X.prog X.w) X.A (eval e X.env) (EP X pc Y Q) X.xe s
def PT(X:Cx)(e:Expr)(t:TT):Prop:=
 ∀(pc:List (Addr×Obj)) (s:Shared) (Y:St) (H:Hp) (Q:Bool->Hp->Prop),bE X pc Y H s->t Y H Q->wpAny (model X.prog X.w) X.A (isTrue e X.env (eval e X.env)) (TP X pc Y Q) X.xe s
def PW(X:Cx)(e:Expr)(t:TT):Prop:=
 ∀(whole:Sem Value) (pc:List (Addr×Obj)) (s:Shared) (Y:St) (H:Hp) (Q:Bool->Hp->Prop),bE X pc Y H s->t Y H Q->wpAny (model X.prog X.w) X.A (isTrue e X.env whole) (TP X pc Y Q) X.xe s
theorem PW.pt{X:Cx}{e:Expr}{t:TT}(h:PW X e t):PT X e t:=h _
def PA(X:Cx)(es:List Expr)(t:TA):Prop:=
 ∀(pos:Pos) (pc:List (Addr×Obj)) (s:Shared) (Y:St) (H:Hp) (Q:List V->Hp->Prop),bE X pc Y H s->t Y H Q->wpAny (model X.prog X.w) X.A (spliced (backTo pos (starEach es X.env))) (AP X pc Y Q) X.xe s
def PS(X:Cx)(st:Stmt)(t:TS):Prop:=
 ∀(pc:List (Addr×Obj)) (s:Shared) (Y:St) (H:Hp) (D:pZ),bE X pc Y H s->t D Y H->wpAny (model X.prog X.w) X.A (exec st X.env) (SP X pc D) X.xe s
def lJ(X:Cx)(st:List Stmt)(t:TS):Prop:=
 ∀(pc:List (Addr×Obj)) (s:Shared) (Y:St) (H:Hp) (D:pZ),bE X pc Y H s->t D Y H->wpAny (model X.prog X.w) X.A (execs st X.env) (SP X pc D) X.xe s
theorem bX{α:Type}{t:Sem α}{Q Q':α->Shared->Prop}{M:Model}{A:Around}{E:Value->Shared->Prop}{s:Shared}(h:wpAny M A t Q E s)(hQ:∀a s,Q a s->Q' a s):wpAny M A t Q' E s:=wpAny_mono h hQ fun _ _ x=>x
end L2
namespace L2
open PySem PySem.Spec PyProof.Rows
section
variable{X:Cx}
noncomputable def cR0(i:Nat):TE:=fun Y H Q=>∃v,Y[i]? =some (some v)/\Q v H
noncomputable def tC(v:V):TE:=fun _ H Q=>Q v H
theorem nK{i:Nat}{x:Str}{pos:Pos}(hN:X.N[i]? =some x)(hv:Vis X.env.scope x)(hd:(x==("__debug__" :Str))=false:=by decide)(hcd:(x==("__classdict__" :Str))=false:=by decide):PE X (.Name x pos) (cR0 i):=by
 intro pc s Y H Q I h
 obtain⟨v,e,h⟩:=h
 obtain⟨m,hn,hl⟩:=I.loc
 obtain⟨u,r,l⟩:=hl i x v hN e hv
 have cZ:EP X pc Y Q u s:=⟨v,H,I,r,h⟩
 rcases l with⟨hk,hm⟩|⟨hk,c,hc,hcell⟩
 ·exact wpAny_Name (wpAny_loadName_local I.ok.kind hk hn hm cZ) hd
 ·rcases hk with hk|hk
  ·exact wpAny_Name (wpAny_loadName_cell I.ok.kind hk hc hcell cZ) hd
  ·exact wpAny_Name (wpAny_loadName_free I.ok.kind hk hc hcell cZ hcd) hd
theorem bZ7{i j pos}:PE X (.Constant (.int i) j pos) (tC (.int i)):=fun _ _ _ H _ I h=>wpAny_Constant_int ⟨.int i,H,I.tok _,⟨_,rfl⟩,h⟩
theorem dV4{b j pos}:PE X (.Constant (.bool b) j pos) (tC (.bl b)):=fun _ _ _ H _ I h=>Constant_bool ⟨.bl b,H,I,rfl,h⟩
theorem dV5{j pos}:PE X (.Constant .none j pos) (tC .non):=fun _ _ _ H _ I h=>Constant_none ⟨.non,H,I,rfl,h⟩
theorem dV6{x j pos}:PE X (.Constant (.str x) j pos) (tC (.str x)):=fun _ _ _ H _ I h=>Calls.Constant_str ⟨.str x,H,I.tok _,⟨_,rfl⟩,h⟩
def Gl(X:Cx)(x:Str):Prop:=X.env.kindOf x=some .globalImplicit
theorem bN3{E:Value->Shared->Prop}{pc:List (Addr×Obj)}{s:Shared}{Y:St}{H:Hp}{x:Str}{u:Value}{pos:Pos}{Q:Value->Shared->Prop}(I:bE X pc Y H s)(hg:Gl X x)(hm:X.mg x=some u)(h:Q u s)
 (hd:(x==("__debug__" :Str))=false:=by decide):wpAny (model X.prog X.w) X.A (eval (.Name x pos) X.env) Q E s:=
 Calls.Name_function_global I.ok.kind hg (Calls.loadGlobal_global (by rw[I.ok.glob];exact I.mod.glob.keeps I.bk) hm h) hd
theorem zK{E:Value->Shared->Prop}{pc:List (Addr×Obj)}{s:Shared}{Y:St}{H:Hp}{x:Str}{u:Value}{pos:Pos}{Q:Value->Shared->Prop}(I:bE X pc Y H s)(hg:Gl X x)(hm:X.mg x=none)(hv:bootBuiltins x=some u)(h:Q u s)
 (hn:x≠ "__name__" :=by decide) (hd:(x==("__debug__" :Str))=false:=by decide):wpAny (model X.prog X.w) X.A (eval (.Name x pos) X.env) Q E s:=by
 obtain⟨mb,h1,h2⟩:=I.mod.blt
 exact Calls.Name_function_global I.ok.kind hg (Calls.loadGlobal_builtin (by rw[I.ok.glob];exact I.mod.glob.keeps I.bk) hm (by rw[I.ok.blt];exact h1.keeps I.bk) ((h2 x hn).trans hv) h) hd
theorem bF5{x:Str}{v:V}{u:Value}{pos:Pos}(hg:Gl X x)(hm:X.mg x=some u)(r:cG v u)(hd:(x==("__debug__" :Str))=false:=by decide):PE X (.Name x pos) (tC v):=
 fun _ _ _ H _ I h=>bN3 I hg hm ⟨v,H,I,r,h⟩ hd
theorem dV7{x:Str}{v:V}{u:Value}{pos:Pos}(hg:Gl X x)(hm:X.mg x=none)(hv:bootBuiltins x=some u)(r:cG v u)(hn:x≠ "__name__" :=by decide)(hd:(x==("__debug__" :Str))=false:=by decide):PE X (.Name x pos) (tC v):=
 fun _ _ _ H _ I h=>zK I hg hm hv ⟨v,H,I,r,h⟩ hn hd
variable{a b:Expr}{ta tb:TE}{pos:Pos}
variable{tA tB':TT}{rest:List Expr}
noncomputable def dV8(t u:TT):TT:=fun Y H Q=>t Y H fun c H1=>if c=true then u Y H1 Q else Q false H1
noncomputable def tOr(t u:TT):TT:=fun Y H Q=>t Y H fun c H1=>if c=true then Q true H1 else u Y H1 Q
noncomputable def dW0(t:TT):TT:=fun Y H Q=>t Y H fun c H1=>Q (!c) H1
theorem dW1(ha:PT X a tA):PW X (.BoolOp .And [a] pos) tA:=by
 intro wh pc s Y H Q I h
 refine isTrue_and (bX (ha pc s Y H Q I h) fun c s1 e=>?_)
 cases c with
 |true=>exact isTrue_and_nil e
 |false=>exact e
theorem dW2(ha:PT X a tA):PW X (.BoolOp .Or [a] pos) tA:=by
 intro wh pc s Y H Q I h
 refine isTrue_or (bX (ha pc s Y H Q I h) fun c s1 e=>?_)
 cases c with
 |false=>exact isTrue_or_nil e
 |true=>exact e
theorem dW3(ha:PT X a tA)(hb:PW X (.BoolOp .And (b::rest) pos) tB'):PW X (.BoolOp .And (a::b::rest) pos) (dV8 tA tB'):=by
 intro wh pc s Y H Q I h
 refine isTrue_and (bX (ha pc s Y H _ I h) fun c s1 ⟨H1,I1,q1⟩=>?_)
 cases c with
 |true=>exact hb wh pc s1 Y H1 Q I1 q1
 |false=>exact⟨H1,I1,q1⟩
theorem dW4(ha:PT X a tA)(hb:PW X (.BoolOp .Or (b::rest) pos) tB'):PW X (.BoolOp .Or (a::b::rest) pos) (tOr tA tB'):=by
 intro wh pc s Y H Q I h
 refine isTrue_or (bX (ha pc s Y H _ I h) fun c s1 ⟨H1,I1,q1⟩=>?_)
 cases c with
 |true=>exact⟨H1,I1,q1⟩
 |false=>exact hb wh pc s1 Y H1 Q I1 q1
theorem dW5(ha:PT X a tA):PT X (.UnaryOp .Not a pos) (dW0 tA):=by
 intro pc s Y H Q I h
 exact isTrue_not (ha pc s Y H (fun c H1=>Q (!c) H1) I h)
noncomputable def dW6(ta tb:TE):TE:=fun Y H Q=>ta Y H fun x H1=>∃c,x= .bl c/\if c=true then tb Y H1 Q else Q (.bl false) H1
noncomputable def dW7(ta:TE):TE:=fun Y H Q=>ta Y H fun x H1=>∃c,x= .bl c/\Q (.bl (!c)) H1
theorem dW8{op}{t:TE}(h:PE X a t):PE X (.BoolOp op [a] pos) t:=fun pc s Y H Q I hw=>BoolOp_one (h pc s Y H Q I hw)
theorem dW9(ha:PE X a ta)(hb:PE X (.BoolOp .And (b::rest) pos) tb):PE X (.BoolOp .And (a::b::rest) pos) (dW6 ta tb):=by
 intro pc s Y H Q I h
 refine BoolOp_and (bX (ha pc s Y H _ I h) fun v s1 ⟨x,H1,I1,r1,q1⟩=>?_)
 obtain⟨c,rfl,q1⟩:=q1
 cases r1
 refine wpAny_truthy_bool ?_
 cases c with
 |true=>exact hb pc s1 Y H1 Q I1 q1
 |false=>exact⟨.bl false,H1,I1,rfl,q1⟩
theorem dX0(ha:PE X a ta):PE X (.UnaryOp .Not a pos) (dW7 ta):=by
 intro pc s Y H Q I h
 refine UnaryOp_ (bX (ha pc s Y H _ I h) fun v s1 ⟨x,H1,I1,r1,q1⟩=>?_)
 obtain⟨c,rfl,q1⟩:=q1
 cases r1
 exact not_of (wpAny_truthy_bool ⟨.bl (!c),H1,I1,rfl,q1⟩)
noncomputable def tIf(t:TT)(ta tb:TE):TE:=fun Y H Q=>t Y H fun c H1=>if c=true then ta Y H1 Q else tb Y H1 Q
theorem cR1{c:Expr}(hc:PT X c tA)(ha:PE X a ta)(hb:PE X b tb):PE X (.IfExp c a b pos) (tIf tA ta tb):=by
 intro pc s Y H Q I h
 refine wpAny_IfExp (bX (hc pc s Y H _ I h) fun d s1 ⟨H1,I1,q1⟩=>?_)
 cases d with
 |true=>exact ha pc s1 Y H1 Q I1 q1
 |false=>exact hb pc s1 Y H1 Q I1 q1
end
end L2
namespace L2
open PySem PySem.Spec PyProof.Rows
def dO(K:W.Frag)(H:Hp)(a:Addr)(xs:List V):Prop:=
 Rd H a (.lst xs)\/
  ∃(o:Obj) (its:Array Value) (n:Nat),K.lookup a=some o/\o.cls= .type "list" /\o.dict=none/\o.data= .seq its n/\its.size<=sizeLine/\bV xs its.toList
def gL(K:W.Frag)(H:Hp)(a:Addr)(xs:List V):Prop:=
 Rd H a (.tup xs)\/
  ∃(o:Obj) (its:Array Value) (n:Nat),K.lookup a=some o/\o.cls= .type "tuple" /\o.data= .seq its n/\its.size<=sizeLine/\bV xs its.toList
noncomputable def dX2:Value->Option V
 | .none=>some .non
 | .bool b=>some (.bl b)
 | .int i _=>some (.int i)
 | .str x _=>some (.str x)
 | .bytes b _=>some (.byt b)
 | .float b _=>some (.flt b)
 | .ref a=>some (.ref a)
 | .type n=>some (.ty n)
 |_=>none
theorem cG.abs{x:V}{u:Value}(r:cG x u):dX2 u=some x:=by
 cases x with
 |non=>cases r;rfl
 |bl _=>cases r;rfl
 |int _=>obtain⟨t,rfl⟩:=r;rfl
 |str _=>obtain⟨t,rfl⟩:=r;rfl
 |byt _=>obtain⟨t,rfl⟩:=r;rfl
 |flt _=>obtain⟨t,rfl⟩:=r;rfl
 |ref _=>cases r;rfl
 |ty _=>cases r;rfl
theorem cG.inj{x y:V}{u:Value}(r:cG x u)(q:cG y u):x=y:=Option.some.inj (r.abs.symm.trans q.abs)
theorem bV.inj:∀{xs ys:List V} {us:List Value},bV xs us->bV ys us->xs=ys
 |_,_,_,.nil,.nil=>rfl
 |_,_,_,.cons r t,.cons r' t'=>by rw[r.inj r',bV.inj t t']
section
variable{X:Cx}{pc:List (Addr×Obj)}{Y:St}{H:Hp}{s:Shared}{a:Addr}{xs ys:List V}
theorem dO.of{K:W.Frag}(h:H a=some (.lst xs)):dO K H a xs:=.inl (.inl h)
theorem gL.of{K:W.Frag}(h:H a=some (.tup xs)):gL K H a xs:=.inl (.inl h)
theorem bE.list(I:bE X pc Y H s)(h:dO X.K H a xs):∃its:List Value,bV xs its/\PlainL s.heap a its.toArray/\xs.length<=sizeLine:=by
 rcases h with h|⟨o,its,n,hk,hc,hd,hs,hz,r⟩
 ·obtain⟨z,its,n,r,e⟩:=h.ok I.hok
  exact⟨its,r,⟨_,n,e,rfl,rfl,rfl⟩,z⟩
 ·refine⟨its.toList,r,⟨o,n,I.kIn a o hk,hc,hd,by simpa using hs⟩,?_⟩
  have e:=r.length
  simp only[Array.length_toList]at e
  omega
theorem bE.tuple(I:bE X pc Y H s)(h:gL X.K H a xs):∃its:List Value,bV xs its/\IsTup s.heap a its.toArray/\xs.length<=sizeLine:=by
 rcases h with h|⟨o,its,n,hk,hc,hs,hz,r⟩
 ·obtain⟨z,its,r,p⟩:=h.ok I.hok
  exact⟨its,r,p,z⟩
 ·refine⟨its.toList,r,⟨o,I.kIn a o hk,hc,n,by simpa using hs⟩,?_⟩
  have e:=r.length
  simp only[Array.length_toList]at e
  omega
theorem bE.list_inj(I:bE X pc Y H s)(h:dO X.K H a xs)(h':dO X.K H a ys):xs=ys:=by
 obtain⟨its,r,⟨o,n,e,_,_,d⟩,_⟩:=I.list h
 obtain⟨its',r',⟨o',n',e',_,_,d'⟩,_⟩:=I.list h'
 rw[e]at e';cases e'
 rw[d]at d'
 injection d' with d1 _
 have:its=its':=by simpa using congrArg Array.toList d1
 subst this
 exact r.inj r'
theorem bE.tuple_inj(I:bE X pc Y H s)(h:gL X.K H a xs)(h':gL X.K H a ys):xs=ys:=by
 obtain⟨its,r,⟨o,e,_,n,d⟩,_⟩:=I.tuple h
 obtain⟨its',r',⟨o',e',_,n',d'⟩,_⟩:=I.tuple h'
 rw[e]at e';cases e'
 rw[d]at d'
 injection d' with d1 _
 have:its=its':=by simpa using congrArg Array.toList d1
 subst this
 exact r.inj r'
end
noncomputable abbrev Cx.wish(X:Cx)(E:Value->Shared->Prop):Cx:={X with xe:=E}
abbrev Cx.nox(X:Cx):Cx:=X.wish fun _ _=>False
theorem Cx.Ok.wish{X:Cx}(ok:X.Ok)(E:Value->Shared->Prop):(X.wish E).Ok:=
 ⟨ok.mod,ok.kind,ok.glob,ok.blt,ok.above,ok.inj,ok.has,ok.cab,ok.hd,ok.frames,ok.stk,ok.exf,ok.bs,ok.bsz,ok.noex,ok.exfs,ok.funs,ok.frf⟩
theorem Cx.Ok.unwish{X:Cx}{E:Value->Shared->Prop}(ok:(X.wish E).Ok):X.Ok:=
 ⟨ok.mod,ok.kind,ok.glob,ok.blt,ok.above,ok.inj,ok.has,ok.cab,ok.hd,ok.frames,ok.stk,ok.exf,ok.bs,ok.bsz,ok.noex,ok.exfs,ok.funs,ok.frf⟩
section
variable{X:Cx}{pc:List (Addr×Obj)}{Y:St}{H:Hp}{s:Shared}{E:Value->Shared->Prop}
theorem bE.wish(I:bE X pc Y H s)(E:Value->Shared->Prop):bE (X.wish E) pc Y H s:=⟨I.ok.wish E,I.os,I.bare,I.base,I.loc,I.cell,I.free,I.freeC,I.pin,I.hok,I.len⟩
theorem bE.unwish(I:bE (X.wish E) pc Y H s):bE X pc Y H s:=⟨I.ok.unwish,I.os,I.bare,I.base,I.loc,I.cell,I.free,I.freeC,I.pin,I.hok,I.len⟩
theorem SP.unwish{D:pZ}{f:Flow}{s':Shared}(h:SP (X.wish E) pc D f s'):SP X pc D f s':=by
 cases f with
 |next=>obtain⟨σ',H',I,q⟩:=h;exact⟨σ',H',I.unwish,q⟩
 |brk=>obtain⟨σ',H',I,q⟩:=h;exact⟨σ',H',I.unwish,q⟩
 |cont=>obtain⟨σ',H',I,q⟩:=h;exact⟨σ',H',I.unwish,q⟩
 |ret u=>obtain⟨v,σ',H',I,r,q⟩:=h;exact⟨v,σ',H',I.unwish,r,q⟩
theorem lJ.nox{st:List Stmt}{t:TS}(h:lJ X.nox st t):lJ X st t:=fun pc s Y H D I hw=>
 wpAny_mono (h pc s Y H D (I.wish _) hw) (fun _ _ q=>q.unwish) fun _ _ z=>elim z
end
section
variable{X:Cx}{st:Stmt}{rest:List Stmt}{t u:TS}{e:Expr}{te:TE}{pos:Pos}
noncomputable def cR2:TS:=fun D Y H=>D.nx Y H
noncomputable def dX3(t u:TS):TS:=fun D Y H=>t {D with nx:=u D} Y H
theorem dX4:lJ X [] cR2:=fun _ _ Y H _ I h=>wpAny_execs_nil ⟨Y,H,I,h⟩
theorem cR3(h1:PS X st t)(h2:lJ X rest u):lJ X (st::rest) (dX3 t u):=by
 intro pc s Y H D I h
 refine wpAny_execs_cons (bX (h1 pc s Y H {D with nx:=u D} I h) fun f s1 q=>?_)
 cases f with
 |next=>
  obtain⟨σ',H',I',q⟩:=q
  exact h2 pc s1 σ' H' D I' q
 |ret v=>exact q
 |brk=>exact q
 |cont=>exact q
theorem cR4(h1:PS X st t):lJ X [st] t:=by
 intro pc s Y H D I h
 refine wpAny_execs_cons (bX (h1 pc s Y H D I h) fun f s1 q=>?_)
 cases f with
 |next=>exact wpAny_execs_nil q
 |ret v=>exact q
 |brk=>exact q
 |cont=>exact q
theorem dX5:PS X (.Pass pos) cR2:=fun _ _ Y H _ I h=>wpAny_Pass ⟨Y,H,I,h⟩
theorem bE.quiet{pc:List (Addr×Obj)}{Y:St}{H:Hp}{s:Shared}(I:bE X pc Y H s):interactive X.env=false:=by simp[interactive,I.ok.kind]
noncomputable def dX6(te:TE):TS:=fun D Y H=>te Y H fun _ H1=>D.nx Y H1
theorem bF6(he:PE X e te)(hs:swapsWith e none pos.line X.env=pure false:=by rfl):PS X (.Expr e pos) (dX6 te):=by
 intro pc s Y H D I h
 exact wpAny_Expr_any (bX (he pc s Y H _ I h) fun v s1 ⟨x,H1,I1,r1,q1⟩=>⟨Y,H1,I1,q1⟩) I.quiet hs
noncomputable def dX7(te:TE):TS:=fun D Y H=>te Y H D.rt
theorem cR5(he:PE X e te):PS X (.Return (some e) pos) (dX7 te):=by
 intro pc s Y H D I h
 exact wpAny_Return_some (bX (he pc s Y H _ I h) fun v s1 ⟨x,H1,I1,r1,q1⟩=>⟨x,Y,H1,I1,r1,q1⟩)
noncomputable def dX8(c:TT)(t u:TS):TS:=fun D Y H=>c Y H fun b H1=>if b=true then t D Y H1 else u D Y H1
theorem dX9{c:Expr}{a b:List Stmt}{tc:TT}(hc:PT X c tc)(ha:lJ X a t)(hb:lJ X b u):PS X (.If c a b pos) (dX8 tc t u):=by
 intro pc s Y H D I h
 refine wpAny_If (bX (hc pc s Y H _ I h) fun d s1 ⟨H1,I1,q1⟩=>?_)
 cases d with
 |true=>exact ha pc s1 Y H1 D I1 q1
 |false=>exact hb pc s1 Y H1 D I1 q1
end
abbrev TG:=V->St->Hp->(St->Hp->Prop)->Prop
abbrev xB:=List V->St->Hp->(St->Hp->Prop)->Prop
def PG(X:Cx)(target:Expr)(t:TG):Prop:=
 ∀(pc:List (Addr×Obj)) (s:Shared) (Y:St) (H:Hp) (v:V) (u:Value) (Q:St->Hp->Prop),bE X pc Y H s->cG v u->t v Y H Q->
  wpAny (model X.prog X.w) X.A (assign target X.env u) (fun _ s'=>∃σ' H',bE X pc σ' H' s'/\Q σ' H') X.xe s
def PGs(X:Cx)(ts:List Expr)(t:xB):Prop:=
 ∀(pc:List (Addr×Obj)) (s:Shared) (Y:St) (H:Hp) (vs:List V) (us:List Value) (Q:St->Hp->Prop),bE X pc Y H s->bV vs us->t vs Y H Q->
  wpAny (model X.prog X.w) X.A (assignInOrder ((assignEach ts X.env).map (·.2)) us) (fun _ s'=>∃σ' H',bE X pc σ' H' s'/\Q σ' H') X.xe s
abbrev TIp:=V->V->Hp->VK->Prop
def PIp(X:Cx)(op:Operator)(t:TIp):Prop:=
 ∀(pc:List (Addr×Obj)) (s:Shared) (Y:St) (H:Hp) (x y:V) (v u:Value) (Q:VK),bE X pc Y H s->cG x v->cG y u->t x y H Q->
  wpAny (model X.prog X.w) X.A (inplaceOp op v u) (EP X pc Y Q) X.xe s
section
variable{X:Cx}{pos:Pos}
noncomputable def mC(i:Nat):TG:=fun v Y H Q=>Q (Y.set i (some v)) H
theorem xD{i:Nat}{x:Str}(hN:X.N.Nodup)(hi:X.N[i]? =some x)(hx:Loc X.env.scope x)(hf:X.fn x=true\/X.env.scope.names.lookup x=some .local:=by first|exact .inl rfl|exact .inr rfl|assumption):PG X (.Name x pos) (mC i):=by
 intro pc s Y H v u Q I r h
 exact wpAny_assign_Name (bZ6 I hN hi hx r (fun s' I'=>⟨_,H,I',h⟩) hf)
noncomputable def zL:xB:=fun vs Y H Q=>vs= []/\Q Y H
noncomputable def qW(t:TG)(u:xB):xB:=fun vs Y H Q=>∃v r,vs=v::r/\t v Y H fun σ' H'=>u r σ' H' Q
theorem cR7:PGs X [] zL:=by
 intro pc s Y H vs us Q I r h
 obtain⟨e,h⟩:=h
 subst e
 cases r
 exact assignInOrder_nil ⟨Y,H,I,h⟩
theorem bN5{e:Expr}{es:List Expr}{t:TG}{u:xB}(h1:PG X e t)(h2:PGs X es u)
 (hs:(assignEach (e::es) X.env).map (·.2)=assign e X.env::(assignEach es X.env).map (·.2):=by rfl):PGs X (e::es) (qW t u):=by
 intro pc s Y H vs us Q I r h
 obtain⟨v,vr,e1,h⟩:=h
 subst e1
 cases r with
 |cons r rr=>
  rw[hs]
  refine assignInOrder_cons (bX (h1 pc s Y H _ _ _ I r h) fun _ s1 ⟨σ1,H1,I1,q1⟩=>?_)
  exact h2 pc s1 σ1 H1 _ _ Q I1 rr q1
noncomputable def zM(K:W.Frag)(n:Nat)(t:xB):TG:=fun v Y H Q=>∃a xs,v= .ref a/\gL K H a xs/\xs.length=n/\t xs Y H Q
theorem cR8{es:List Expr}{k:Nat}{t:xB}{n:Nat}(hc:X.calm=true)(h:PGs X es t)
 (hn:(assignEach es X.env).length=n:=by rfl) (hst:(assignEach es X.env).findIdx? (·.1)=none:=by rfl):PG X (.Tuple es k pos) (zM X.K n t):=by
 intro pc s Y H v u Q I r hw
 obtain⟨a,xs,e1,hq,hl,hw⟩:=hw
 subst e1
 cases r
 obtain⟨its,rv,ht,hz⟩:=I.tuple hq
 refine assign_Tuple_tuple (I.ok.hd hc) ht (by simp[hn, <-hl,rv.length]) hst fun h' hx=>?_
 have I1:bE X pc Y H {s with heap:=h'}:=I.kept (t':=s.toks) fun b o e=>hx b o (ne_of_lt (lt_size e)) e
 exact h pc _ Y H xs _ Q I1 (by simpa using rv) hw
noncomputable def bF7(te:TE)(g:TG):TS:=fun D Y H=>te Y H fun x H1=>g x Y H1 D.nx
theorem dY0{tg e:Expr}{te:TE}{g:TG}(he:PE X e te)(hg:PG X tg g)(hs:swapsWithSole [tg] e pos.line X.env=pure false:=by rfl)(hw:swappedStores [tg] e X.env=pure none:=by rfl)
 (h1:(assignEach [tg] X.env).map (·.2)= [assign tg X.env]:=by rfl):PS X (.Assign [tg] e pos) (bF7 te g):=by
 intro pc s Y H D I h
 refine wpAny_Assign_stores (bX (he pc s Y H _ I h) fun v s1 ⟨x,H1,I1,r1,q1⟩=>?_) hs hw
 rw[h1]
 exact bX (hg pc s1 Y H1 x v _ I1 r1 q1) fun _ s2 q=>q
theorem zN{i:Nat}{x:Str}{e:Expr}{te:TE}{pos':Pos}(hN:X.N.Nodup)(hi:X.N[i]? =some x)(hx:Loc X.env.scope x)(he:PE X e te)(hs:swapsWith e (some (.Name x pos')) pos.line X.env=pure false:=by rfl)(hf:X.fn x=true\/X.env.scope.names.lookup x=some .local:=by first|exact .inl rfl|exact .inr rfl|assumption):
 PS X (.Assign [.Name x pos'] e pos) (bF7 te (mC i)):=by
 intro pc s Y H D I h
 refine wpAny_Assign_Name (bX (he pc s Y H _ I h) fun v s1 ⟨y,H1,I1,r1,q1⟩=>?_) hs
 exact bZ6 I1 hN hi hx r1 (fun s2 I2=>⟨_,H1,I2,q1⟩) hf
noncomputable def dY1(i:Nat)(te:TE)(ti:TIp):TS:=fun D Y H=>∃x,Y[i]? =some (some x)/\te Y H fun y H1=>ti x y H1 fun z H2=>D.nx (Y.set i (some z)) H2
theorem dY2{i:Nat}{x:Str}{e:Expr}{te:TE}{op:Operator}{ti:TIp}{pos':Pos}(hN:X.N.Nodup)(hi:X.N[i]? =some x)(hx:Loc X.env.scope x)(he:PE X e te)(ho:PIp X op ti)(hf:X.fn x=true\/X.env.scope.names.lookup x=some .local:=by first|exact .inl rfl|exact .inr rfl|assumption):
 PS X (.AugAssign (.Name x pos') op e pos) (dY1 i te ti):=by
 intro pc s Y H D I h
 obtain⟨v,e1,h⟩:=h
 obtain⟨m,hn,hl⟩:=I.loc
 have vis:Vis X.env.scope x:=by rcases hx with k|k;exact .inl k;exact .inr (.inl k)
 obtain⟨u,r,l⟩:=hl i x v hi e1 vis
 refine wpAny_AugAssign_Name ?_
 have go:wpAny (model X.prog X.w) X.A (eval e X.env) (fun w s₂=>wpAny (model X.prog X.w) X.A (inplaceOp op u w) (fun r s₃=>wpAny (model X.prog X.w) X.A (storeName X.env x r) (fun _=>SP X pc D .next) X.xe s₃) X.xe s₂) X.xe s:=by
  refine bX (he pc s Y H _ I h) fun w s1 ⟨y,H1,I1,r1,q1⟩=>?_
  refine bX (ho pc s1 Y H1 v y u w _ I1 r r1 q1) fun z s2 ⟨zv,H2,I2,r2,q2⟩=>?_
  exact bZ6 I2 hN hi hx r2 (fun s3 I3=>⟨_,H2,I3,q2⟩) hf
 rcases l with⟨hk,hm⟩|⟨hk,c,hc,hcell⟩
 ·exact wpAny_loadName_local I.ok.kind hk hn hm go
 ·rcases hk with hk|hk
  ·exact wpAny_loadName_cell I.ok.kind hk hc hcell go
  ·rcases hx with k|k
   ·have:X.env.scope.names.lookup x=some .free:=hk
    rw[k]at this;cases this
   ·have:X.env.scope.names.lookup x=some .free:=hk
    rw[k]at this;cases this
def dY3(c:TT)(tb:TS):TS:=fun D Y H=>∃W:Nat->St->Hp->Prop,(∃m,W m Y H)/\ ∀m Y H,W m Y H->
 c Y H fun b H1=>if b=true then ∃N:St->Hp->Prop,(∀σ' H',N σ' H'->∃m',m'<m/\W m' σ' H')/\tb {D with nx:=N,ct:=N,bk:=D.nx} Y H1 else D.nx Y H1
theorem dY4{c:Expr}{body:List Stmt}{tc:TT}{tb:TS}(hp:PassesOwn (model X.prog X.w) X.A X.env X.xe)(hc:PT X c tc)(hb:lJ X body tb):PS X (.While c body [] pos) (dY3 tc tb):=by
 intro pc s Y H D I h
 obtain⟨W,⟨m0,w0⟩,turn⟩:=h
 refine wpAny_While (codeAny_whileLoop (fun n s'=>∃σ' H',bE X pc σ' H' s'/\W n σ' H') ?_ m0 ⟨Y,H,I,w0⟩)
 rintro n s1 ⟨σ1,H1,I1,w1⟩
 refine wpAny_passesOwn hp (bX (hc pc s1 σ1 H1 _ I1 (turn n σ1 H1 w1)) fun b s2 ⟨H2,I2,q2⟩=>?_)
 cases b with
 |true=>
  obtain⟨N,hN,q2⟩:=q2
  rw[if_pos rfl]
  refine wpAny_passesOwn hp (bX (hb pc s2 σ1 H2 _ I2 q2) fun f s3 q3=>?_)
  cases f with
  |next=>
   obtain⟨σ3,H3,I3,n3⟩:=q3
   obtain⟨m',hm,w3⟩:=hN σ3 H3 n3
   exact⟨m',hm,σ3,H3,I3,w3⟩
  |cont=>
   obtain⟨σ3,H3,I3,n3⟩:=q3
   obtain⟨m',hm,w3⟩:=hN σ3 H3 n3
   exact⟨m',hm,σ3,H3,I3,w3⟩
  |brk=>exact q3
  |ret v=>exact q3
 |false=>
  rw[if_neg Bool.false_ne_true]
  exact wpAny_execs_nil ⟨σ1,H2,I2,q2⟩
end
structure It where
 go:Nat->Hp->Prop
 yld:Nat->Hp->V->Hp->Prop
 stop:Nat->Hp->Prop
def jP(X:Cx)(pc:List (Addr×Obj))(H:Hp)(b:Addr):Prop:=
 H b=none/\b≠X.env.locals/\b∉X.fs/\(b∈X.ex\/X.s₀.heap.objs.size<=b)/\(∀x c,X.env.cells.lookup x=some c->c≠b)/\ ∀p∈X.pn++pc,p.1≠b
theorem bE.fpOk{X:Cx}{pc:List (Addr×Obj)}{Y:St}{H H':Hp}{s:Shared}{b:Addr}(I:bE X pc Y H s)(hb:s.heap.objs.size<=b)(hn:H' b=none):jP X pc H' b:=by
 refine⟨hn,ne_of_gt (lt_of_lt_of_le I.lt hb),I.nofs hb,.inr (le_trans I.sz hb),fun x c e z=>?_,fun p hp z=>?_⟩
 ·obtain⟨v,q⟩:=I.cell x c e
  exact absurd (lt_of_lt_of_le q.lt (by rw[z];exact hb)) (lt_irrefl _)
 ·exact absurd (lt_of_lt_of_le (lt_size (I.pin p hp).1) (by rw[z];exact hb)) (lt_irrefl _)
structure rS(P:Program)(w:World)(K:W.Frag)(tg:Expr)(J:It)(fp:List Addr)(it:Addr)(tn:Nat->Heap->Prop):Prop where
 mem:it∈fp
 obj:∀i h,tn i h->∀b∈fp,∃o,h.get? b=some o/\ ∀v,o.data≠ .cell v
 keep:∀i h h',tn i h->(∀b∈fp,∀o,h.get? b=some o->h'.get? b=some o)->tn i h'
 item:∀(X:Cx),X.prog=P->X.w=w->X.K=K->X.calm=true->∀(i:Nat) (pc:List (Addr×Obj)) (s:Shared) (Y:St) (H:Hp) (E:Value->Shared->Prop),bE X pc Y H s->(∀b∈fp,jP X pc H b)->tn i s.heap->J.go i H->
  wpAny (model P w) X.A (pyNext (.ref it)) (fun r s1=>∃u,r=some u/\
   wpAny (model P w) X.A (letOwnedTupleGo tg (.ref it) u) (fun _ s2=>∃x H',bE X pc Y H' s2/\cG x u/\J.yld i H x H'/\tn (i+1) s2.heap/\ ∀b∈fp,H' b=none) E s1) E s
 done:∀(X:Cx),X.prog=P->X.w=w->X.K=K->X.calm=true->∀(i:Nat) (pc:List (Addr×Obj)) (s:Shared) (Y:St) (H:Hp) (E:Value->Shared->Prop),bE X pc Y H s->(∀b∈fp,jP X pc H b)->tn i s.heap->J.stop i H->
  wpAny (model P w) X.A (pyNext (.ref it)) (fun r s1=>r=none/\bE X pc Y H s1) E s
 self:∀(A:Around) (i:Nat) (s:Shared) (Q:Value->Shared->Prop) (E:Value->Shared->Prop),tn i s.heap->Q (.ref it) s->wpAny (model P w) A (pyIter (.ref it)) Q E s
abbrev TI:=St->Hp->(It->Hp->Prop)->Prop
def PIE(X:Cx)(pc:List (Addr×Obj))(Y:St)(tg:Expr)(R:It->Hp->Prop)(itv:Value)(s2:Shared):Prop:=
 ∃(it:Addr) (fp:List Addr) (tn:Nat->Heap->Prop) (J:It) (H':Hp),itv= .ref it/\bE X pc Y H' s2/\rS X.prog X.w X.K tg J fp it tn/\tn 0 s2.heap/\(∀b∈fp,jP X pc H' b)/\R J H'
def PI(X:Cx)(tg iter:Expr)(wi:TI):Prop:=
 ∀(pc:List (Addr×Obj)) (s:Shared) (Y:St) (H:Hp) (R:It->Hp->Prop),bE X pc Y H s->wi Y H R->
  wpAny (model X.prog X.w) X.A (eval iter X.env) (fun v s1=>wpAny (model X.prog X.w) X.A (pyIter v) (PIE X pc Y tg R) X.xe s1) X.xe s
theorem bF8{M:Model}{A:Around}{E:Value->Shared->Prop}{s:Shared}{tg:Expr}{it:Addr}{u:Value}{o:Obj}{n:String}{vs:Array Value}{Q:Unit->Shared->Prop}(ho:s.heap.get? it=some o)(hc:o.cls= .type n)(hd:o.data= .fields vs)
 (hn: ["enumerate","zip","dict_itemiterator","dict_reverseitemiterator","odict_iterator","itertools.zip_longest","itertools.pairwise"].contains n=false) (hQ:Q () s):wpAny M A (letOwnedTupleGo tg (.ref it) u) Q E s:=by
 unfold letOwnedTupleGo
 cases tg<;>first
  |exact wpAny_pure hQ
  | (cases u<;>first
      |exact wpAny_pure hQ
      | (refine wpAny_bind (wpAny_load ho ?_)
         rw[hc,hd]
         show wpAny M A (if(["enumerate","zip","dict_itemiterator","dict_reverseitemiterator","odict_iterator","itertools.zip_longest","itertools.pairwise"].contains n&&vs[0]? ==some (rawInt _))=true then _ else _) Q E s
         rw[if_neg (by intro h;rw[hn,Bool.false_and]at h;cases h)]
         exact wpAny_pure hQ))
noncomputable def Itl(K:W.Frag)(a:Addr):It:=
 ⟨fun i H=>∃xs x,dO K H a xs/\xs[i]? =some x,fun i H x H'=>H'=H/\ ∀xs,dO K H a xs->xs[i]? =some x,fun i H=>∃xs,dO K H a xs/\xs.length<=i⟩
noncomputable def Itt(K:W.Frag)(a:Addr):It:=
 ⟨fun i H=>∃xs x,gL K H a xs/\xs[i]? =some x,fun i H x H'=>H'=H/\ ∀xs,gL K H a xs->xs[i]? =some x,fun i H=>∃xs,gL K H a xs/\xs.length<=i⟩
noncomputable def Itr(lo:Int)(n:Nat):It:=⟨fun i _=>i<n,fun i H x H'=>H'=H/\x= .int (lo+i),fun i _=>n<=i⟩
theorem dY5{P:Program}{w:World}{K:W.Frag}{tg:Expr}(a it:Addr):rS P w K tg (Itl K a) [it] it (fun i h=>h.IsListIter it a i)where
 mem:=by simp
 obj:=fun i h st b hb=>by
  have e:b=it:=by simpa using hb
  subst e
  obtain⟨o,e,c,d⟩:=st
  exact⟨o,e,fun v z=>by rw[d]at z;cases z⟩
 keep:=fun i h h' st k=>st.at fun o e=>k it (by simp) o e
 item:=by
  intro X hP hw hK hc i pc s Y H E I hf st hg
  subst hP hw hK
  obtain⟨xs,x,hq,hx⟩:=hg
  obtain⟨its,rv,p,hz⟩:=I.list hq
  obtain⟨u,hu,ru⟩:=rv.get hx
  obtain⟨f0,f1,f2,f3,f4,f5⟩:=hf it (by simp)
  refine wpAny_pyNext_list_item st p.isList (x:=u) (by simpa using hu) fun h' st' sb=>?_
  have I1:bE X pc Y H {s with heap:=h'}:=I.turned (t':=s.toks) (fun b o hb e=>(sb.2 b hb).trans e) f0 f1 f3 f4 f5
  obtain⟨o,e,c,d⟩:=id st'
  exact⟨u,rfl,bF8 (s:={s with heap:=h'}) e c d (by decide) ⟨x,H,I1,ru,⟨rfl,fun ys hy=>by rw[I.list_inj hy hq];exact hx⟩,st',fun b hb=>(hf b hb).1⟩⟩
 done:=by
  intro X hP hw hK hc i pc s Y H E I hf st hg
  subst hP hw hK
  obtain⟨xs,hq,hx⟩:=hg
  obtain⟨its,rv,p,hz⟩:=I.list hq
  obtain⟨f0,f1,f2,f3,f4,f5⟩:=hf it (by simp)
  have hl:=rv.length
  exact wpAny_pyNext_list_end (I.ok.hd hc) st p.isList (by simp;omega) fun h' eb=>⟨rfl,I.turned (t':=s.toks) (fun b o hb e=>eb b o hb e) f0 f1 f3 f4 f5⟩
 self:=fun _ _ _ _ _ st h=>wpAny_pyIter_listiter st h
theorem dY6{P:Program}{w:World}{K:W.Frag}{tg:Expr}(a it:Addr):rS P w K tg (Itt K a) [it] it (fun i h=>h.IsTupleIter it a i)where
 mem:=by simp
 obj:=fun i h st b hb=>by
  have e:b=it:=by simpa using hb
  subst e
  obtain⟨o,e,c,d⟩:=st
  exact⟨o,e,fun v z=>by rw[d]at z;cases z⟩
 keep:=fun i h h' st k=>st.at fun o e=>k it (by simp) o e
 item:=by
  intro X hP hw hK hc i pc s Y H E I hf st hg
  subst hP hw hK
  obtain⟨xs,x,hq,hx⟩:=hg
  obtain⟨its,rv,p,hz⟩:=I.tuple hq
  obtain⟨u,hu,ru⟩:=rv.get hx
  obtain⟨f0,f1,f2,f3,f4,f5⟩:=hf it (by simp)
  refine wpAny_pyNext_tuple_item st (show s.heap.IsTuple a its.toArray from p) (x:=u) (by simpa using hu) fun h' st' sb=>?_
  have I1:bE X pc Y H {s with heap:=h'}:=I.turned (t':=s.toks) (fun b o hb e=>(sb.2 b hb).trans e) f0 f1 f3 f4 f5
  obtain⟨o,e,c,d⟩:=id st'
  exact⟨u,rfl,bF8 (s:={s with heap:=h'}) e c d (by decide) ⟨x,H,I1,ru,⟨rfl,fun ys hy=>by rw[I.tuple_inj hy hq];exact hx⟩,st',fun b hb=>(hf b hb).1⟩⟩
 done:=by
  intro X hP hw hK hc i pc s Y H E I hf st hg
  subst hP hw hK
  obtain⟨xs,hq,hx⟩:=hg
  obtain⟨its,rv,p,hz⟩:=I.tuple hq
  obtain⟨f0,f1,f2,f3,f4,f5⟩:=hf it (by simp)
  have hl:=rv.length
  exact wpAny_pyNext_tuple_end (I.ok.hd hc) st (show s.heap.IsTuple a its.toArray from p) (by simp;omega) fun h' eb=>⟨rfl,I.turned (t':=s.toks) (fun b o hb e=>eb b o hb e) f0 f1 f3 f4 f5⟩
 self:=fun _ _ _ _ _ st h=>wpAny_pyIter_tupleiter st h
theorem dY7{P:Program}{w:World}{K:W.Frag}{tg:Expr}(it:Addr)(lo:Int)(n:Nat):rS P w K tg (Itr lo n) [it] it (fun i h=>IsRangeIter h it (lo+(i:Nat)*1) ((n:Int)-(i:Nat)) 1)where
 mem:=by simp
 obj:=fun i h st b hb=>by
  have e:b=it:=by simpa using hb
  subst e
  exact⟨_,st,fun v z=>by
   have z':Data.fields _=Data.cell v:=z
   cases z'⟩
 keep:=fun i h h' st k=>k it (by simp) _ st
 item:=by
  intro X hP hw hK hc i pc s Y H E I hf st hg
  subst hP hw hK
  obtain⟨f0,f1,f2,f3,f4,f5⟩:=hf it (by simp)
  have W:=Walks.range (prog:=X.prog) (w:=X.w) (I.ok.hd hc) it lo 1 n
  refine W.item i s _ _ hg st fun v h' tk hv st' kk=>?_
  obtain⟨t,rfl⟩:=hv
  have I1:bE X pc Y H {s with heap:=h',toks:=tk}:=I.turned (fun b o hb e=>kk b o (by simpa using hb) e) f0 f1 f3 f4 f5
  refine⟨_,rfl,bF8 (s:={s with heap:=h',toks:=tk}) (n:="range_iterator") st' rfl rfl (by decide) ⟨.int (lo+i),H,I1,⟨t,?_⟩,⟨rfl,rfl⟩,st',fun b hb=>(hf b hb).1⟩⟩
  rw[Int.mul_one]
 done:=by
  intro X hP hw hK hc i pc s Y H E I hf st hg
  subst hP hw hK
  obtain⟨f0,f1,f2,f3,f4,f5⟩:=hf it (by simp)
  exact wpAny_pyNext_range_end (I.ok.hd hc) st (by have:n<=i:=hg;omega) fun h' eb=>⟨rfl,I.turned (t':=s.toks) (fun b o hb e=>eb b o hb e) f0 f1 f3 f4 f5⟩
 self:=fun _ _ _ _ _ st h=>wpAny_pyIter_rangeiter st h
end L2
namespace L2
open PySem PySem.Spec PyProof.Rows
section
variable{X:Cx}{tg:Expr}
theorem dY8{pc:List (Addr×Obj)}{Y:St}{H:Hp}{s:Shared}{R:It->Hp->Prop}{E:Value->Shared->Prop}{lo hi:Int}{t u v:Tok}{tk:Nat}(I:bE X pc Y H s)(h1: -(2^62)<=lo)(h2:lo<2^62)(h3: -(2^62)<=hi)(h4:hi<2^62)
 (q:R (Itr lo (hi-lo).toNat) H):wpAny (model X.prog X.w) X.A (pyIter (.ref s.heap.objs.size)) (PIE X pc Y tg R) E {s with heap:=s.heap.push {cls:=.type "range",data:=.fields #[.int lo t,.int hi u,.int 1 v]},toks:=tk}:=by
 refine wpAny_pyIter_range (IsRange.new ..) (small_one h1 h2 h3 h4) ?_
 have I1:bE X pc Y H {s with heap:=s.heap.push {cls:=.type "range",data:=.fields #[.int lo t,.int hi u,.int 1 v]},toks:=tk}:=I.kept fun b o e=>get?_push_of_some _ e
 refine⟨(s.heap.push {cls:=.type "range",data:=.fields #[.int lo t,.int hi u,.int 1 v]}).objs.size,[(s.heap.push {cls:=.type "range",data:=.fields #[.int lo t,.int hi u,.int 1 v]}).objs.size],_,_,H,rfl,
  I1.kept (t':=tk) fun b o e=>get?_push_of_some _ e,dY7 _ lo (hi-lo).toNat,?_,fun b hb=>?_,q⟩
 ·have e1:lo+((0:Nat):Int)*1=lo:=by simp
  have e2:(((hi-lo).toNat:Nat):Int)-((0:Nat):Int)=Builtin.Range.rangeSize lo hi 1:=by rw[rangeSize_one];split<;>omega
  show IsRangeIter _ _ (lo+((0:Nat):Int)*1) ((((hi-lo).toNat:Nat):Int)-((0:Nat):Int)) 1
  rw[e1,e2]
  exact get?_push_size _ rfl
 ·have e:b=(s.heap.push {cls:=.type "range",data:=.fields #[.int lo t,.int hi u,.int 1 v]}).objs.size:=by simpa using hb
  subst e
  exact I1.fpOk (le_refl _) (I1.hok.fresh (le_refl _))
def dY9(ta:TA):TI:=fun Y H R=>ta Y H fun vs H1=>∃j:Int,vs= [.int j]/\ -(2^62)<=j/\j<2^62/\R (Itr 0 j.toNat) H1
theorem dZ0{a:Expr}{ta:TA}{p pos:Pos}(hg:Gl X "range")(hm:X.mg "range" =none)(ha:PA X [a] ta)(hs:starEach [a] X.env= [(false,eval a X.env)]:=by rfl):PI X tg (.Call (.Name "range" p) [a] [] pos) (dY9 ta):=by
 intro pc s Y H R I h
 refine Call_ (zK I hg hm boot_range (PyProof.Rows.callWith_type1 (bX (ha pos pc s Y H _ I h) fun us s1 ⟨vs,H1,I1,r1,q1⟩=>?_) hs rfl))
 obtain⟨j,e,q1,q2,q⟩:=q1
 subst e
 cases r1 with
 |cons r rr=>
  cases rr
  obtain⟨t,rfl⟩:=r
  exact call_range_1 (dY8 I1 bD bD q1 q2 (by simpa using q))
def dZ1(wi:TI)(g:TG)(tb:TS):TS:=fun D Y H=>wi Y H fun J H1=>∃W:Nat->Nat->St->Hp->Prop,(∃m,W 0 m Y H1)/\ ∀i m Y H,W i m Y H->
 (J.stop i H/\D.nx Y H)\/(J.go i H/\ ∃N:St->Hp->Prop,(∀σ' H',N σ' H'->∃m',m'<m/\W (i+1) m' σ' H')/\ ∀x H',J.yld i H x H'->g x Y H' fun σ2 H2=>tb {D with nx:=N,ct:=N,bk:=D.nx} σ2 H2)
noncomputable def zO(fp:List Addr)(h:Heap):List (Addr×Obj):=fp.filterMap fun b=>(h.get? b).map fun o=>(b,o)
theorem zP{fp:List Addr}{h:Heap}{b:Addr}{o:Obj}(hb:b∈fp)(e:h.get? b=some o):(b,o)∈zO fp h:=List.mem_filterMap.mpr ⟨b,hb,by rw[e];rfl⟩
theorem dZ2{fp:List Addr}{h:Heap}{p:Addr×Obj}(hp:p∈zO fp h):p.1∈fp/\h.get? p.1=some p.2:=by
 obtain⟨b,hb,e⟩:=List.mem_filterMap.mp hp
 cases q:h.get? b with
 |none=>rw[q]at e;cases e
 |some o=>
  rw[q]at e
  have e':(b,o)=p:=Option.some.inj e
  subst e'
  exact⟨hb,q⟩
theorem bE.pinned{pc:List (Addr×Obj)}{Y:St}{H:Hp}{s:Shared}{fp:List Addr}(I:bE X pc Y H s)(hf:∀b∈fp,jP X pc H b)(ho:∀b∈fp,∃o,s.heap.get? b=some o/\ ∀v,o.data≠ .cell v):bE X (pc++zO fp s.heap) Y H s:=
 I.pins_of fun p hp=>(List.mem_append.mp hp).elim (fun z=>I.pin p (mem_append_right _ z)) fun z=>by
  obtain⟨hb,e⟩:=dZ2 z
  obtain⟨f0,f1,f2,_⟩:=hf p.1 hb
  obtain⟨o,e',d⟩:=ho p.1 hb
  rw[e]at e';cases e'
  exact⟨e,f0,f1,f2,d⟩
theorem bE.unpinned{pc pl:List (Addr×Obj)}{Y:St}{H:Hp}{s:Shared}(I:bE X (pc++pl) Y H s):bE X pc Y H s:=I.pins_of fun p hp=>I.pin p (mem_append_right _ (List.mem_append_left _ hp))
theorem cS2{iter:Expr}{body:List Stmt}{wi:TI}{g:TG}{tb:TS}{pos:Pos}(hp:PassesOwn (model X.prog X.w) X.A X.env X.xe)(hc:X.calm=true)(hi:PI X tg iter wi)(hg:PG X tg g)(hb:lJ X body tb)
 (hs:∀x,foldedSetIterable iter X.env x=pure x:=by intro _;rfl):PS X (.For tg iter body [] pos) (dZ1 wi g tb):=by
 intro pc s Y H D I h
 refine wpAny_For (bX (hi pc s Y H _ I h) fun v s1 h1=>bX h1 fun itv s2 h2=>?_) hs
 obtain⟨it,fp,tn,J,H2,e,I2,T,st2,f2,W,⟨m0,w0⟩,turn⟩:=h2
 subst e
 have tR:∀{H':Hp},(∀b∈fp,H' b=none)->∀b∈fp,jP X pc H' b:=fun hn b hb=>⟨hn b hb,(f2 b hb).2⟩
 refine codeAny_forLoop_any (fun n s'=>∃i σ' H',bE X pc σ' H' s'/\tn i s'.heap/\(∀b∈fp,H' b=none)/\W i n σ' H') ?_ m0 ⟨0,Y,H2,I2,st2,fun b hb=>(f2 b hb).1,w0⟩
 rintro n s3 ⟨i,σ3,H3,I3,st3,fr3,w3⟩
 rcases turn i n σ3 H3 w3 with⟨stop,qn⟩|⟨go,N,hN,step⟩
 ·refine wpAny_passesOwn hp (bX (T.done X rfl rfl rfl hc i pc s3 σ3 H3 X.xe I3 (tR fr3) st3 stop) fun r s4 ⟨hr,I4⟩=>?_)
  subst hr
  exact wpAny_execs_nil ⟨σ3,H3,I4,qn⟩
 ·refine wpAny_passesOwn hp (bX (T.item X rfl rfl rfl hc i pc s3 σ3 H3 X.xe I3 (tR fr3) st3 go) fun r s4 ⟨u,hr,h4⟩=>?_)
  subst hr
  refine wpAny_passesOwn hp (bX h4 fun _ s5 ⟨x,H5,I5,r5,y5,st5,fr5⟩=>?_)
  have I5':=I5.pinned (tR fr5) (T.obj _ _ st5)
  refine wpAny_passesOwn hp (bX (hg _ s5 σ3 H5 x u _ I5' r5 (step x H5 y5)) fun _ s6 ⟨σ6,H6,I6,q6⟩=>?_)
  refine wpAny_passesOwn hp (bX (hb _ s6 σ6 H6 _ I6 q6) fun f s7 q7=>?_)
  have again:∀{σ7:St} {H7:Hp},bE X (pc++zO fp s5.heap) σ7 H7 s7->N σ7 H7->∃m,m<n/\ ∃i σ' H',bE X pc σ' H' s7/\tn i s7.heap/\(∀b∈fp,H' b=none)/\W i m σ' H':=fun{σ7 H7} I7 n7=>by
   obtain⟨m',hm,w7⟩:=hN σ7 H7 n7
   refine⟨m',hm,i+1,σ7,H7,I7.unpinned,T.keep _ _ _ st5 fun b hb o e=>(I7.pin (b,o) (mem_append_right _ (mem_append_right _ (zP hb e)))).1,fun b hb=>?_,w7⟩
   obtain⟨o,e,d⟩:=T.obj _ _ st5 b hb
   exact(I7.pin (b,o) (mem_append_right _ (mem_append_right _ (zP hb e)))).2.1
  cases f with
  |next=>obtain⟨σ7,H7,I7,n7⟩:=q7;exact again I7 n7
  |cont=>obtain⟨σ7,H7,I7,n7⟩:=q7;exact again I7 n7
  |brk=>obtain⟨σ7,H7,I7,q7⟩:=q7;exact⟨σ7,H7,I7.unpinned,q7⟩
  |ret v=>obtain⟨x7,σ7,H7,I7,r7,q7⟩:=q7;exact⟨x7,σ7,H7,I7.unpinned,r7,q7⟩
end
end L2
namespace L2
open PySem PySem.Spec PyProof.Rows
abbrev R2:=V->V->Hp->VK->Prop
def cQ(X:Cx)(f:Value->Value->Sem Value)(r:R2):Prop:=
 ∀(pc:List (Addr×Obj)) (s:Shared) (Y:St) (H:Hp) (x y:V) (v u:Value) (Q:VK),bE X pc Y H s->cG x v->cG y u->r x y H Q->
  wpAny (model X.prog X.w) X.A (f v u) (EP X pc Y Q) X.xe s
def UnR(X:Cx)(f:Value->Sem Value)(r:V->Hp->VK->Prop):Prop:=
 ∀(pc:List (Addr×Obj)) (s:Shared) (Y:St) (H:Hp) (x:V) (v:Value) (Q:VK),bE X pc Y H s->cG x v->r x H Q->
  wpAny (model X.prog X.w) X.A (f v) (EP X pc Y Q) X.xe s
def gM(X:Cx)(f:Value)(r:List V->Hp->VK->Prop):Prop:=
 ∀(pc:List (Addr×Obj)) (s:Shared) (Y:St) (H:Hp) (xs:List V) (us:List Value) (Q:VK),bE X pc Y H s->bV xs us->r xs H Q->
  wpAny (model X.prog X.w) X.A (call f us) (EP X pc Y Q) X.xe s
def dZ3(X:Cx)(r:V->Hp->(Bool->Hp->Prop)->Prop):Prop:=
 ∀(pc:List (Addr×Obj)) (s:Shared) (Y:St) (H:Hp) (x:V) (v:Value) (Q:Bool->Hp->Prop),bE X pc Y H s->cG x v->r x H Q->
  wpAny (model X.prog X.w) X.A (truthy v) (TP X pc Y Q) X.xe s
noncomputable def tOp(r:R2)(ta tb:TE):TE:=fun Y H Q=>ta Y H fun x H1=>tb Y H1 fun y H2=>r x y H2 Q
noncomputable def tUn(r:V->Hp->VK->Prop)(ta:TE):TE:=fun Y H Q=>ta Y H fun x H1=>r x H1 Q
noncomputable def rI(C:Int->Int->Prop)(g:Int->Int->V):R2:=fun x y H Q=>∃i j,x= .int i/\y= .int j/\C i j/\Q (g i j) H
noncomputable def tU(g:Int->Int->V):R2:=fun x y H Q=>∃i j,x= .int i/\y= .int j/\Q (g i j) H
def rU(g:Int->V):V->Hp->VK->Prop:=fun x H Q=>∃i,x= .int i/\Q (g i) H
section
variable{X:Cx}{a b c:Expr}{ta tb tc:TE}{pos:Pos}
theorem bZ9(ha:PE X a ta)(hb:PE X b tb){pc:List (Addr×Obj)}{s:Shared}{Y:St}{H:Hp}{R:V->V->Hp->Prop}(I:bE X pc Y H s)
 (h:ta Y H fun x H1=>tb Y H1 fun y H2=>R x y H2) {Q:Value->Shared->Prop} {f:Value->Value->Sem Value}
 (hf:∀v u s2 x y H2,bE X pc Y H2 s2->cG x v->cG y u->R x y H2->wpAny (model X.prog X.w) X.A (f v u) Q X.xe s2):
 wpAny (model X.prog X.w) X.A (eval a X.env) (fun v s₁=>wpAny (model X.prog X.w) X.A (eval b X.env) (fun u s₂=>wpAny (model X.prog X.w) X.A (f v u) Q X.xe s₂) X.xe s₁) X.xe s:=by
 refine bX (ha pc s Y H _ I h) fun v s1 ⟨x,H1,I1,r1,q1⟩=>?_
 refine bX (hb pc s1 Y H1 _ I1 q1) fun u s2 ⟨y,H2,I2,r2,q2⟩=>?_
 exact hf v u s2 x y H2 I2 r1 r2 q2
theorem cS3{op:Operator}{r:R2}(ho:cQ X (binaryOp op) r)(ha:PE X a ta)(hb:PE X b tb):PE X (.BinOp a op b pos) (tOp r ta tb):=by
 intro pc s Y H Q I h
 exact wpAny_BinOp (bZ9 ha hb I h fun v u s2 x y H2 I2 rx ry q=>ho pc s2 Y H2 x y v u Q I2 rx ry q)
theorem dZ5{op:UnaryOp}{r:V->Hp->VK->Prop}(ho:UnR X (unaryOp op) r)(ha:PE X a ta):PE X (.UnaryOp op a pos) (tUn r ta):=by
 intro pc s Y H Q I h
 exact UnaryOp_ (bX (ha pc s Y H _ I h) fun v s1 ⟨x,H1,I1,r1,q1⟩=>ho pc s1 Y H1 x v Q I1 r1 q1)
theorem opI{f:Value->Value->Sem Value}{C:Int->Int->Prop}{g:Int->Int->Int}
 (rule:∀(i j:Int) (t u:Tok) (s:Shared) (Q:Value->Shared->Prop) (E:Value->Shared->Prop),C i j->Q (.int (g i j) s.toks) {s with toks:=s.toks+1}->wpAny (model X.prog X.w) X.A (f (.int i t) (.int j u)) Q E s):
 cQ X f (rI C fun i j=>.int (g i j)):=by
 intro pc s Y H x y v u Q I rx ry h
 obtain⟨i,j,rfl,rfl,hc,q⟩:=h
 obtain⟨t,rfl⟩:=rx
 obtain⟨t',rfl⟩:=ry
 exact rule i j t t' s _ _ hc ⟨.int (g i j),H,I.tok _,⟨_,rfl⟩,q⟩
theorem cA1{f:Value->Value->Sem Value}{g:Int->Int->Int}
 (rule:∀(i j:Int) (t u:Tok) (s:Shared) (Q:Value->Shared->Prop) (E:Value->Shared->Prop),Q (.int (g i j) s.toks) {s with toks:=s.toks+1}->wpAny (model X.prog X.w) X.A (f (.int i t) (.int j u)) Q E s):
 cQ X f (tU fun i j=>.int (g i j)):=by
 intro pc s Y H x y v u Q I rx ry h
 obtain⟨i,j,rfl,rfl,q⟩:=h
 obtain⟨t,rfl⟩:=rx
 obtain⟨t',rfl⟩:=ry
 exact rule i j t t' s _ _ ⟨.int (g i j),H,I.tok _,⟨_,rfl⟩,q⟩
theorem cA2{f:Value->Value->Sem Value}{g:Int->Int->Bool}
 (rule:∀(i j:Int) (t u:Tok) (s:Shared) (Q:Value->Shared->Prop) (E:Value->Shared->Prop),Q (.bool (g i j)) s->wpAny (model X.prog X.w) X.A (f (.int i t) (.int j u)) Q E s):
 cQ X f (tU fun i j=>.bl (g i j)):=by
 intro pc s Y H x y v u Q I rx ry h
 obtain⟨i,j,rfl,rfl,q⟩:=h
 obtain⟨t,rfl⟩:=rx
 obtain⟨t',rfl⟩:=ry
 exact rule i j t t' s _ _ ⟨.bl (g i j),H,I,rfl,q⟩
def dZ6(i j:Int):Prop:=0<j/\j<1073741824
def cA3(i j:Int):Prop:=(-(2^64)<i/\i<2^64)\/(-(2^64)<j/\j<2^64)
theorem cA3.ok{i j:Int}(h:cA3 i j):IntMulOk i j:=by
 rcases h with⟨h1,h2⟩|⟨h1,h2⟩
 ·exact .of_left (intBits_le_64 h1 h2)
 ·exact .of_right (intBits_le_64 h1 h2)
theorem dZ7:cQ X (binaryOp .Add) (tU fun i j=>.int (i+j)):=cA1 fun _ _ _ _ _ _ _ q=>add_int q
theorem dZ8:cQ X (binaryOp .Sub) (tU fun i j=>.int (i-j)):=cA1 fun _ _ _ _ _ _ _ q=>sub_int q
theorem dZ9:cQ X (binaryOp .Mult) (rI cA3 fun i j=>.int (i*j)):=opI fun _ _ _ _ _ _ _ hc q=>mul_int q hc.ok
theorem fA0:cQ X (binaryOp .FloorDiv) (rI dZ6 fun i j=>.int (i/j)):=opI fun i j _ _ _ _ _ hc q=>by
 have h1:(0:Int)<j:=hc.1
 have h2:j<1073741824:=hc.2
 exact floordiv_int bD (by rw[Int.fdiv_eq_ediv_of_nonneg i bD];exact q) (.inl (PyProof.noPylong_small bD))
theorem fA1:cQ X (binaryOp .Mod) (rI (fun _ j=>0<j) fun i j=>.int (i%j)):=opI fun i j _ _ _ _ _ hc q=>by
 have h1:(0:Int)<j:=hc
 exact mod_int' bD (by rw[Int.fmod_eq_emod_of_nonneg i bD];exact q)
theorem fA2:cQ X (inplaceOp .Add) (tU fun i j=>.int (i+j)):=cA1 fun _ _ _ _ _ _ _ q=>iadd_int q
theorem unI{f:Value->Sem Value}{g:Int->Int}
 (rule:∀(i:Int) (t:Tok) (s:Shared) (Q:Value->Shared->Prop) (E:Value->Shared->Prop),Q (.int (g i) s.toks) {s with toks:=s.toks+1}->wpAny (model X.prog X.w) X.A (f (.int i t)) Q E s):
 UnR X f (rU fun i=>.int (g i)):=by
 intro pc s Y H x v Q I rx h
 obtain⟨i,rfl,q⟩:=h
 obtain⟨t,rfl⟩:=rx
 exact rule i t s _ _ ⟨.int (g i),H,I.tok _,⟨_,rfl⟩,q⟩
theorem fA4:UnR X (unaryOp .USub) (rU fun i=>.int (-i)):=unI fun _ _ _ _ _ q=>neg_int q
end
noncomputable def fA5:V->V->Bool
 | .non,.non=>true| .non,.int _=>true| .int _,.non=>true| .non,.bl _=>true| .bl _,.non=>true| .non,.str _=>true| .str _,.non=>true
 | .int _,.int _=>true| .bl _,.bl _=>true| .str _,.str _=>true| .byt _,.byt _=>true
 | .int _,.str _=>true| .str _,.int _=>true| .bl _,.str _=>true| .str _,.bl _=>true
 |_,_=>false
def rNe:R2:=fun x y H Q=>fA5 x y=true/\Q (.bl (!decide (x=y))) H
theorem fA7{i j:Int}:decide (V.int i=V.int j)=(i==j):=by
 rw[Bool.eq_iff_iff]
 simp
theorem fA8{i j:Bool}:decide (V.bl i=V.bl j)=(i==j):=by
 rw[Bool.eq_iff_iff]
 simp
theorem fA9{i j:Str}:decide (V.str i=V.str j)=(i==j):=by
 rw[Bool.eq_iff_iff]
 simp
theorem fB0{i j:Array UInt8}:decide (V.byt i=V.byt j)=(i.toList==j.toList):=by
 rw[Bool.eq_iff_iff]
 cases i
 cases j
 simp
section
variable{X:Cx}{a b c:Expr}{ta tb tc:TE}{pos:Pos}
theorem lK{pc:List (Addr×Obj)}{Y:St}{H:Hp}{s:Shared}{Q:VK}{k k':Bool}(I:bE X pc Y H s)(q:Q (.bl k) H)(e:k=k'):EP X pc Y Q (.bool k') s:=by
 subst e
 exact⟨.bl k,H,I,rfl,q⟩
theorem cS4:cQ X (compareOp .NotEq) rNe:=by
 intro pc s Y H x y v u Q I rx ry h
 obtain⟨hs,q⟩:=h
 cases x with
 |non=>
  cases rx
  cases y with
  |non=>cases ry;exact PySem.EqNone.ne_none_none (lK I q (by simp))
  |bl j=>cases ry;exact PySem.EqNone.ne_none_bool (lK I q (by simp))
  |int j=>obtain⟨t',rfl⟩:=ry;exact PySem.EqNone.ne_none_int (lK I q (by simp))
  |str j=>obtain⟨t',rfl⟩:=ry;exact PySem.EqNone.ne_none_str (lK I q (by simp))
  |_=>exact absurd (show false=true from hs) Bool.false_ne_true
 |bl i=>
  cases rx
  cases y with
  |non=>cases ry;exact PySem.EqNone.ne_bool_none (lK I q (by simp))
  |bl j=>cases ry;exact ne_bool (lK I q (congrArg not fA8))
  |str j=>obtain⟨t',rfl⟩:=ry;exact PySem.EqMixed.ne_bool_str (lK I q (by simp))
  |_=>exact absurd (show false=true from hs) Bool.false_ne_true
 |int i=>
  obtain⟨t,rfl⟩:=rx
  cases y with
  |non=>cases ry;exact PySem.EqNone.ne_int_none (lK I q (by simp))
  |int j=>obtain⟨t',rfl⟩:=ry;exact ne_int (lK I q (congrArg not fA7))
  |str j=>obtain⟨t',rfl⟩:=ry;exact PySem.EqMixed.ne_int_str (lK I q (by simp))
  |_=>exact absurd (show false=true from hs) Bool.false_ne_true
 |str i=>
  obtain⟨t,rfl⟩:=rx
  cases y with
  |non=>cases ry;exact PySem.EqNone.ne_str_none (lK I q (by simp))
  |bl j=>cases ry;exact PySem.EqMixed.ne_str_bool (lK I q (by simp))
  |int j=>obtain⟨t',rfl⟩:=ry;exact PySem.EqMixed.ne_str_int (lK I q (by simp))
  |str j=>obtain⟨t',rfl⟩:=ry;exact ne_str (lK I q (congrArg not fA9))
  |_=>exact absurd (show false=true from hs) Bool.false_ne_true
 |byt i=>
  obtain⟨t,rfl⟩:=rx
  cases y with
  |byt j=>obtain⟨t',rfl⟩:=ry;exact W.ne_bytes (lK I q (congrArg not fB0))
  |_=>exact absurd (show false=true from hs) Bool.false_ne_true
 |_=>cases y<;>exact absurd (show false=true from hs) Bool.false_ne_true
theorem fB1:cQ X (compareOp .Lt) (tU fun i j=>.bl (decide (i<j))):=cA2 fun _ _ _ _ _ _ _ q=>lt_int q
theorem fB2:cQ X (compareOp .LtE) (tU fun i j=>.bl (decide (i<=j))):=cA2 fun _ _ _ _ _ _ _ q=>le_int q
theorem fB3:cQ X (compareOp .Gt) (tU fun i j=>.bl (decide (j<i))):=cA2 fun _ _ _ _ _ _ _ q=>gt_int q
theorem fB4:cQ X (compareOp .Lt) (fun x y H Q=>∃i j,x= .str i/\y= .str j/\Q (.bl (decide (i.cps.toList<j.cps.toList))) H):=by
 intro pc s Y H x y v u Q I rx ry h
 obtain⟨i,j,rfl,rfl,q⟩:=h
 obtain⟨t,rfl⟩:=rx
 obtain⟨t',rfl⟩:=ry
 exact lt_str (lK I q rfl)
theorem fB5(b:Expr){op:CmpOp}(h:op≠ .In:=by decide)(h2:op≠ .NotIn:=by decide):behindInMarks op b=false:=by
 have e1:(op==CmpOp.In)=false:=by cases op<;>first|rfl|exact absurd rfl h
 have e2:(op==CmpOp.NotIn)=false:=by cases op<;>first|rfl|exact absurd rfl h2
 cases b<;>simp[behindInMarks,e1,e2]
theorem cS5{op:CmpOp}{r:R2}(ho:cQ X (compareOp op) r)(ha:PE X a ta)(hb:PE X b tb)(hm:behindInMarks op b=false):PE X (.Compare a [op] [b] pos) (tOp r ta tb):=by
 intro pc s Y H Q I h
 exact wpAny_Compare1 (bZ9 ha hb I h fun v u s2 x y H2 I2 rx ry q=>ho pc s2 Y H2 x y v u Q I2 rx ry q) hm
noncomputable def cS6(t:TE):TT:=fun Y H Q=>t Y H fun x H'=>∃k,x= .bl k/\Q k H'
theorem cS7{op:CmpOp}{r:R2}(ho:cQ X (compareOp op) r)(ha:PE X a ta)(hb:PE X b tb)(hm:behindInMarks op b=false):PT X (.Compare a [op] [b] pos) (cS6 (tOp r ta tb)):=by
 intro pc s Y H Q I h
 refine wpAny_isTrue_Compare1 (bX (ha pc s Y H _ I h) fun v s1 ⟨x,H1,I1,r1,q1⟩=>bX (hb pc s1 Y H1 _ I1 q1) fun u s2 ⟨y,H2,I2,r2,q2⟩=>
  bX (ho pc s2 Y H2 x y v u _ I2 r1 r2 q2) fun c s3 ⟨z,H3,I3,r3,k,e,q3⟩=>?_) hm
 subst e
 cases r3
 exact wpAny_truthy_bool ⟨H3,I3,q3⟩
noncomputable def cA4(r r':R2)(ta tb tc:TE):TE:=fun Y H Q=>ta Y H fun x H1=>tb Y H1 fun y H2=>r x y H2 fun z H3=>∃k,z= .bl k/\
 (if k=true then tc Y H3 fun w' H4=>r' y w' H4 Q else Q (.bl false) H3)
theorem fB6{op op':CmpOp}{r r':R2}(ho:cQ X (compareOp op) r)(ho':cQ X (compareOp op') r')(ha:PE X a ta)(hb:PE X b tb)(hc:PE X c tc)
 (hm:lastMarks [op,op'] [b,c]=false:=by with_unfolding_all rfl):PE X (.Compare a [op,op'] [b,c] pos) (cA4 r r' ta tb tc):=by
 intro pc s Y H Q I h
 refine Compare_chain (bX (ha pc s Y H _ I h) fun v s1 ⟨x,H1,I1,r1,q1⟩=>chain_link (bX (hb pc s1 Y H1 _ I1 q1) fun u s2 ⟨y,H2,I2,r2,q2⟩=>
  bX (ho pc s2 Y H2 x y v u _ I2 r1 r2 q2) fun d s3 ⟨z,H3,I3,r3,k,e,q3⟩=>?_)) hm
 subst e
 cases r3
 refine wpAny_truthy_bool ?_
 cases k with
 |false=>exact ite_ff ⟨.bl false,H3,I3,rfl,q3⟩
 |true=>exact ite_tt (chain_last (bX (hc pc s3 Y H3 _ I3 q3) fun w' s4 ⟨z',H4,I4,r4,q4⟩=>ho' pc s4 Y H4 y z' u w' Q I4 r2 r4 q4))
theorem fB7{op op':CmpOp}{r r':R2}(ho:cQ X (compareOp op) r)(ho':cQ X (compareOp op') r')(ha:PE X a ta)(hb:PE X b tb)(hc:PE X c tc)
 (hm:lastMarks [op,op'] [b,c]=false:=by with_unfolding_all rfl):PT X (.Compare a [op,op'] [b,c] pos) (cS6 (cA4 r r' ta tb tc)):=by
 intro pc s Y H Q I h
 refine isTrue_chain (bX (ha pc s Y H _ I h) fun v s1 ⟨x,H1,I1,r1,q1⟩=>test_link (bX (hb pc s1 Y H1 _ I1 q1) fun u s2 ⟨y,H2,I2,r2,q2⟩=>
  bX (ho pc s2 Y H2 x y v u _ I2 r1 r2 q2) fun d s3 ⟨z,H3,I3,r3,k,e,q3⟩=>?_)) hm
 subst e
 cases r3
 refine wpAny_truthy_bool ?_
 cases k with
 |false=>
  obtain⟨k',e',q'⟩:=q3
  cases e'
  exact ite_ff ⟨H3,I3,q'⟩
 |true=>
  refine ite_tt (test_last (bX (hc pc s3 Y H3 _ I3 q3) fun w' s4 ⟨z',H4,I4,r4,q4⟩=>bX (ho' pc s4 Y H4 y z' u w' _ I4 r2 r4 q4) fun d' s5 ⟨z2,H5,I5,r5,k2,e2,q5⟩=>?_))
  subst e2
  cases r5
  exact wpAny_truthy_bool ⟨H5,I5,q5⟩
def cA5(K:W.Frag)(x:V)(H:Hp)(k:Bool):Prop:=
 match x with
 | .non=>k=false
 | .bl b=>k=b
 | .int i=>k=(i != 0)
 | .str y=>y.length<=sizeLine/\k=((y.length:Int) != 0)
 | .byt y=>y.size<=sizeLine/\k=((y.size:Int) != 0)
 | .ref p=>(∃xs,dO K H p xs/\k= !xs.isEmpty)\/(∃xs,gL K H p xs/\k= !xs.isEmpty)\/ ∃kvs,H p=some (.dK kvs)/\k= !kvs.isEmpty
 |_=>False
theorem fB8{κ:Type}{kvs:List (κ×V)}{vs:List (κ×Value)}(r:KV kvs vs):(!vs.isEmpty)= !kvs.isEmpty:=by
 cases r<;>rfl
theorem cS8{xs:List V}{its:List Value}(r:bV xs its):(!its.toArray.isEmpty)= !xs.isEmpty:=by
 cases r<;>simp
theorem zQ:(sizeLine:Nat)<2^63:=by rw[sizeLine_eq];decide
theorem fB9:dZ3 X (fun x H Q=>∃k,cA5 X.K x H k/\Q k H):=by
 intro pc s Y H x v Q I rx h
 obtain⟨k,e,q⟩:=h
 have hl:=zQ
 have hs:sizeLine=16777216:=sizeLine_eq
 cases x with
 |non=>
  cases rx
  have e':k=false:=e
  subst e'
  exact truthy_none ⟨H,I,q⟩
 |bl b=>
  cases rx
  have e':k=b:=e
  subst e'
  exact wpAny_truthy_bool ⟨H,I,q⟩
 |int i=>
  obtain⟨t,rfl⟩:=rx
  have e':k=(i != 0):=e
  subst e'
  exact PySem.P.truthy_int ⟨H,I,q⟩
 |str y=>
  obtain⟨t,rfl⟩:=rx
  obtain⟨hy,e'⟩:y.length<=sizeLine/\k=((y.length:Int) != 0):=e
  subst e'
  exact PySem.P.truthy_str bD ⟨H,I.tok _,q⟩
 |byt y=>
  obtain⟨t,rfl⟩:=rx
  obtain⟨hy,e'⟩:y.size<=sizeLine/\k=((y.size:Int) != 0):=e
  subst e'
  exact W.truthy_bytes bD ⟨H,I.tok _,q⟩
 |ref p=>
  cases rx
  have e':(∃xs,dO X.K H p xs/\k= !xs.isEmpty)\/(∃xs,gL X.K H p xs/\k= !xs.isEmpty)\/ ∃kvs,H p=some (.dK kvs)/\k= !kvs.isEmpty:=e
  rcases e' with⟨xs,hx,e'⟩|⟨xs,hx,e'⟩|⟨kvs,hx,e'⟩
  ·subst e'
   obtain⟨its,r,pl,hz⟩:=I.list hx
   have hlen:=r.length
   exact wpAny_truthy_list pl.isList (by simp only[size_toArray];omega) ⟨H,I.tok _,by rw[cS8 r];exact q⟩
  ·subst e'
   obtain⟨its,r,pl,hz⟩:=I.tuple hx
   have hlen:=r.length
   exact truthy_tuple pl (by simp only[size_toArray];omega) ⟨H,I.tok _,by rw[cS8 r];exact q⟩
  ·subst e'
   obtain⟨hz,hS,vs,r,m⟩:kvs.length<=sizeLine/\(p==sysModules)=false/\ ∃vs,KV kvs vs/\s.heap.DictOf (lZ X.prog X.w) p vs:=I.hok p _ hx
   have hlen:kvs.length=vs.length:=Paired.length r
   exact wpAny_truthy_dict hS m bD ⟨H,I.tok _,by rw[fB8 r];exact q⟩
 |_=>exact(show False from e).elim
theorem fC0(ha:PE X a ta)(he:∀whole,isTrue a X.env whole=(do let v <-whole;standAt a.pos;holding [v] (truthy v))):
 PT X a (fun Y H Q=>ta Y H fun x H'=>∃k,cA5 X.K x H' k/\Q k H'):=by
 intro pc s Y H Q I h
 exact isTrue_plain (bX (ha pc s Y H _ I h) fun v s1 ⟨x,H1,I1,r1,q1⟩=>fB9 pc s1 Y H1 x v Q I1 r1 q1) (he _)
theorem fC1:cQ X (binaryOp .Add) (fun x y H Q=>∃i j,x= .str i/\y= .str j/\i.length+j.length<=sizeLine/\Q (.str (i++j)) H):=by
 intro pc s Y H x y v u Q I rx ry h
 obtain⟨i,j,rfl,rfl,hz,q⟩:=h
 obtain⟨t,rfl⟩:=rx
 obtain⟨t',rfl⟩:=ry
 exact add_str (fun t' tk=>⟨.str (i++j),H,I.tok _,⟨_,rfl⟩,q⟩) hz
theorem nL{x:V}{us:List Value}(r:bV [x] us):∃u,us= [u]/\cG x u:=by
 cases r with
 |cons r1 r2=>cases r2;exact⟨_,rfl,r1⟩
theorem cA6{x y:V}{us:List Value}(r:bV [x,y] us):∃u w',us= [u,w']/\cG x u/\cG y w':=by
 cases r with
 |cons r1 r2=>
  cases r2 with
  |cons r3 r4=>cases r4;exact⟨_,_,rfl,r1,r3⟩
theorem fC2(hc:X.calm=true):gM X (.builtin "max") (fun xs H Q=>∃i j,xs= [.int i,.int j]/\Q (.int (if j>i then j else i)) H):=by
 intro pc s Y H xs us Q I r h
 obtain⟨i,j,rfl,q⟩:=h
 obtain⟨u,w',rfl,⟨t,rfl⟩,⟨t',rfl⟩⟩:=cA6 r
 refine max_two_ints (I.ok.hd hc) fun h' tk k=>⟨_,H,I.kept k,?_,q⟩
 by_cases hj:j>i
 ·rw[if_pos hj,if_pos hj];exact⟨_,rfl⟩
 ·rw[if_neg hj,if_neg hj];exact⟨_,rfl⟩
theorem fC3(hc:X.calm=true):gM X (.builtin "min") (fun xs H Q=>∃i j,xs= [.int i,.int j]/\Q (.int (if j<i then j else i)) H):=by
 intro pc s Y H xs us Q I r h
 obtain⟨i,j,rfl,q⟩:=h
 obtain⟨u,w',rfl,⟨t,rfl⟩,⟨t',rfl⟩⟩:=cA6 r
 refine min_two_ints (I.ok.hd hc) fun h' tk k=>⟨_,H,I.kept k,?_,q⟩
 by_cases hj:j<i
 ·rw[if_pos hj,if_pos hj];exact⟨_,rfl⟩
 ·rw[if_neg hj,if_neg hj];exact⟨_,rfl⟩
theorem cS9:gM X (.type "int") (fun xs H Q=>(∃i,xs= [.int i]/\Q (.int i) H)\/ ∃k,xs= [.bl k]/\Q (.int (if k then 1 else 0)) H):=by
 intro pc s Y H xs us Q I r h
 rcases h with⟨i,rfl,q⟩|⟨k,rfl,q⟩
 ·obtain⟨u,rfl,t,rfl⟩:=nL r
  exact call_int_int ⟨.int i,H,I,⟨_,rfl⟩,q⟩
 ·obtain⟨u,rfl,r1⟩:=nL r
  cases r1
  exact call_int_bool ⟨.int (if k then 1 else 0),H,I.tok _,⟨_,rfl⟩,q⟩
theorem fC4:gM X (.type "str") (fun xs H Q=>∃i,xs= [.int i]/\i.natAbs.log2<1920/\Q (.str (toString i)) H):=by
 intro pc s Y H xs us Q I r h
 obtain⟨i,rfl,hz,q⟩:=h
 obtain⟨u,rfl,t,rfl⟩:=nL r
 exact PySem.P.str_of_int hz ⟨.str _,H,I.tok _,⟨_,rfl⟩,q⟩
end
end L2
namespace L2
open PySem PySem.Spec PyProof.Rows
structure xF(h:Heap)(x dx C:Addr)(mA:Str->Option Value):Prop where
 obj:h.get? x=some (W.instObj C dx)
 ns:h.Ns1 dx mA
 ne:dx≠x
theorem fC5{h:Heap}{dx:Addr}{mA:Str->Option Value}(n:h.Ns1 dx mA):∃od,h.get? dx=some od/\ ∀name,W.lookIn name od=some (mA name):=by
 obtain⟨o,es,ep,ho,hd,hk,_,hm⟩:=n
 refine⟨o,ho,fun name=>?_⟩
 have e:=hm name
 unfold nsFind findBy at e
 rw[<-Array.find?_toList]at e
 unfold W.lookIn
 rw[hd]
 dsimp only
 split
 ·rename_i y q
  rw[q]at e
  exact congrArg some e
 ·rename_i q
  rw[q]at e
  have a:es.toList.any (·.refKey)=false:=by
   rw[List.any_eq_false]
   intro y hy
   obtain⟨z,t,hkey⟩:=hk y (Array.mem_toList_iff.mp hy)
   simp[DictEntry.refKey,hkey]
  have a': ¬ es.toList.any (·.refKey)=true:=by rw[a];exact Bool.false_ne_true
  rw[if_neg a']
  exact congrArg some e
theorem xF.look{h:Heap}{x dx C:Addr}{mA:Str->Option Value}(I:xF h x dx C mA):∃od,W.InstAt h x (W.instObj C dx) C (some od)/\ ∀name,W.lookIn name od=some (mA name):=
 let ⟨od,ho,hl⟩:=fC5 I.ns
 ⟨od,⟨I.obj,rfl,rfl,ho⟩,hl⟩
section
variable{prog:Program}{w:World}{A:Around}{E:Value->Shared->Prop}{s:Shared}{K:W.Frag}{x dx C f:Addr}{mA:Str->Option Value}{name:Str}{v:Value}
theorem fC6{expr:Bool}{Q:Value->Shared->Prop}(X:K.In s.heap)(I:xF s.heap x dx C mA)(hg:W.plainGet K C name=true)(hh:W.hasDictIn K C=true)
 (ha:findIn K (.ref C) name=some none) (hv:mA name=some v) (hv':W.handedIn v=true) (h:Q v {s with toks:=s.toks+1}):
 wpAny (model prog w) A (getAttr (.ref x) name expr) Q E s:=by
 obtain⟨od,J,hl⟩:=I.look
 exact W.get_value X J (W.plainGet_of hg).1 (W.findObj_own hh ha rfl (by rw[hl,hv])) hv' h
theorem fC7{pl:Sem Bool}{Q:Value×List Value->Shared->Prop}(X:K.In s.heap)(I:xF s.heap x dx C mA)(hg:W.plainGet K C name=true)
 (hf:findIn K (.ref C) name=some (some (.ref f))) (ht:W.isFn K (.ref f)=true) (hv:mA name=none) (h:Q (.ref f,[.ref x]) s):
 wpAny (model prog w) A (getMethod (.ref x) name pl) Q E s:=by
 obtain⟨od,J,hl⟩:=I.look
 exact W.method_fn X J (W.plainGet_of hg).1 (W.plainGet_of hg).2 hf (beq_iff_eq.mp ht) (by show(W.lookIn name od).map (·.isSome)=some false;rw[hl,hv];rfl) h
theorem fC8{ns:List Str}{Q:Unit->Shared->Prop}(X:K.In s.heap)(I:xF s.heap x dx C mA)
 (hs:findIn K (.ref C) "__setattr__" =some (some (.builtin "object.__setattr__"))) (hp:W.plainOver K C=true) (ht:W.takerIn K C name=some none) (hh:W.hasDictIn K C=true)
 (hw:PySem.Within mA ns) (hsz:ns.length<=sizeLine)
 (h:∀h',xF h' x dx C (fun y=>if y=name then some v else mA y)->Heap.SameBut dx s.heap h'->Q () {s with heap:=h',toks:=s.toks+2}):
 wpAny (model prog w) A (setAttr (.ref x) name v) Q E s:=by
 obtain⟨od,J,hl⟩:=I.look
 refine W.set_plain X J hs (W.osa_open (s:={s with toks:=s.toks+1}) (r:=none) X J hp ht fun b=>?_)
 obtain⟨cd,hc,hd'⟩:=W.any_some hh
 have hx:s.heap.get? x=some ⟨.ref C,some dx,.plain, #[]⟩:=I.obj
 refine wpAny_bind (wpAny_pure (wpAny_bind (wpAny_bind (wpAny_loadPart hx (wpAny_bind (W.Looks.here (s:={s with toks:=s.toks+1}) (W.looks_clsIn X hc) ?_))))))
 rw[hd']
 refine wpAny_pure (a:=some dx) (wpAny_bind (wpAny_pure (wpAny_bind ?_)))
 refine wpAny_nsSet1 (s:={s with toks:=s.toks+1}) I.ns fun h' hn2 hs2=>?_
 obtain⟨oD,esD,epD,hoD,hdD,hcD⟩:=hn2.count (PySem.Within.cons name v hw)
 refine wpAny_bind (wpAny_lookBehind hoD (by rw[hdD];exact pastItsLine_dict (le_trans hcD (by rw[length_cons];omega))) ?_)
 exact wpAny_pure (h _ ⟨(hs2.2 _ (symm I.ne)).trans I.obj,hn2,I.ne⟩ hs2)
theorem fC9{R:Result->Shared->Prop}{vs:List Value}{kw:List (Str×Value)}(X:K.In s.heap)(hm:W.makesIn K C=true)
 (hi:findIn K (.ref C) "__init__" =some (some (.ref f))) (hf:W.typeIn K (.ref f)=some (.type "function"))
 (h:codeAny (model prog w) (A.under (.builtin "type.__call__" ⟨.ref C::vs,kw⟩)) (.call (.ref f) ⟨.ref (s.heap.objs.size+1)::vs,kw⟩) (W.InitBack (s.heap.objs.size+1) R)
   {s with heap:=(s.heap.push W.emptyDict).push (W.instObj C s.heap.objs.size)}):
 codeAny (model prog w) A (.call (.ref C) ⟨vs,kw⟩) R s:=by
 obtain⟨hh,g,d,t,os⟩:=s
 exact W.make_core (W.makes_of X hm) (W.looks_findIn X hi) (fun self=>W.bind_fn X self hf) (.inl rfl) h
end
noncomputable def lL(f:Str)(v:V):List (Str×V)->List (Str×V)
 | []=>[(f,v)]
 | (g,x)::r=>if g=f then(g,v)::r else(g,x)::lL f v r
theorem cT0(f g:Str)(v:V):∀fs:List (Str×V),(lL f v fs).lookup g=if g=f then some v else fs.lookup g
 | []=>by
  show List.lookup g [(f,v)]=_
  by_cases h:g=f
  ·have hb:(g==f)=true:=beq_iff_eq.mpr h
   simp only[List.lookup,hb,if_pos h]
  ·have hb:(g==f)=false:=beq_eq_false_iff_ne.mpr h
   simp only[List.lookup,hb,if_neg h]
 | (k,x)::r=>by
  have ih:=cT0 f g v r
  rw[show lL f v ((k,x)::r)=(if k=f then(k,v)::r else(k,x)::lL f v r)from rfl]
  by_cases hk:k=f
  ·rw[if_pos hk]
   by_cases h:g=k
   ·have hb:(g==k)=true:=beq_iff_eq.mpr h
    simp only[List.lookup,hb,if_pos (h.trans hk)]
   ·have hb:(g==k)=false:=beq_eq_false_iff_ne.mpr h
    simp only[List.lookup,hb,if_neg (fun e:g=f=>h (e.trans hk.symm))]
  ·rw[if_neg hk]
   by_cases h:g=k
   ·have hb:(g==k)=true:=beq_iff_eq.mpr h
    simp only[List.lookup,hb,if_neg (fun e:g=f=>hk (h.symm.trans e))]
   ·have hb:(g==k)=false:=beq_eq_false_iff_ne.mpr h
    simp only[List.lookup,hb]
    exact ih
theorem cA7(f:Str)(v:V):∀fs:List (Str×V),f∈(lL f v fs).map (·.1)/\ ∀g,g∈fs.map (·.1)->g∈(lL f v fs).map (·.1)
 | []=>⟨by simp[lL],fun g h=>by simp at h⟩
 | (k,x)::r=>by
  obtain⟨i1,i2⟩:=cA7 f v r
  rw[show lL f v ((k,x)::r)=(if k=f then(k,v)::r else(k,x)::lL f v r)from rfl]
  by_cases hk:k=f
  ·rw[if_pos hk]
   subst hk
   exact⟨by simp,fun g h=>by simpa using h⟩
  ·rw[if_neg hk]
   refine⟨?_,fun g h=>?_⟩
   ·rw[map_cons]
    exact mem_cons_of_mem _ i1
   ·rw[map_cons]at h ⊢
    rcases List.mem_cons.mp h with e|e
    ·exact List.mem_cons.mpr (.inl e)
    ·exact mem_cons_of_mem _ (i2 g e)
theorem cT1(f:Str)(v:V):∀fs:List (Str×V),(lL f v fs).length<=fs.length+1
 | []=>by simp[lL]
 | (k,x)::r=>by
  have ih:=cT1 f v r
  rw[show lL f v ((k,x)::r)=(if k=f then(k,v)::r else(k,x)::lL f v r)from rfl]
  by_cases hk:k=f
  ·rw[if_pos hk,length_cons,length_cons];omega
  ·rw[if_neg hk,length_cons,length_cons];omega
theorem RelO.some_of{v:V}{o:Option Value}(r:RelO (some v) o):∃u,o=some u/\cG v u:=by
 cases o with
 |none=>exact(show False from r).elim
 |some u=>exact⟨u,rfl,r⟩
theorem RelO.none_of{o:Option Value}(r:RelO none o):o=none:=by
 cases o with
 |none=>rfl
 |some u=>exact(show False from r).elim
theorem fD0{v:V}{u:Value}(r:cG v u):W.handedIn u=true:=by
 cases v with
 |non=>cases(show u=Value.none from r);rfl
 |bl b=>cases(show u=Value.bool b from r);rfl
 |int i=>obtain⟨t,e⟩:=(show ∃t,u=Value.int i t from r);cases e;rfl
 |str x=>obtain⟨t,e⟩:=(show ∃t,u=Value.str x t from r);cases e;rfl
 |byt b=>obtain⟨t,e⟩:=(show ∃t,u=Value.bytes b t from r);cases e;rfl
 |flt b=>obtain⟨t,e⟩:=(show ∃t,u=Value.float b t from r);cases e;rfl
 |ref a=>cases(show u=Value.ref a from r);rfl
 |ty n=>cases(show u=Value.type n from r);rfl
section
variable{P:Program}{w:World}{H H':Hp}{h h':Heap}{a C dx:Addr}{fs fs':List (Str×V)}
theorem cA8(hok:jE P w H h)(e:H a=some (.ins C dx fs)):∃mA,xF h a dx C mA/\(∀f,RelO (fs.lookup f) (mA f))/\PySem.Within mA (fs.map (·.1))/\fs.length<=1000/\H dx=some (.own a):=by
 obtain⟨d,z,ne,ob,mA,n,r,q⟩:=(show mX P w H h a (.ins C dx fs)from hok a _ e)
 exact⟨mA,⟨ob,n,ne⟩,r,q,z,d⟩
end
structure mD(K:W.Frag)(C:Addr):Prop where
 pg:W.plainGet K C Str.empty=true
 hd:W.hasDictIn K C=true
 po:W.plainOver K C=true
 sa:findIn K (.ref C) "__setattr__" =some (some (.builtin "object.__setattr__"))
theorem mD.get{K:W.Frag}{C:Addr}(c:mD K C)(f:Str):W.plainGet K C f=true:=c.pg
def tV(K:W.Frag)(C:Addr)(f:Str):Prop:=findIn K (.ref C) f=some none
theorem tV.taker{K:W.Frag}{C:Addr}{f:Str}(n:tV K C f):W.takerIn K C f=some none:=by
 unfold W.takerIn
 rw[show findIn K (.ref C) f=some none from n]
 rfl
structure Con(K:W.Frag)(C:Addr)(f:Str)(v:V)(u:Value):Prop where
 at_:findIn K (.ref C) f=some (some u)
 rel:cG v u
 get:W.specialIn K u "__get__" =some none
 cp:W.copiedNames.contains f=false
structure vW(K:W.Frag)(C:Addr)(m:Str)(f:Addr):Prop where
 at_:findIn K (.ref C) m=some (some (.ref f))
 fn:W.isFn K (.ref f)=true
 kp:keepIn K (.ref f)=true
section
variable{X:Cx}{pc:List (Addr×Obj)}{Y:St}{H:Hp}{s:Shared}{a C dx:Addr}{fs:List (Str×V)}{f:Str}{v:V}{A:Around}{E:Value->Shared->Prop}
theorem cT2{b:Bool}{Q:Value->Shared->Prop}(I:bE X pc Y H s)(e:H a=some (.ins C dx fs))(c:mD X.K C)(n:tV X.K C f)(l:fs.lookup f=some v)
 (h:∀u s',bE X pc Y H s'->cG v u->Q u s'):wpAny (model X.prog X.w) A (getAttr (.ref a) f b) Q E s:=by
 obtain⟨mA,Oa,r,_,_,_⟩:=cA8 I.hok e
 obtain⟨u,hu,ru⟩:=RelO.some_of (v:=v) (o:=mA f) (by rw[<-l];exact r f)
 exact fC6 I.kIn Oa (c.get f) c.hd n hu (fD0 ru) (h u _ (I.tok _) ru)
theorem cT3{m:Str}{g:Addr}{pl:Sem Bool}{Q:Value×List Value->Shared->Prop}(I:bE X pc Y H s)(e:H a=some (.ins C dx fs))(c:mD X.K C)(k:vW X.K C m g)(l:fs.lookup m=none)
 (h:Q (.ref g,[.ref a]) s):wpAny (model X.prog X.w) A (getMethod (.ref a) m pl) Q E s:=by
 obtain⟨mA,Oa,r,_,_,_⟩:=cA8 I.hok e
 have hn:mA m=none:=RelO.none_of (by rw[<-l];exact r m)
 exact fC7 I.kIn Oa (c.get m) k.at_ k.fn hn h
theorem cT4{y:V}{u:Value}{Q:Unit->Shared->Prop}(I:bE X pc Y H s)(e:H a=some (.ins C dx fs))(c:mD X.K C)(n:tV X.K C f)(hl:fs.length<1000)(ry:cG y u)
 (h:∀s',bE X pc Y (upd H a (.ins C dx (lL f y fs))) s'->Q () s'):wpAny (model X.prog X.w) A (setAttr (.ref a) f u) Q E s:=by
 obtain⟨mA,Oa,r,wi,_,ho⟩:=cA8 I.hok e
 have hz:(fs.map (·.1)).length<=sizeLine:=by rw[length_map,sizeLine_eq];omega
 refine fC8 I.kIn Oa c.sa c.po n.taker c.hd wi hz fun h' O' sb=>h _ ?_
 have hd:∃o,h'.get? dx=some o:=let ⟨o,_,_,e',_⟩:=O'.ns;⟨o,e'⟩
 refine I.write (x:=a) (e:=dx) (by rw[e];exact True.intro) (.inr ho) (fun b q hb z=>(sb.2 b hb).trans z) hd ?_
 refine⟨by rw[cK Oa.ne];exact ho,?_,Oa.ne,O'.obj,_,O'.ns,fun g=>?_,fun g hg=>?_⟩
 ·have:=cT1 f y fs;omega
 ·show RelO ((lL f y fs).lookup g) (if g=f then some u else mA g)
  rw[cT0]
  by_cases q:g=f
  ·rw[if_pos q,if_pos q];exact ry
  ·rw[if_neg q,if_neg q];exact r g
 ·by_cases q:g=f
  ·rw[q];exact(cA7 f y fs).1
  ·refine(cA7 f y fs).2 g (wi g fun z=>hg ?_)
   show(if g=f then some u else mA g)=none
   rw[if_neg q];exact z
theorem bE.made(I:bE X pc Y H s):bE X pc Y (upd (upd H s.heap.objs.size (.own (s.heap.objs.size+1))) (s.heap.objs.size+1) (.ins C s.heap.objs.size []))
 {s with heap:=(s.heap.push W.emptyDict).push (W.instObj C s.heap.objs.size)}:=by
 have e1:(s.heap.push W.emptyDict).get? s.heap.objs.size=some W.emptyDict:=get?_push_size s.heap rfl
 have e2:((s.heap.push W.emptyDict).push (W.instObj C s.heap.objs.size)).get? (s.heap.objs.size+1)=some (W.instObj C s.heap.objs.size):=by
  have:=get?_push_size (s.heap.push W.emptyDict) (o:=W.instObj C s.heap.objs.size) rfl
  rwa [size_push]at this
 have e3:(s.heap.push W.emptyDict).Ns s.heap.objs.size (fun _=>none):=⟨W.emptyDict, #[],_,e1,rfl,(fun e he=>absurd he (by simp)),fun _=>rfl⟩
 have I1:=I.laid (a:=s.heap.objs.size) (o:=.own (s.heap.objs.size+1)) (h':=s.heap.push W.emptyDict) (t':=s.toks) (fun b u q=>get?_push_of_some _ q) (le_refl _) ⟨_,e1⟩
 refine I1.laid (a:=s.heap.objs.size+1) (o:=.ins C s.heap.objs.size []) (t':=s.toks) (fun b u q=>get?_push_of_some _ q) (Nat.le_of_eq (size_push _ _)) ?_
 have ne:s.heap.objs.size≠s.heap.objs.size+1:=ne_of_lt (Nat.lt_succ_self _)
 refine⟨by rw[cK ne,dY],zero_le _,ne,e2,fun _=>none,(Heap.Ns1.of_empty e3).at fun o q=>get?_push_of_some _ q,fun _=>True.intro,fun y hy=>absurd rfl hy⟩
theorem fD1{prog:Program}{w:World}{env:Env}{e:Expr}{f:Str}{pos:Pos}{s:Shared}{Q:Value->Shared->Prop}(hb:attributeBase e f env (eval e env)=eval e env)
 (h:wpAny (model prog w) A (eval e env) (fun o s₁=>wpAny (model prog w) A (getAttr o f true) Q E s₁) E s):wpAny (model prog w) A (eval (.Attribute e f pos) env) Q E s:=
 Attribute_any_ h (by rw[arm_eval_Attribute,hb])
end
def fD2(K:W.Frag)(ta:TE)(f:Str):TE:=fun Y H Q=>ta Y H fun x H1=>∃a C dx fs v,x= .ref a/\H1 a=some (.ins C dx fs)/\mD K C/\tV K C f/\fs.lookup f=some v/\Q v H1
def fD3(K:W.Frag)(ta tv:TE)(f:Str):TS:=fun D Y H=>tv Y H fun y H1=>ta Y H1 fun x H2=>∃a C dx fs,x= .ref a/\H2 a=some (.ins C dx fs)/\mD K C/\tV K C f/\fs.length<1000/\
 D.nx Y (upd H2 a (.ins C dx (lL f y fs)))
def cT5(X:Cx)(op:Operator)(rd:V->V->Hp->VK->Prop):Prop:=
 ∀(pc:List (Addr×Obj)) (s:Shared) (Y:St) (H:Hp) (x y:V) (u v:Value) (Q:VK),bE X pc Y H s->cG x u->cG y v->rd x y H Q->wpAny (model X.prog X.w) X.A (inplaceOp op u v) (EP X pc Y Q) X.xe s
def fD4(K:W.Frag)(ta tv:TE)(rd:V->V->Hp->VK->Prop)(f:Str):TS:=fun D Y H=>ta Y H fun x H1=>∃a C dx fs v,x= .ref a/\H1 a=some (.ins C dx fs)/\mD K C/\tV K C f/\fs.lookup f=some v/\
 tv Y H1 fun y H2=>rd v y H2 fun z H3=>∃dx' fs',H3 a=some (.ins C dx' fs')/\fs'.length<1000/\D.nx Y (upd H3 a (.ins C dx' (lL f z fs')))
section
variable{X:Cx}{o e value:Expr}{f:Str}{pos pos' tpos:Pos}{ta tv:TE}
theorem cT6(he:PE X e ta)(hb:attributeBase e f X.env (eval e X.env)=eval e X.env):PE X (.Attribute e f pos) (fD2 X.K ta f):=by
 intro pc s Y H Q I h
 refine fD1 hb (bX (he pc s Y H _ I h) fun u s1 qz=>?_);obtain⟨x,H1,I1,rx,a,C,dx,fs,v,ex,ea,c,n,l,q⟩:=qz
 subst ex
 obtain rfl:u=Value.ref a:=rx
 exact cT2 I1 ea c n l fun u' s2 I2 ru=>⟨v,H1,I2,ru,q⟩
theorem cT7(ha:PE X o ta)(hv:PE X value tv)(hs:swapsWith value (some (.Attribute o f pos')) pos.line X.env=pure false):PS X (.Assign [.Attribute o f pos'] value pos) (fD3 X.K ta tv f):=by
 intro pc s Y H D I h
 refine plainObj_wpAny_Assign_Attribute (bX (hv pc s Y H _ I h) fun u s1 ⟨y,H1,I1,ry,q⟩=>bX (ha pc s1 Y H1 _ I1 q) fun ov s2 qz=>?_) hs;obtain⟨x,H2,I2,rx,a,C,dx,fs,ex,ea,c,n,l,q2⟩:=qz
 subst ex
 obtain rfl:ov=Value.ref a:=rx
 exact cT4 I2 ea c n l ry fun s3 I3=>⟨Y,_,I3,q2⟩
theorem fD5{op:Operator}{rd:V->V->Hp->VK->Prop}(ha:PE X o ta)(hv:PE X value tv)(hop:cT5 X op rd):PS X (.AugAssign (.Attribute o f tpos) op value pos) (fD4 X.K ta tv rd f):=by
 intro pc s Y H D I h
 refine wpAny_AugAssign_AttributeAny (bX (ha pc s Y H _ I h) fun ov s1 qz=>?_);obtain⟨x,H1,I1,rx,a,C,dx,fs,v,ex,ea,c,n,l,q⟩:=qz
 subst ex
 obtain rfl:ov=Value.ref a:=rx
 refine cT2 I1 ea c n l fun u s2 I2 ru=>bX (hv pc s2 Y H1 _ I2 q) fun w3 s3 ⟨y,H2,I3,ry,q3⟩=>bX (hop pc s3 Y H2 v y u w3 _ I3 ru ry q3) fun w4 s4 qz=>?_;obtain⟨z,H3,I4,rz,dx',fs',ea',l',q4⟩:=qz
 exact cT4 I4 ea' c n l' rz fun s5 I5=>⟨Y,_,I5,q4⟩
def fD7:V->V->Hp->VK->Prop:=fun x y H Q=>∃i j,x= .int i/\y= .int j/\Q (.int (i+j)) H
theorem fE0:cT5 X .Add fD7:=by
 rintro pc s Y H x y u v Q I rx ry ⟨i,j,rfl,rfl,q⟩
 obtain⟨t,rfl⟩:=(show ∃t,u=Value.int i t from rx)
 obtain⟨t',rfl⟩:=(show ∃t',v=Value.int j t' from ry)
 exact PyProof.Rows.iadd_int ⟨.int (i+j),H,I.tok _,⟨_,rfl⟩,q⟩
end
section
variable{X:Cx}{pc:List (Addr×Obj)}{Y:St}{H:Hp}{s:Shared}{A:Around}{E:Value->Shared->Prop}{Q:Value->Shared->Prop}{c:Value}{b:Bool}
end
end L2
namespace L2
open PySem PySem.Spec PyProof.Rows
structure dH(k:Nat)(A:Around):Prop where
 hd:A.handled=none
 dp:A.depth+3*k+5<recursionLimit
 un:A.units+16*k+200<cLine
theorem dH.mono{j k:Nat}{A:Around}(r:dH k A)(h:j<=k):dH j A:=⟨r.hd,by have:=r.dp;omega,by have:=r.un;omega⟩
theorem dH.deeper{k:Nat}{A:Around}(r:dH (k+1) A)(env:Env):dH k (A.deeper env):=
 ⟨r.hd,by have:=r.dp;show A.depth+1+3*k+5<_;omega,by have:=r.un;show A.units+3+16*k+200<_;omega⟩
theorem fE1{A:Around}{C:Addr}{us:List Value}{kw:List (Str×Value)}:(A.under (.builtin "type.__call__" ⟨.ref C::us,kw⟩)).depth=A.depth+1:=by
 first|rfl|simp[Around.under,Code.weight,Code.isCreation,Code.isGuard,Code.isCaller,Code.frames,Code.isFrame,guardIds]
theorem fE2{A:Around}{C:Addr}{us:List Value}{kw:List (Str×Value)}:(A.under (.builtin "type.__call__" ⟨.ref C::us,kw⟩)).units=A.units+1:=by
 first|rfl|simp[Around.under,Code.cUnits,Code.frames,Code.isFrame]
theorem dH.make{k:Nat}{A:Around}(r:dH (k+1) A)(C:Addr)(us:List Value)(kw:List (Str×Value)):dH k (A.under (.builtin "type.__call__" ⟨.ref C::us,kw⟩)):=
 ⟨r.hd,by have:=r.dp;rw[fE1];omega,by have:=r.un;rw[fE2];omega⟩
theorem dH.depth{k:Nat}{A:Around}(r:dH k A):A.depth<recursionLimit:=by have:=r.dp;omega
theorem dH.units{k:Nat}{A:Around}(r:dH k A):A.units+64<cLine:=by have:=r.un;omega
noncomputable def cT8:TA:=fun _ H Q=>Q [] H
noncomputable def fE3(ta:TE)(tr:TA):TA:=fun Y H Q=>ta Y H fun x H1=>tr Y H1 fun xs H2=>Q (x::xs) H2
section
variable{X:Cx}{e:Expr}{es:List Expr}{te:TE}{t:TA}{pos:Pos}
theorem qA:PA X [] cT8:=fun _ _ _ _ H Q I h=>Calls.spliced_nil ⟨[],H,I,.nil,h⟩
theorem lM(ha:PE X e te)(hr:PA X es t)(hs:starEach (e::es) X.env=(false,eval e X.env)::starEach es X.env:=by rfl):PA X (e::es) (fE3 te t):=by
 intro pos pc s Y H Q I h
 rw[hs]
 show wpAny _ _ (spliced ((false,eval e X.env)::backTo pos (starEach es X.env))) _ _ s
 refine Calls.spliced_cons (bX (ha pc s Y H _ I h) fun u s1 ⟨x,H1,I1,r1,q1⟩=>?_)
 exact bX (hr pos pc s1 Y H1 _ I1 q1) fun us s2 ⟨xs,H2,I2,r2,q2⟩=>⟨x::xs,H2,I2,.cons r1 r2,q2⟩
def fE4(t:TA):TE:=fun Y H Q=>t Y H fun xs H1=>xs.length<=sizeLine/\ ∀p,H1 p=none->Q (.ref p) (upd H1 p (.tup xs))
def fE5(t:TA):TE:=fun Y H Q=>t Y H fun xs H1=>xs.length<=sizeLine/\ ∀p,H1 p=none->Q (.ref p) (upd H1 p (.lst xs))
theorem cT9{x1}(h:PA X es t):PE X (.Tuple es x1 pos) (fE4 t):=by
 intro pc s Y H Q I hq
 refine wpAny_Tuple_spliced (bX (h pos pc s Y H _ I hq) fun us s1 ⟨xs,H1,I1,r,z,q⟩=>⟨by rw[<-r.length];exact z,?_⟩)
 have hf:H1 s1.heap.objs.size=none:=I1.hok.fresh (le_refl _)
 refine⟨.ref s1.heap.objs.size,upd H1 s1.heap.objs.size (.tup xs),I1.laid (t':=s1.toks) (fun b u e=>get?_push_of_some _ e) (le_refl _) ?_,rfl,q _ hf⟩
 exact⟨z,us,r,⟨_,get?_push_size _ rfl,rfl,_,rfl⟩⟩
theorem cA9(h:PA X es t):PE X (.List es pos) (fE5 t):=by
 intro pc s Y H Q I hq
 refine wpAny_List_spliced (bX (h pos pc s Y H _ I hq) fun us s1 ⟨xs,H1,I1,r,z,q⟩=>⟨by rw[<-r.length];exact z,?_⟩)
 have hf:H1 s1.heap.objs.size=none:=I1.hok.fresh (le_refl _)
 refine⟨.ref s1.heap.objs.size,upd H1 s1.heap.objs.size (.lst xs),I1.laid (t':=s1.toks) (fun b u e=>get?_push_of_some _ e) (le_refl _) ?_,rfl,q _ hf⟩
 exact⟨z,us,0,r,get?_push_size _ rfl⟩
end
abbrev Sp:=List V->Hp->VK->XK->Prop
abbrev rT:=List Env->Hp->Shared->XK->Value->Shared->Prop
structure vX(P:Program)(w:World)(K:W.Frag)(mg:Str->Option Value)(base:Heap)(A:Around)(outer:List Env)(s:Shared)(H:Hp):Prop where
 frames:A.frames=some outer
 mod:Mod K mg base
 bs:∀b o,base.get? b=some o->s.heap.get? b=some o/\H b=none
 bsz:base.objs.size<=s.heap.objs.size
 funs:s.heap.FunFrames base outer
 frf:∀b∈lI outer,H b=none
 hok:jE P w H s.heap
 bare:AllBare s.gens
def CE(outer:List Env)(P:Program)(w:World)(H:Hp)(s:Shared)(Q:VK)(u:Value)(s':Shared):Prop:=
 ∃v H',s'.os=s.os/\AllBare s'.gens/\Un (lI outer) [] H H' s.heap s'.heap/\jE P w H' s'.heap/\cG v u/\Q v H'
def CR(CX:rT)(outer:List Env)(P:Program)(w:World)(H:Hp)(s:Shared)(Q:VK)(E:XK)(r:Result)(s':Shared):Prop:=
 match r with
 | .ok (.ret u)=>CE outer P w H s Q u s'
 | .ok _=>False
 | .error e=>CX outer H s E e s'
structure cS(P:Program)(w:World)(K:W.Frag)(mg:Str->Option Value)(base:Heap)(CX:rT)(k:Nat)(f:Addr)(fd:FuncData)(ps:List Str)(sp:Sp):Prop where
 len:∀vs H Q E,sp vs H Q E->vs.length=ps.length
 run:∀(A:Around) (outer:List Env) (s:Shared) (H:Hp) (args:Args) (us:List Value) (vs:List V) (Q:VK) (E:XK),dH k A->vX P w K mg base A outer s H->BindsTo s fd args (ps.zip us)->bV vs us->sp vs H Q E->
  codeAny (model P w) A (.call (.ref f) args) (CR CX outer P w H s Q E) s
theorem cS.imp{P:Program}{w:World}{K:W.Frag}{mg:Str->Option Value}{base:Heap}{CX:rT}{k:Nat}{f:Addr}{fd:FuncData}{ps:List Str}{sp sp':Sp}(F:cS P w K mg base CX k f fd ps sp)
 (h:∀vs H Q E,sp' vs H Q E->sp vs H Q E):cS P w K mg base CX k f fd ps sp':=
 ⟨fun vs H Q E q=>F.len vs H Q E (h _ _ _ _ q),fun A outer s H args us vs Q E hr he hb hv hs=>F.run A outer s H args us vs Q E hr he hb hv (h _ _ _ _ hs)⟩
theorem vX.make{P:Program}{w:World}{K:W.Frag}{mg:Str->Option Value}{base:Heap}{A:Around}{outer:List Env}{s:Shared}{H:Hp}(e:vX P w K mg base A outer s H)(C:Addr)(us:List Value)(kw:List (Str×Value)):
 vX P w K mg base (A.under (.builtin "type.__call__" ⟨.ref C::us,kw⟩)) outer s H:=⟨by first|exact e.frames| (simpa[Around.under,Code.envs,Code.isFrame,pushEnvs]using e.frames),e.mod,e.bs,e.bsz,e.funs,e.frf,e.hok,e.bare⟩
section
variable{X:Cx}{pc:List (Addr×Obj)}{Y:St}{H:Hp}{s s':Shared}
theorem bE.env0(I:bE X pc Y H s):vX X.prog X.w X.K X.mg X.base X.A X.stack s H:=
 ⟨I.ok.frames,I.ok.mod,I.bs,le_trans I.ok.bsz I.sz,I.stack,I.stkFree,I.hok,I.bare⟩
theorem bE.after{Q:VK}{u:Value}(I:bE X pc Y H s)(h:CE X.stack X.prog X.w H s Q u s'):EP X pc Y Q u s':=by
 obtain⟨v,H',os,bare,un,hok,r,q⟩:=h
 obtain⟨hh,g,d,t,os'⟩:=s'
 obtain rfl:os'=s.os:=os
 exact⟨v,H',I.call (h':=hh) (g':=g) (d':=d) (t':=t) (ch:=[]) un hok bare (fun b z=>absurd z (by simp)),r,q⟩
end
noncomputable def fE6(sp:Sp)(dvs:List V)(E:XK)(t:TA):TE:=fun Y H Q=>t Y H fun vs H1=>sp (vs++dvs) H1 Q E
def cU0(C:Addr)(m:Str)(sp:Sp)(dvs:List V)(E:XK)(ta:TE)(t:TA):TE:=fun Y H Q=>ta Y H fun x H1=>∃a dx fs,x= .ref a/\H1 a=some (.ins C dx fs)/\fs.lookup m=none/\
 t Y H1 fun vs H2=>sp (x::(vs++dvs)) H2 Q E
def fE7(C:Addr)(sp:Sp)(dvs:List V)(E:XK)(t:TA):TE:=fun Y H Q=>t Y H fun vs H1=>∀x dx,H1 x=none->H1 dx=none->dx≠x->
 sp (.ref x::(vs++dvs)) (upd (upd H1 dx (.own x)) x (.ins C dx [])) (fun v H2=>v= .non/\Q (.ref x) H2) E
def jK(K:W.Frag)(fd:FuncData)(ps:List Str)(ds:List Value):Prop:=
 ∀(s:Shared) (us:List Value),K.In s.heap->(us++ds).length=ps.length->BindsTo s fd ⟨us,[]⟩ (ps.zip (us++ds))
theorem jK.all{K:W.Frag}{fd:FuncData}{ps:List Str}(h:∀us:List Value,us.length=ps.length->bindArgs fd ⟨us,[]⟩=pure (ps.zip us)):jK K fd ps []:=fun s us _ hl=>by
 rw[append_nil]at hl ⊢
 exact .of_eq (h us hl)
def xG(CX:rT)(X:Cx)(E:XK):Prop:=∀(pc:List (Addr×Obj)) (Y:St) (H:Hp) (s:Shared) (e:Value) (s':Shared),bE X pc Y H s->CX X.stack H s E e s'->X.xe e s'
section
variable{X:Cx}{CX:rT}{k:Nat}{f C:Addr}{fd:FuncData}{ps:List Str}{sp:Sp}{dvs:List V}{ds:List Value}{E:XK}{x m:Str}{p pos apos:Pos}{e o:Expr}{es:List Expr}{ta:TE}{t:TA}
theorem bG1{pc:List (Addr×Obj)}{Y:St}{H:Hp}{s:Shared}{Q:VK}{us:List Value}{vs:List V}(F:cS X.prog X.w X.K X.mg X.base CX k f fd ps sp)(hr:dH k X.A)(hb:jK X.K fd ps ds)(hd:bV dvs ds)(hx:xG CX X E)
 (I:bE X pc Y H s) (r:bV vs us) (h:sp (vs++dvs) H Q E):wpAny (model X.prog X.w) X.A (call (.ref f) us) (EP X pc Y Q) X.xe s:=by
 have r2:bV (vs++dvs) (us++ds):=r.append hd
 have hl:(us++ds).length=ps.length:=by rw[<-r2.length];exact F.len _ _ _ _ h
 refine wpAny_call (codeAny_mono (F.run X.A X.stack s H ⟨us,[]⟩ (us++ds) (vs++dvs) Q E hr I.env0 (hb s us I.kIn hl) r2 h) fun r s' hq=>?_)
 cases r with
 |error e=>exact hx pc Y H s e s' I hq
 |ok fl=>
  cases fl with
  |ret u=>exact I.after hq
  |next=>exact elim hq
  |brk=>exact elim hq
  |cont=>exact elim hq
theorem cB0(F:cS X.prog X.w X.K X.mg X.base CX k f fd ps sp)(hr:dH k X.A)(hg:Gl X x)(hm:X.mg x=some (.ref f))(hk:keepIn X.K (.ref f)=true)(hb:jK X.K fd ps ds)(hd:bV dvs ds)(hx:xG CX X E)
 (ha:PA X (e::es) t) (hdb:(x==("__debug__" :Str))=false:=by decide) (he:starEach (e::es) X.env=(false,eval e X.env)::starEach es X.env:=by rfl) (hpl:(backTo pos (starEach es X.env)).any (·.1)=false:=by rfl):
 PE X (.Call (.Name x p) (e::es) [] pos) (fE6 sp dvs E t):=by
 intro pc s Y H Q I h
 refine wpAny_Call_Name_kw (bN3 I hg hm ?_ hdb)
 refine W.callWith_K (h₀:=X.base) I.ok.mod.kin hk (bX (ha pos pc s Y H _ I h) fun us s1 ⟨vs,H1,I1,r,q⟩=>⟨I1.kIn,?_⟩) he hpl
 exact bG1 F hr hb hd hx I1 r q
theorem fE8{pl:Sem Bool}(he:PE X o ta)(c:mD X.K C)(hm:vW X.K C m f)(F:cS X.prog X.w X.K X.mg X.base CX k f fd ps sp)(hr:dH k X.A)(hb:jK X.K fd ps ds)(hd:bV dvs ds)(hx:xG CX X E)(ha:PA X (e::es) t)
 (hst:starEach (e::es) X.env=(false,eval e X.env)::starEach es X.env:=by rfl) (hpl:(backTo pos (starEach es X.env)).any (·.1)=false:=by rfl)
 (ht:eval (.Call (.Attribute o m apos) (e::es) [] pos) X.env=(do
   let ov <-eval o X.env
   standAt apos.atName
   let (f,first) <-holding [ov] (getMethod ov m pl)
   callWith pos f first (backTo pos (starEach (e::es) X.env)) (backToKw pos (keywordEach [] X.env))):=by rfl):
 PE X (.Call (.Attribute o m apos) (e::es) [] pos) (cU0 C m sp dvs E ta t):=by
 intro pc s Y H Q I h
 refine W.methodCall_KW (pl:=pl) (bX (he pc s Y H _ I h) fun u s1 qz=>?_) ht;obtain⟨x,H1,I1,rx,a,dx,fs,ex,ea,l,q⟩:=qz
 subst ex
 obtain rfl:u=Value.ref a:=rx
 refine cT3 I1 ea c hm l ?_
 refine W.callWith_K (first:=[.ref a]) (h₀:=X.base) I.ok.mod.kin hm.kp (bX (ha pos pc s1 Y H1 _ I1 q) fun us s2 ⟨vs,H2,I2,r,q2⟩=>⟨I2.kIn,?_⟩) hst hpl
 exact bG1 (us:=.ref a::us) (vs:=.ref a::vs) F hr hb hd hx I2 (.cons rfl r) q2
theorem cU1{pl:Sem Bool}(he:PE X o ta)(c:mD X.K C)(hm:vW X.K C m f)(F:cS X.prog X.w X.K X.mg X.base CX k f fd ps sp)(hr:dH k X.A)(hb:jK X.K fd ps ds)(hd:bV dvs ds)(hx:xG CX X E)
 (ht:eval (.Call (.Attribute o m apos) [] [] pos) X.env=(do
   let ov <-eval o X.env
   standAt apos.atName
   let (f,first) <-holding [ov] (getMethod ov m pl)
   callWith pos f first (backTo pos (starEach [] X.env)) (backToKw pos (keywordEach [] X.env))):=by rfl):
 PE X (.Call (.Attribute o m apos) [] [] pos) (cU0 C m sp dvs E ta cT8):=by
 intro pc s Y H Q I h
 refine W.methodCall_KW (pl:=pl) (bX (he pc s Y H _ I h) fun u s1 qz=>?_) ht;obtain⟨x,H1,I1,rx,a,dx,fs,ex,ea,l,q⟩:=qz
 subst ex
 obtain rfl:u=Value.ref a:=rx
 refine cT3 I1 ea c hm l ?_
 exact W.callWith_K0 (first:=[.ref a]) I1.kIn hm.kp (bG1 (us:=[.ref a]) (vs:=[.ref a]) F hr hb hd hx I1 (.cons rfl .nil) q)
structure Mk(K:W.Frag)(C f:Addr):Prop where
 makes:W.makesIn K C=true
 init:findIn K (.ref C) "__init__" =some (some (.ref f))
 fn:W.isFn K (.ref f)=true
 kp:keepIn K (.ref C)=true
theorem fE9{pc:List (Addr×Obj)}{Y:St}{H:Hp}{s:Shared}{Q:VK}{us:List Value}{vs:List V}(M:Mk X.K C f)(F:cS X.prog X.w X.K X.mg X.base CX k f fd ps sp)(hr:dH (k+1) X.A)(hb:jK X.K fd ps ds)(hd:bV dvs ds)
 (hx:xG CX X E) (I:bE X pc Y H s) (r:bV vs us)
 (h:∀x dx,H x=none->H dx=none->dx≠x->sp (.ref x::(vs++dvs)) (upd (upd H dx (.own x)) x (.ins C dx [])) (fun v H2=>v= .non/\Q (.ref x) H2) E):
 wpAny (model X.prog X.w) X.A (call (.ref C) us) (EP X pc Y Q) X.xe s:=by
 have hq:=h (s.heap.objs.size+1) s.heap.objs.size (I.hok.fresh (le_succ _)) (I.hok.fresh (le_refl _)) (ne_of_lt (Nat.lt_succ_self _))
 have I2:=bE.made (C:=C) I
 have r2:bV (V.ref (s.heap.objs.size+1)::(vs++dvs)) (Value.ref (s.heap.objs.size+1)::(us++ds)):=.cons rfl (r.append hd)
 have hl:(Value.ref (s.heap.objs.size+1)::us++ds).length=ps.length:=by
  have e:=r2.length
  rw[F.len _ _ _ _ hq]at e
  exact e.symm
 refine wpAny_call (fC9 (f:=f) I.kIn M.makes M.init (beq_iff_eq.mp M.fn) (codeAny_mono (F.run _ X.stack _ _ ⟨Value.ref (s.heap.objs.size+1)::us,[]⟩ (Value.ref (s.heap.objs.size+1)::(us++ds)) _ _ E (hr.make C us [])
  (I2.env0.make C us []) (hb _ (Value.ref (s.heap.objs.size+1)::us) I2.kIn hl) r2 hq) fun r s' hq'=>?_))
 cases r with
 |error e=>exact hx pc Y _ _ e s' I2 hq'
 |ok fl=>
  cases fl with
  |ret u=>
   obtain⟨v,H',I3,rv,ev,q3⟩:=I2.after hq'
   subst ev
   exact⟨rv,⟨V.ref (s.heap.objs.size+1),H',I3,rfl,q3⟩⟩
  |next=>exact elim hq'
  |brk=>exact elim hq'
  |cont=>exact elim hq'
theorem fF0(M:Mk X.K C f)(F:cS X.prog X.w X.K X.mg X.base CX k f fd ps sp)(hr:dH (k+1) X.A)(hg:Gl X x)(hm:X.mg x=some (.ref C))(hb:jK X.K fd ps ds)(hd:bV dvs ds)(hx:xG CX X E)
 (ha:PA X (e::es) t) (hdb:(x==("__debug__" :Str))=false:=by decide) (he:starEach (e::es) X.env=(false,eval e X.env)::starEach es X.env:=by rfl) (hpl:(backTo pos (starEach es X.env)).any (·.1)=false:=by rfl):
 PE X (.Call (.Name x p) (e::es) [] pos) (fE7 C sp dvs E t):=by
 intro pc s Y H Q I h
 refine wpAny_Call_Name_kw (bN3 I hg hm ?_ hdb)
 refine W.callWith_K (h₀:=X.base) I.ok.mod.kin M.kp (bX (ha pos pc s Y H _ I h) fun us s1 ⟨vs,H1,I1,r,q⟩=>⟨I1.kIn,?_⟩) he hpl
 exact fE9 M F hr hb hd hx I1 r q
end
section
variable{X:Cx}{CX:rT}{k:Nat}{f C:Addr}{fd:FuncData}{ps ks:List Str}{sp:Sp}{E:XK}{x m:Str}{p pos apos kpos:Pos}{e o:Expr}{es:List Expr}{kws:List Keyword}{te ta:TE}{t tk:TA}{nm:Option Str}
variable{g:List Value->List Value->List Value}{gV:List V->List V->List V}
end
structure kY(N P:List Str)(sc:Scope):Prop where
 kind:sc.kind= .function
 co:sc.isCoroutine=false
 gen:sc.isGenerator=false
 nd:N.Nodup
 pre:N.take P.length=P
 par:∀x∈P,sc.names.lookup x=some .local\/sc.names.lookup x=some .cell
 nofree:∀y∈sc.names,y.2≠ .free
theorem cU2{kindOf:Str->Option NameKind}{x:Str}:∀{binds:List (Str×Value)} {m:Str->Option Value},(∀v,(x,v)∉binds)->bindL kindOf binds m x=m x
 | [],_,_=>rfl
 | (n,v)::r,m,h=>by
  unfold bindL
  rw[cU2 fun w hw=>h w (mem_cons_of_mem _ hw)]
  split
  ·have:x≠n:=by rintro rfl;exact h v mem_cons_self
   simp[this]
  ·rfl
theorem cU3{kindOf:Str->Option NameKind}{x:Str}:∀{binds:List (Str×Value)} {m:Str->Option Value},(∀v,(x,v)∉binds)->bindC kindOf binds m x=m x
 | [],_,_=>rfl
 | (n,v)::r,m,h=>by
  unfold bindC
  rw[cU3 fun w hw=>h w (mem_cons_of_mem _ hw)]
  split
  ·rfl
  ·have:x≠n:=by rintro rfl;exact h v mem_cons_self
   simp[this]
theorem cU4{kindOf:Str->Option NameKind}{x:Str}{v:Value}:∀{P:List Str} {vs:List Value} {i:Nat} {m:Str->Option Value},P.Nodup->P[i]? =some x->vs[i]? =some v->kindOf x=some .local->
 bindL kindOf (P.zip vs) m x=some v
 | [],_,_,_,_,h,_,_=>by simp at h
 |_::_,[],_,_,_,_,h,_=>by simp at h
 |p::P,w::vs,0,m,nd,h1,h2,hk=>by
  simp at h1 h2;subst h1;subst h2
  show bindL kindOf ((p,w)::P.zip vs) m p=_
  unfold bindL
  rw[cU2 fun v hv=>(List.nodup_cons.mp nd).1 (List.of_mem_zip hv).1,if_pos hk]
  simp
 |p::P,w::vs,i+1,m,nd,h1,h2,hk=>by
  show bindL kindOf ((p,w)::P.zip vs) m x=_
  unfold bindL
  exact cU4 (i:=i) (List.nodup_cons.mp nd).2 (by simpa using h1) (by simpa using h2) hk
theorem cU5{kindOf:Str->Option NameKind}{x:Str}{v:Value}:∀{P:List Str} {vs:List Value} {i:Nat} {m:Str->Option Value},P.Nodup->P[i]? =some x->vs[i]? =some v->kindOf x≠some .local->
 bindC kindOf (P.zip vs) m x=some v
 | [],_,_,_,_,h,_,_=>by simp at h
 |_::_,[],_,_,_,_,h,_=>by simp at h
 |p::P,w::vs,0,m,nd,h1,h2,hk=>by
  simp at h1 h2;subst h1;subst h2
  show bindC kindOf ((p,w)::P.zip vs) m p=_
  unfold bindC
  rw[cU3 fun v hv=>(List.nodup_cons.mp nd).1 (List.of_mem_zip hv).1,if_neg hk]
  simp
 |p::P,w::vs,i+1,m,nd,h1,h2,hk=>by
  show bindC kindOf ((p,w)::P.zip vs) m x=_
  unfold bindC
  exact cU5 (i:=i) (List.nodup_cons.mp nd).2 (by simpa using h1) (by simpa using h2) hk
noncomputable def start(N:List Str)(vs:List V):St:=vs.map some++replicate (N.length-vs.length) none
noncomputable def rX(CX:rT)(P:Program)(w:World)(K:W.Frag)(mg:Str->Option Value)(base:Heap)(N:List Str)(qual:Str)(scope:Scope)(f:Addr)(cd:Value)(A:Around)(outer:List Env)(s:Shared)(H:Hp)(E:XK):Cx where
 prog:=P
 w:=w
 K:=K
 mg:=mg
 base:=base
 A:=A.deeper (envOfC qual scope s.heap.objs.size f cd)
 N:=N
 s₀:=s
 Ha:=H
 env:=envOfC qual scope s.heap.objs.size f cd
 outer:=outer
 stack:=envOfC qual scope s.heap.objs.size f cd::outer
 ex:=[]
 calm:=true
 fn:=fun _=>true
 pn:=[]
 xe:=fun e s'=>wpAny (model P w) (A.deeper (envOfC qual scope s.heap.objs.size f cd)) (leaving (envOfC qual scope s.heap.objs.size f cd) e) (fun _ s''=>CX outer H s E e s'') (fun e' s''=>CX outer H s E e' s'') s'
theorem cU6{sc:Scope}{n:Nat}{x:Str}(h:sc.names.lookup x=some .cell):∃c,(cellsFrom n sc.names []).lookup x=some c:=by
 have q:=W.cellsFrom_some sc.names n [] (.inl h)
 exact Option.isSome_iff_exists.mp q
theorem fF1{CX:rT}{P:Program}{w:World}{K:W.Frag}{mg:Str->Option Value}{base:Heap}{N ps:List Str}{qual:Str}{scope:Scope}{f:Addr}{cd:Value}{A:Around}{outer:List Env}{s s1:Shared}{H:Hp}{E:XK}{us:List Value}{vs:List V}
 (S:kY N ps scope) (hd:A.handled=none) (e0:vX P w K mg base A outer s H) (hl:vs.length=ps.length) (r:bV vs us)
 (x:InCallC s s.heap.objs.size (bindL (envOfC qual scope s.heap.objs.size f cd).kindOf (ps.zip us) fun _=>none) (cellsFrom (s.heap.objs.size+1) scope.names []) (bindC (envOfC qual scope s.heap.objs.size f cd).kindOf (ps.zip us) fun _=>none) s1):
 bE (rX CX P w K mg base N qual scope f cd A outer s H E) [] (start N vs) H s1:=by
 have hpl:ps.length<=N.length:=by have:=congrArg List.length S.pre;rw[List.length_take]at this;omega
 obtain⟨h1,tk,rfl,hk⟩:=x.done
 have noA:∀b:Addr,b∉(rX CX P w K mg base N qual scope f cd A outer s H E).ex:=fun b z=>absurd (show b∈([]:List Addr)from z) (by simp)
 refine⟨⟨e0.mod,S.kind,rfl,rfl,le_refl _,fun y z c h1 h2=>?_,fun y hy=>?_,fun y c _ h=>?_,fun _=>hd,Around.frames_deeper e0.frames,.inr ⟨rfl,rfl⟩,fun b z=>absurd z (noA b),e0.bs,e0.bsz,fun b _ _=>noA b,fun b z=>absurd z (noA b),e0.funs,e0.frf⟩,
  rfl,e0.bare,Un.kept hk,⟨_,x.toInCall.ns,fun i y v h1 h2 h3=>?_⟩,fun y c h=>⟨_,x.cell y c h⟩,e0.hok.fresh (le_refl _),fun y c h=>?_,fun p hp=>absurd (show p∈([]:List (Addr×Obj))from hp) (by simp),e0.hok.kept hk,?_⟩
 ·exact name_of_addr x.apart (PySem.mem_of_lookup h1) (PySem.mem_of_lookup h2)
 ·have hy:scope.names.lookup y=some .cell\/scope.names.lookup y=some .free:=hy
  rcases hy with hy|hy
  ·exact cU6 hy
  ·exact absurd rfl (S.nofree _ (PySem.mem_of_lookup hy))
 ·exact Nat.le_of_lt (x.above y c (PySem.mem_of_lookup h))
 ·have hi:i<vs.length:=by
   unfold start at h2
   by_cases hi:i<vs.length
   ·exact hi
   ·rw[getElem?_append_right (by simpa using hi)]at h2
    rw[List.getElem?_replicate]at h2
    split at h2<;>cases h2
  have ha:vs[i]? =some v:=by
   unfold start at h2
   rw[getElem?_append_left (by simpa using hi),getElem?_map]at h2
   cases e:vs[i]? with
   |none=>rw[e]at h2;cases h2
   |some a=>rw[e]at h2;cases h2;rfl
  obtain⟨u,hu,rv⟩:=r.get ha
  have hp:ps[i]? =some y:=by
   rw[<-S.pre,List.getElem?_take_of_lt bD];exact h1
  have ndP:ps.Nodup:=by rw[<-S.pre];exact S.nd.sublist (List.take_sublist _ _)
  refine⟨u,rv,?_⟩
  rcases S.par y (mem_of_getElem? hp)with k|k
  ·exact .inl ⟨k,cU4 ndP hp hu k⟩
  ·obtain⟨c,e⟩:=cU6 (n:=s.heap.objs.size+1) k
   refine .inr ⟨.inl k,c,e,?_⟩
   have q:=x.cell y c e
   rw[cU5 ndP hp hu (by show scope.names.lookup y≠_;rw[k];decide)]at q
   exact q
 ·exact e0.hok.fresh (Nat.le_of_lt (x.above y c (PySem.mem_of_lookup h)))
 ·unfold start
  show _=N.length
  rw[length_append,length_map,List.length_replicate]
  omega
theorem cU7{CX:rT}{P:Program}{w:World}{K:W.Frag}{mg:Str->Option Value}{base:Heap}{k:Nat}{f:Addr}{name qual:Str}{params:Arguments}{body:List Stmt}{scope:Scope}{dV kV doc pm cdv ct oc:Value}{an od:Option Addr}
 {osl:Array (Option Value)} {N ps:List Str} {sp:Sp} (lk:K.lookup f=some ⟨oc,od,.func (W.fnOf name qual params body scope dV kV doc pm an cdv ct),osl⟩) (hcd:W.codeIn K cdv qual=true) (S:kY N ps scope)
 (len:∀vs H Q E,sp vs H Q E->vs.length=ps.length)
 (hbody:∀(A:Around) (outer:List Env) (s:Shared) (H:Hp) (vs:List V) (Q:VK) (E:XK),dH k (A.deeper (envOfC qual scope s.heap.objs.size f cdv))->sp vs H Q E->
   ∃t,lJ (rX CX P w K mg base N qual scope f cdv A outer s H E) body t/\t {nx:=fun _ H'=>Q .non H',rt:=Q} (start N vs) H):
 cS P w K mg base CX (k+1) f (W.fnOf name qual params body scope dV kV doc pm an cdv ct) ps sp:=by
 refine⟨len,fun A outer s H args us vs Q E hr e0 hb r hsp=>?_⟩
 have hl:=len _ _ _ _ hsp
 have KX:K.In s.heap:=e0.mod.kin.keeps fun b o e=>(e0.bs b o e).1
 have lim:s.heap.NoLimit:=e0.mod.nolimit.keeps fun b o e=>(e0.bs b o e).1
 have hkind:∀y∈ps.zip us,scope.names.lookup y.1=some .local\/(scope.names.lookup y.1=some .cell/\((cellsFrom (s.heap.objs.size+1) scope.names []).lookup y.1).isSome=true):=fun⟨n,v⟩ hy=>by
  rcases S.par n (List.of_mem_zip hy).1 with q|q
  ·exact .inl q
  ·exact .inr ⟨q,W.cellsFrom_some _ _ _ (.inl q)⟩
 refine codeAny_call_function hr.depth (KX _ _ lk) rfl S.co S.gen rfl (W.codeRec_of KX hcd) (hb _ _ _ _ ?_)
 refine wpAny_newFunctionEnv_cells S.kind hkind fun env he s1 x=>?_
 subst he
 refine⟨lim.keeps x.toInCall.keep,codeAny_func ?_⟩
 obtain⟨t,ht,hq⟩:=hbody A outer s H vs Q E (hr.deeper _) hsp
 have I:bE (rX CX P w K mg base N qual scope f cdv A outer s H E) [] (start N vs) H s1:=fF1 S hr.hd e0 hl r x
 refine wpAny_mono (ht [] s1 (start N vs) H _ I hq) (fun fl s' hs=>?_) fun e s' hs=>hs
 have cZ:∀{σ':St} {H':Hp} {v:V} {u:Value},bE (rX CX P w K mg base N qual scope f cdv A outer s H E) [] σ' H' s'->cG v u->Q v H'->CE outer P w H s Q u s':=
  fun{σ' H' v u} J rv q=>⟨v,H',J.os,J.bare,J.base,J.hok,rv,q⟩
 cases fl with
 |ret u=>
  obtain⟨v,σ',H',J,rv,q⟩:=hs
  exact cZ J rv q
 |next=>
  obtain⟨σ',H',J,q⟩:=hs
  exact cZ (v:=V.non) (u:=Value.none) J rfl q
 |brk=>
  obtain⟨_,_,_,q⟩:=hs
  exact elim q
 |cont=>
  obtain⟨_,_,_,q⟩:=hs
  exact elim q
end L2
namespace L2
open PySem PySem.Spec PyProof.Rows
section
variable{X:Cx}{x:Str}{p pos:Pos}{e:Expr}{es:List Expr}{t:TA}{id T:String}{r:List V->Hp->VK->Prop}
noncomputable def tCB(r:List V->Hp->VK->Prop)(t:TA):TE:=fun Y H Q=>t Y H fun vs H1=>r vs H1 Q
theorem cB1(hc:gM X (.builtin id) r)(hg:Gl X x)(hm:X.mg x=none)(hv:bootBuiltins x=some (.builtin id))(ha:PA X (e::es) t)(hn:x≠ "__name__" :=by decide)(hdb:(x==("__debug__" :Str))=false:=by decide)
 (he:starEach (e::es) X.env=(false,eval e X.env)::starEach es X.env:=by rfl) (hpl:(backTo pos (starEach es X.env)).any (·.1)=false:=by rfl):PE X (.Call (.Name x p) (e::es) [] pos) (tCB r t):=by
 intro pc s Y H Q I h
 refine wpAny_Call_Name_kw (zK I hg hm hv ?_ hn hdb)
 exact PyProof.Rows.callWith_builtin1 (bX (ha pos pc s Y H _ I h) fun us s1 ⟨vs,H1,I1,r1,q1⟩=>hc pc s1 Y H1 vs us Q I1 r1 q1) he hpl
theorem cB2(hc:gM X (.type T) r)(hg:Gl X x)(hm:X.mg x=none)(hv:bootBuiltins x=some (.type T))(ha:PA X (e::es) t)(hn:x≠ "__name__" :=by decide)(hdb:(x==("__debug__" :Str))=false:=by decide)
 (he:starEach (e::es) X.env=(false,eval e X.env)::starEach es X.env:=by rfl) (hpl:(backTo pos (starEach es X.env)).any (·.1)=false:=by rfl):PE X (.Call (.Name x p) (e::es) [] pos) (tCB r t):=by
 intro pc s Y H Q I h
 refine wpAny_Call_Name_kw (zK I hg hm hv ?_ hn hdb)
 exact PyProof.Rows.callWith_type1 (bX (ha pos pc s Y H _ I h) fun us s1 ⟨vs,H1,I1,r1,q1⟩=>hc pc s1 Y H1 vs us Q I1 r1 q1) he hpl
end
end L2
namespace HT
open PySem PyProof.Rows
section
open PySem.SeqAt
open PySem.AutoSeq1 (wpAny_loadPart')
open PySem.MeetsSeq PySem.MeetsSeq2 PySem.MeetsSeq3
end
section
variable{prog:Program}{w:World}{A:Around}{E:Value->Shared->Prop}{s:Shared}
theorem cat_tup{t b:Addr}{vs ws:List Value}{Q:Value->Shared->Prop}(ht:IsTup s.heap t vs.toArray)(hb:IsTup s.heap b ws.toArray)(hv:vs≠ [])
 (h1:ws= []->Q (.ref t) s) (h2:ws≠ []->Q (.ref s.heap.objs.size) {s with heap:=s.heap.push {cls:=.type "tuple",data:=.seq (vs++ws).toArray}})
 (hsz:vs.length+ws.length<=sizeLine):wpAny (model prog w) A (binaryOp .Add (.ref t) (.ref b)) Q E s:=by
 obtain⟨⟨cls,dd,data,sl⟩,ho,hc,n,hd⟩:=id ht
 obtain⟨⟨cls2,dd2,data2,sl2⟩,ho2,hc2,n2,hd2⟩:=id hb
 simp only at hc hd hc2 hd2
 subst hc hd hc2 hd2
 have e:vs.toArray++ws.toArray=(vs++ws).toArray:=by simp
 by_cases hw:ws= []
 ·exact concat_meets ⟨_,ho,rfl⟩ ⟨_,ho2,rfl⟩ noFill_tuple_add seq_tuple_add PySem.F.slot_tuple_add PySem.F.entry_tuple_add (PySem.F.args_tuple_add_2 _ _)
   (tuple_addW1 t b vs.toArray ws.toArray n n2 dd dd2 sl sl2 (by simpa using hv) (by simp[hw])) ⟨ho,ho2,h1 hw⟩
 ·refine concat_meets ⟨_,ho,rfl⟩ ⟨_,ho2,rfl⟩ noFill_tuple_add seq_tuple_add PySem.F.slot_tuple_add PySem.F.entry_tuple_add (PySem.F.args_tuple_add_2 _ _)
   (tuple_addW2 t b vs.toArray ws.toArray n n2 dd dd2 sl sl2 (by simpa using hv) (by simpa using hw) (by rw[size_toArray,size_toArray];exact hsz)) ⟨ho,ho2,?_⟩
  rw[e]
  exact h2 hw
noncomputable def sIx(n d:Nat):Option Int->Nat
 |none=>d
 |some v=>if v<0 then(v+(n:Int)).toNat else min v.toNat n
theorem sIx_none(n d:Nat):sIx n d none=d:=rfl
theorem sIx_nat(n d k:Nat):sIx n d (some (k:Int))=min k n:=by
 show(if(k:Int)<0 then((k:Int)+(n:Int)).toNat else min (k:Int).toNat n)=min k n
 rw[if_neg bD,Int.toNat_natCast]
theorem sIx_le(n d:Nat)(hd:d<=n)(o:Option Int):sIx n d o<=n:=by
 cases o with
 |none=>exact hd
 |some v=>
  show(if v<0 then(v+(n:Int)).toNat else min v.toNat n)<=n
  by_cases hv:v<0
  ·rw[if_pos hv];omega
  ·rw[if_neg hv];exact Nat.min_le_right _ _
theorem cU9(v:Int)(n d:Nat):(if v<0 then max (v+(n:Int)) 0 else min v (n:Int))=((sIx n d (some v):Nat):Int):=by
 show(if v<0 then max (v+(n:Int)) 0 else min v (n:Int))=(((if v<0 then(v+(n:Int)).toNat else min v.toNat n):Nat):Int)
 by_cases hv:v<0
 ·simp only[if_pos hv];omega
 ·simp only[if_neg hv];omega
theorem fF2(lo hi:Option Int)(n:Nat):sliceAdjust lo hi 1 (n:Int)=(((sIx n 0 lo:Nat):Int),((sIx n n hi:Nat):Int)):=by
 have h1: ¬ ((1:Int)<0):=by omega
 unfold sliceAdjust
 simp only[h1,if_false]
 refine Prod.ext ?_ ?_
 ·cases lo with
  |none=>rfl
  |some v=>exact cU9 v n 0
 ·cases hi with
  |none=>rfl
  |some v=>exact cU9 v n n
theorem fF3(i j:Nat):slicePlaces (i:Int) (j:Int) 1=j-i:=by
 unfold slicePlaces
 have h1:(1:Int)>0:=by omega
 simp only[h1,if_true,Int.ediv_one]
 split<;>omega
theorem cV0{v:Value}{o:Option Int}{Q:Option Int->Shared->Prop}(p:IsPart v o)(h:Q o s):wpAny (model prog w) A (Builtin.Slice.slicePartIndex v) Q E s:=by
 cases p with
 |none=>exact slicePart_none h
 |int i t=>exact slicePart_int h
theorem sliceApplied_gen{sl:Addr}{vl vu:Value}{lo hi:Option Int}{n:Nat}{Q:Int×Int×Nat->Shared->Prop}(hs:s.heap.IsSliceOf sl vl vu .none)(pl:IsPart vl lo)(pu:IsPart vu hi)
 (h:Q (((sIx n 0 lo:Nat):Int),1,sIx n n hi-sIx n 0 lo) s):wpAny (model prog w) A (Builtin.Slice.sliceApplied (.ref sl) (pure (n:Int))) Q E s:=by
 obtain⟨os,hos,hcs,hds⟩:=id hs
 unfold Builtin.Slice.sliceApplied Builtin.Slice.sliceFields
 refine wpAny_bind (wpAny_bind (wpAny_field hos hds (x:=vl) rfl (wpAny_bind (wpAny_field hos hds (x:=vu) rfl (wpAny_bind (wpAny_field hos hds (x:=.none) rfl (wpAny_pure ?_)))))))
 refine wpAny_bind (slicePart_none ?_)
 show wpAny _ _ (if((1:Int)==0)=true then _ else _) _ _ s
 rw[if_neg (by decide)]
 refine wpAny_bind (cV0 pl (wpAny_bind (cV0 pu (wpAny_bind (wpAny_pure ?_)))))
 show wpAny _ _ (match sliceAdjust lo hi 1 (n:Int)with| (lo,hi)=>pure (lo,(1:Int),slicePlaces lo hi 1)) _ _ s
 rw[fF2 lo hi n]
 show wpAny _ _ (pure (((sIx n 0 lo:Nat):Int),(1:Int),slicePlaces ((sIx n 0 lo:Nat):Int) ((sIx n n hi:Nat):Int) 1)) _ _ s
 rw[fF3]
 exact wpAny_pure h
theorem fF4(xs:Array Value)(i k:Nat):((List.range k).filterMap fun(m:Nat)=>xs[((i:Int)+(m:Int)*1).toNat]?).toArray=((xs.toList.drop i).take k).toArray:=by
 have e:(fun(m:Nat)=>xs[((i:Int)+(m:Int)*1).toNat]?)=fun m=>xs[i+m]? :=by
  funext m
  have:((i:Int)+(m:Int)*1).toNat=i+m:=by omega
  rw[this]
 rw[e]
 have:=pick_run xs i k
 rw[List.filterMap_map]at this
 have e2:((fun x=>xs[x]?) ∘ fun x=>i+x)=fun m=>xs[i+m]? :=rfl
 rw[e2]at this
 rw[this]
theorem getItem_tuple_cut{t sl:Addr}{items:Array Value}{vl vu:Value}{lo hi:Option Int}{Q:Value->Shared->Prop}(ht:IsTup s.heap t items)(hs:s.heap.IsSliceOf sl vl vu .none)(pl:IsPart vl lo)(pu:IsPart vu hi)
 (hw: ¬ (sIx items.size 0 lo=0/\sIx items.size items.size hi=items.size))
 (h:Q (.ref s.heap.objs.size) {s with heap:=s.heap.push {cls:=.type "tuple",data:=.seq ((items.toList.drop (sIx items.size 0 lo)).take (sIx items.size items.size hi-sIx items.size 0 lo)).toArray}})
 (hsz:items.size<=sizeLine):wpAny (model prog w) A (getItem (.ref t) (.ref sl)) Q E s:=by
 have htake:sizeOk (.seq ((items.toList.drop (sIx items.size 0 lo)).take (sIx items.size items.size hi-sIx items.size 0 lo)).toArray):=by
  show((items.toList.drop (sIx items.size 0 lo)).take (sIx items.size items.size hi-sIx items.size 0 lo)).toArray.size<=sizeLine
  rw[size_toArray,List.length_take,List.length_drop,Array.length_toList]
  omega
 have hj:sIx items.size items.size hi<=items.size:=sIx_le _ _ (le_refl _) hi
 obtain⟨os,hos,hcs,hds⟩:=id hs
 have hTs:s.TypeIs (.ref sl) "slice" :=⟨os,hos,hcs⟩
 unfold getItem
 try with_reducible refine wpAny_holding ?_
 first|refine wpAny_bind (wpAny_pure ?_)|skip
 refine wpAny_bind (wpAny_sequenceKey ht.typeIs (by decide) ?_)
 refine wpAny_bind (wpAny_callSpecial?_slot (name:=ofString "__getitem__") ht.typeIs PyProof.Rows.slot_tuple_getitem
  (wpAny_call_entry PyProof.Rows.slot_tuple_getitem ht.typeIs entry_tuple_getitem ?_ (args_tuple_getitem _ _)))
 show wpAny _ _ (Builtin.Tuple.tupleItemsOf (.ref t)>>=_) _ _ s
 refine wpAny_bind (tupleItemsOf_ ht ?_)
 refine wpAny_bind (wpAny_typeOf hTs ?_)
 rw[if_pos (by decide)]
 refine wpAny_bind (sliceApplied_gen hs pl pu ?_)
 have hno: ¬ ((((sIx items.size 0 lo:Nat):Int)==0&&(1:Int)==1&&(sIx items.size items.size hi-sIx items.size 0 lo)==items.size)=true):=by
  intro q
  rw[and_eq_true,and_eq_true]at q
  have q1:((sIx items.size 0 lo:Nat):Int)=0:=eq_of_beq q.1.1
  have q2:sIx items.size items.size hi-sIx items.size 0 lo=items.size:=eq_of_beq q.2
  exact hw ⟨by omega,by omega⟩
 show wpAny _ _ (if(((sIx items.size 0 lo:Nat):Int)==0&&(1:Int)==1&&(sIx items.size items.size hi-sIx items.size 0 lo)==items.size)=true then _ else _) _ _ s
 rw[if_neg hno,fF4]
 first
  |exact wpAny_bind (m:=tupleExact _) (wpAny_newObj_type (wpAny_pure ⟨_,rfl,wpAny_pure h⟩) htake)
  |exact wpAny_bind (m:=tupleExact _) (wpAny_newObj_type (wpAny_bind (wpAny_pure (wpAny_pure ⟨_,rfl,wpAny_pure h⟩))) htake)
  |exact wpAny_bind (wpAny_bind (m:=tupleExact _) (wpAny_newObj_type (wpAny_pure (wpAny_pure ⟨_,rfl,wpAny_pure h⟩)) htake))
  |exact wpAny_bind (wpAny_bind (m:=tupleExact _) (wpAny_newObj_type (wpAny_pure ⟨_,rfl,wpAny_pure h⟩) htake))
end
end HT
namespace L2
open PySem PySem.Spec PyProof.Rows
abbrev TO:=St->Hp->(Option Int->Hp->Prop)->Prop
def PO(X:Cx)(e:Option Expr)(t:TO):Prop:=
 ∀(pc:List (Addr×Obj)) (s:Shared) (Y:St) (H:Hp) (Q:Option Int->Hp->Prop),bE X pc Y H s->t Y H Q->
  wpAny (model X.prog X.w) X.A (evalPart e X.env) (fun u s'=>∃o H',bE X pc Y H' s'/\IsPart u o/\Q o H') X.xe s
noncomputable def fF5:TO:=fun _ H Q=>Q none H
noncomputable def fF6(t:TE):TO:=fun Y H Q=>t Y H fun x H1=>∃i,x= .int i/\Q (some i) H1
section
variable{X:Cx}{e:Expr}{te:TE}{lo hi:Option Expr}{tl th:TO}{pos p2:Pos}
theorem fF7:PO X none fF5:=by
 intro pc s Y H Q I h
 rw[evalPart_none]
 exact wpAny_pure ⟨none,H,I,.none,h⟩
theorem fF8(h:PE X e te):PO X (some e) (fF6 te):=by
 intro pc s Y H Q I hw
 rw[evalPart_some]
 refine bX (h pc s Y H _ I hw) fun u s1 ⟨x,H1,I1,r1,q1⟩=>?_
 obtain⟨i,rfl,q⟩:=q1
 obtain⟨t,rfl⟩:=r1
 exact⟨some i,H1,I1,.int i t,q⟩
def SlR(X:Cx)(r:V->Option Int->Option Int->Hp->VK->Prop):Prop:=
 ∀(pc:List (Addr×Obj)) (s:Shared) (Y:St) (H:Hp) (x:V) (v vl vu:Value) (lo hi:Option Int) (sl:Addr) (Q:VK),bE X pc Y H s->cG x v->s.heap.IsSliceOf sl vl vu .none->IsPart vl lo->IsPart vu hi->r x lo hi H Q->
  ∃T id,typeLookup (.type T) "__getitem__" =pure (some (.builtin id))/\s.TypeIs v T/\wpAny (model X.prog X.w) X.A (getItem v (.ref sl)) (EP X pc Y Q) X.xe s
noncomputable def tSl(r:V->Option Int->Option Int->Hp->VK->Prop)(te:TE)(tl th:TO):TE:=fun Y H Q=>te Y H fun x H1=>tl Y H1 fun l H2=>th Y H2 fun u H3=>r x l u H3 Q
theorem fG0{r:V->Option Int->Option Int->Hp->VK->Prop}(hr:SlR X r)(he:PE X e te)(hl:PO X lo tl)(hu:PO X hi th):PE X (.Subscript e (.Slice lo hi none p2) pos) (tSl r te tl th):=by
 intro pc s Y H Q I h
 refine Subscript_ (bX (he pc s Y H _ I h) fun v s1 ⟨x,H1,I1,r1,q1⟩=>?_)
 refine wpAny_Slice (bX (hl pc s1 Y H1 _ I1 q1) fun vl s2 ⟨l,H2,I2,pl,q2⟩=>bX (hu pc s2 Y H2 _ I2 q2) fun vu s3 ⟨u,H3,I3,pu,q3⟩=>?_)
 rw[evalPart_none]
 refine wpAny_pure ?_
 have I4:bE X pc Y H3 {s3 with heap:=s3.heap.push {cls:=.type "slice",data:=.fields #[vl,vu,.none]}}:=I3.kept (t':=s3.toks) fun b ob q=>get?_push_of_some _ q
 obtain⟨T,id,hT,ht,hg⟩:=hr pc {s3 with heap:=s3.heap.push {cls:=.type "slice",data:=.fields #[vl,vu,.none]}} Y H3 x v vl vu l u s3.heap.objs.size Q I4 r1 (Heap.IsSliceOf.new ..) pl pu q3
 show wpAny (model X.prog X.w) X.A (subscriptTail e (.Slice lo hi none p2) v (.ref s3.heap.objs.size)) (EP X pc Y Q) X.xe {s3 with heap:=s3.heap.push {cls:=.type "slice",data:=.fields #[vl,vu,.none]}}
 exact tail_any (ops:=[.ref s3.heap.objs.size,v]) ht hT hg (by with_unfolding_all rfl)
def vY(xs:List V)(lo hi:Option Int):List V:=(xs.drop (HT.sIx xs.length 0 lo)).take (HT.sIx xs.length xs.length hi-HT.sIx xs.length 0 lo)
theorem cV1(xs:List V)(lo hi:Option Int):(vY xs lo hi).length<=xs.length:=by
 unfold vY
 rw[List.length_take,List.length_drop]
 omega
def fG1(K:W.Frag):V->Option Int->Option Int->Hp->VK->Prop:=fun x lo hi H Q=>∃a xs,x= .ref a/\gL K H a xs/\
 ¬ (HT.sIx xs.length 0 lo=0/\HT.sIx xs.length xs.length hi=xs.length)/\ ∀p,H p=none->Q (.ref p) (upd H p (.tup (vY xs lo hi)))
theorem fG2:SlR X (fG1 X.K):=by
 intro pc s Y H x v vl vu lo hi sl Q I rx hs pl pu h
 obtain⟨a,xs,rfl,hx,hw,q⟩:=h
 cases rx
 obtain⟨its,r,ht,hz⟩:=I.tuple hx
 have hlen:its.toArray.size=xs.length:=by rw[size_toArray];exact r.length.symm
 refine⟨"tuple",_,PyProof.Rows.slot_tuple_getitem.lookup,ht.typeIs,?_⟩
 refine HT.getItem_tuple_cut ht hs pl pu (by rw[hlen];exact hw) ?_ (by rw[hlen];exact hz)
 rw[hlen]
 refine⟨.ref s.heap.objs.size,_,I.laid (t':=s.toks) (o:=.tup (vY xs lo hi)) (fun b ob q=>get?_push_of_some _ q) (le_refl _) ?_,rfl,q _ (I.hok.fresh (le_refl _))⟩
 exact⟨le_trans (cV1 xs lo hi) hz,_,(r.drop (HT.sIx xs.length 0 lo)).take (HT.sIx xs.length xs.length hi-HT.sIx xs.length 0 lo),IsTup.new _ _⟩
def fG3(K:W.Frag):R2:=fun x y H Q=>∃a b xs ys,x= .ref a/\y= .ref b/\gL K H a xs/\gL K H b ys/\xs≠ []/\xs.length+ys.length<=sizeLine/\
 (ys= []->Q (.ref a) H)/\(ys≠ []->∀p,H p=none->Q (.ref p) (upd H p (.tup (xs++ys))))
theorem bV.nil_iff{xs:List V}{us:List Value}(r:bV xs us):us= [] ↔ xs= []:=by
 cases r with
 |nil=>simp
 |cons _ _=>simp
theorem fG4:cQ X (binaryOp .Add) (fG3 X.K):=by
 intro pc s Y H x y v u Q I rx ry h
 obtain⟨a,b,xs,ys,rfl,rfl,ha,hb,hx,hz,q1,q2⟩:=h
 cases rx
 cases ry
 obtain⟨its,r1,p1,_⟩:=I.tuple ha
 obtain⟨its2,r2,p2,_⟩:=I.tuple hb
 refine HT.cat_tup p1 p2 (fun z=>hx (r1.nil_iff.mp z)) (fun z=>⟨.ref a,H,I,rfl,q1 (r2.nil_iff.mp z)⟩) (fun z=>?_) (by rw[<-r1.length, <-r2.length];exact hz)
 refine⟨.ref s.heap.objs.size,_,I.laid (t':=s.toks) (o:=.tup (xs++ys)) (fun b ob q=>get?_push_of_some _ q) (le_refl _) ?_,rfl,q2 (fun w=>z (r2.nil_iff.mpr w)) _ (I.hok.fresh (le_refl _))⟩
 exact⟨by rw[length_append];exact hz,_,r1.append r2,IsTup.new _ _⟩
end
end L2
namespace L2
open PySem PySem.Spec PyProof.Rows
noncomputable def vZ(n:Nat)(i:Int):Option Nat:=if 0<=i then(if i<n then some i.toNat else none)else if-(n:Int)<=i then some (i+n).toNat else none
def fP{α:Type}(xs:List α)(i:Int):Option α:=(vZ xs.length i).bind fun j=>xs[j]?
theorem fG5{n:Nat}{i:Int}{j:Nat}(h:vZ n i=some j):seqIndex? i n=some j/\j<n/\ -(n:Int)<=i/\i<n:=by
 unfold vZ at h
 by_cases h0:0<=i
 ·rw[if_pos h0]at h
  by_cases h1:i<n
  ·rw[if_pos h1]at h
   have e:i.toNat=j:=Option.some.inj h
   exact⟨by rw[seqIndex_of h0 h1,e],by omega,by omega,h1⟩
  ·rw[if_neg h1]at h;cases h
 ·rw[if_neg h0]at h
  by_cases h1: -(n:Int)<=i
  ·rw[if_pos h1]at h
   have e:(i+n).toNat=j:=Option.some.inj h
   exact⟨by rw[seqIndex_neg bD h1,e],by omega,h1,by omega⟩
  ·rw[if_neg h1]at h;cases h
theorem cB3{α:Type}{xs:List α}{i:Int}{v:α}(h:fP xs i=some v):∃j,seqIndex? i xs.length=some j/\xs[j]? =some v/\j<xs.length/\ -(xs.length:Int)<=i/\i<xs.length:=by
 unfold fP at h
 cases e:vZ xs.length i with
 |none=>rw[e]at h;cases h
 |some j=>
  rw[e]at h
  obtain⟨h1,h2,h3,h4⟩:=fG5 e
  exact⟨j,h1,h,h2,h3,h4⟩
theorem zR{α:Type}{xs:List α}{j:Nat}{v:α}(h:xs[j]? =some v):fP xs (j:Int)=some v:=by
 have hj:j<xs.length:=(List.getElem?_eq_some_iff.mp h).1
 have e:vZ xs.length (j:Int)=some j:=by
  unfold vZ
  rw[if_pos bD,if_pos bD];simp
 unfold fP;rw[e];exact h
def bN8(b:Expr):Prop:=∀o i,subscripted b false o i=operate [o,i] (getItem o i)
def xH(X:Cx)(r:R2):Prop:=
 ∀(value slice:Expr) (pc:List (Addr×Obj)) (s:Shared) (Y:St) (H:Hp) (x y:V) (v u:Value) (Q:VK),bE X pc Y H s->cG x v->cG y u->r x y H Q->
  subscripted slice false v u=operate [v,u] (getItem v u)->wpAny (model X.prog X.w) X.A (subscriptTail value slice v u) (EP X pc Y Q) X.xe s
def xI(X:Cx)(id:String)(r:V->List V->Hp->VK->Prop):Prop:=
 ∀(pc:List (Addr×Obj)) (s:Shared) (Y:St) (H:Hp) (x:V) (xs:List V) (v:Value) (us:List Value) (Q:VK),bE X pc Y H s->cG x v->bV xs us->r x xs H Q->
  wpAny (model X.prog X.w) X.A (call (.builtin id) (v::us)) (EP X pc Y Q) X.xe s
section
variable{X:Cx}{a b:Expr}{ta tb:TE}{pos:Pos}
theorem cV2{r:R2}(hr:xH X r)(ha:PE X a ta)(hb:PE X b tb)(hs:bN8 b):PE X (.Subscript a b pos) (tOp r ta tb):=by
 intro pc s Y H Q I h
 exact Subscript_ (bZ9 ha hb I h fun v u s2 x y H2 I2 rx ry q=>hr a b pc s2 Y H2 x y v u Q I2 rx ry q (hs _ _))
def fG6(K:W.Frag):R2:=fun x y H Q=>∃p xs i v,x= .ref p/\y= .int i/\dO K H p xs/\fP xs i=some v/\Q v H
def fG7(K:W.Frag):R2:=fun x y H Q=>∃p xs i v,x= .ref p/\y= .int i/\gL K H p xs/\fP xs i=some v/\Q v H
def fG8:R2:=fun x y H Q=>∃z i c,x= .str z/\y= .int i/\z.length<=sizeLine/\fP z.cps.toList i=some c/\Q (.str ⟨#[c]⟩) H
theorem fG9:xH X (fG6 X.K):=by
 intro value slice pc s Y H x y v u Q I rx ry h hs
 obtain⟨p,xs,i,z,rfl,rfl,hq,he,q⟩:=h
 cases rx
 obtain⟨t,rfl⟩:=ry
 obtain⟨its,r,pl,hz⟩:=I.list hq
 obtain⟨j,h1,h2,h3,h4,h5⟩:=cB3 he
 obtain⟨w,ew,rw'⟩:=r.get h2
 have hl:=r.length
 have hn:=zQ
 have cZ:EP X pc Y Q w s:=⟨z,H,I,rw',q⟩
 by_cases h0:0<=i
 ·have hj:i.toNat=j:=by
   rw[seqIndex_of h0 h5]at h1
   exact Option.some.inj h1
  exact item_listR pl.isList h0 bD (by rw[hj];simpa using ew) cZ hs
 ·have hj:(i+(its.toArray.size:Int)).toNat=j:=by
   rw[seqIndex_neg bD h4]at h1
   rw[size_toArray, <-hl]
   exact Option.some.inj h1
  exact subscriptTail_builtinR (x:=w) pl.isList.typeIs slot_list_getitem.lookup
   (wpAny_getItem_list_neg (Q:=fun r s'=>r=w/\EP X pc Y Q r s') pl.isList bD (by rw[size_toArray]<;>omega) bD (by rw[hj];simpa using ew) ⟨rfl,cZ⟩) hs
theorem ix_tup:xH X (fG7 X.K):=by
 intro value slice pc s Y H x y v u Q I rx ry h hs
 obtain⟨p,xs,i,z,rfl,rfl,hq,he,q⟩:=h
 cases rx
 obtain⟨t,rfl⟩:=ry
 obtain⟨its,r,pl,hz⟩:=I.tuple hq
 obtain⟨j,h1,h2,h3,h4,h5⟩:=cB3 he
 obtain⟨w,ew,rw'⟩:=r.get h2
 have hl:=r.length
 have hn:=zQ
 have cZ:EP X pc Y Q w s:=⟨z,H,I,rw',q⟩
 exact subscriptTail_builtinR (x:=w) pl.typeIs slot_tuple_getitem.lookup
  (getItem_tuple (j:=j) (Q:=fun r s'=>r=w/\EP X pc Y Q r s') pl bD bD (by rw[size_toArray, <-hl];exact h1) (by simpa using ew) ⟨rfl,cZ⟩) hs
theorem fH0:xH X fG8:=by
 intro value slice pc s Y H x y v u Q I rx ry h hs
 obtain⟨z,i,c,rfl,rfl,hz,he,q⟩:=h
 obtain⟨t,rfl⟩:=rx
 obtain⟨t',rfl⟩:=ry
 obtain⟨j,h1,h2,h3,h4,h5⟩:=cB3 he
 have hl:z.cps.toList.length=z.length:=by simp[Str.length]
 rw[hl]at h1 h4 h5
 have hn:=zQ
 exact tail_any (typeIs_str s z t) slot_str_getitem.lookup (getItem_str (c:=c) (by
  have e1:decide (i< -(2^63:Int))=false:=decide_eq_false bD
  have e2:decide (i≥2^63)=false:=decide_eq_false bD
  rw[e1,e2,Bool.or_false]) (by rw[h1];simpa using h2) ⟨.str ⟨#[c]⟩,H,I.tok _,⟨_,rfl⟩,q⟩) hs
theorem fH1(lo hi:Option Int)(n:Nat):(sliceBounds lo hi none n).1=((HT.sIx n 0 lo:Nat):Int)/\(sliceBounds lo hi none n).2.1=((HT.sIx n n hi:Nat):Int)/\(sliceBounds lo hi none n).2.2=1:=by
 refine⟨?_,?_,rfl⟩
 ·cases lo with
  |none=>simp[sliceBounds,HT.sIx]
  |some i=>
   simp only[sliceBounds,HT.sIx,Option.getD_none,show(1:Int)>0 by decide,if_true]
   by_cases h:i<0
   ·simp only[h,if_true]<;>omega
   ·simp only[h,if_false]<;>omega
 ·cases hi with
  |none=>simp[sliceBounds,HT.sIx]
  |some i=>
   simp only[sliceBounds,HT.sIx,Option.getD_none,show(1:Int)>0 by decide,if_true]
   by_cases h:i<0
   ·simp only[h,if_true]<;>omega
   ·simp only[h,if_false]<;>omega
theorem fH2(its:List Value)(lo hi:Option Int):slicePick its.toArray lo hi none=((its.drop (HT.sIx its.length 0 lo)).take (HT.sIx its.length its.length hi-HT.sIx its.length 0 lo)).toArray:=by
 obtain⟨h1,h2,h3⟩:=fH1 lo hi its.toArray.size
 unfold slicePick
 rw[h1,h2,h3]
 simp only[sliceRange_one,pick_run,size_toArray]<;>rfl
def fH3(K:W.Frag):V->Option Int->Option Int->Hp->VK->Prop:=fun x lo hi H Q=>∃a xs,x= .ref a/\dO K H a xs/\ ∀p,H p=none->Q (.ref p) (upd H p (.lst (vY xs lo hi)))
theorem fH4:SlR X (fH3 X.K):=by
 intro pc s Y H x v vl vu lo hi sl Q I rx hs pl pu h
 obtain⟨a,xs,rfl,hx,q⟩:=h
 cases rx
 obtain⟨its,r,ht,hz⟩:=I.list hx
 have hlen:=r.length
 refine⟨"list",_,slot_list_getitem.lookup,ht.isList.typeIs,?_⟩
 refine wpAny_getItem_list_slice ht.isList hs pl pu .none (by simp) ?_ (by rw[size_toArray]<;>omega)
 rw[fH2, <-hlen]
 refine⟨.ref s.heap.objs.size,_,I.laid (t':=s.toks) (o:=.lst (vY xs lo hi)) (fun b ob q=>get?_push_of_some _ q) (le_refl _) ?_,rfl,q _ (I.hok.fresh (le_refl _))⟩
 exact⟨le_trans (cV1 xs lo hi) hz,_,0,(r.drop (HT.sIx xs.length 0 lo)).take (HT.sIx xs.length xs.length hi-HT.sIx xs.length 0 lo),get?_push_size _ rfl⟩
theorem cV3:gM X (.builtin "len") (fun xs H Q=>∃p ys,xs= [.ref p]/\(dO X.K H p ys\/gL X.K H p ys)/\Q (.int ys.length) H):=by
 intro pc s Y H xs us Q I r h
 obtain⟨p,ys,rfl,hq,q⟩:=h
 obtain⟨u,rfl,rx⟩:=nL r
 cases rx
 have hn:=zQ
 rcases hq with hq|hq
 ·obtain⟨its,r',pl,hz⟩:=I.list hq
  have hlen:=r'.length
  exact Calls.call_len_list pl.isList (by simp only[size_toArray]<;>omega) ⟨.int ys.length,H,I.tok _,⟨s.toks+1,by rw[size_toArray,hlen]⟩,q⟩
 ·obtain⟨its,r',pl,hz⟩:=I.tuple hq
  have hlen:=r'.length
  exact len_tuple pl (by simp only[size_toArray]<;>omega) ⟨.int ys.length,H,I.tok _,⟨s.toks+1,by rw[size_toArray,hlen]⟩,q⟩
theorem fH5:gM X (.builtin "len") (fun xs H Q=>∃z,xs= [.str z]/\z.length<=sizeLine/\Q (.int z.length) H):=by
 intro pc s Y H xs us Q I r h
 obtain⟨z,rfl,hz,q⟩:=h
 obtain⟨u,rfl,t,rfl⟩:=nL r
 have hn:=zQ
 exact len_str bD ⟨.int z.length,H,I.tok _,⟨_,rfl⟩,q⟩
theorem cV4:gM X (.type "list") (fun xs H Q=>∃p ys,xs= [.ref p]/\(dO X.K H p ys\/gL X.K H p ys)/\ ∀l,H l=none->Q (.ref l) (upd H l (.lst ys))):=by
 intro pc s Y H xs us Q I r h
 obtain⟨p,ys,rfl,hq,q⟩:=h
 obtain⟨u,rfl,rx⟩:=nL r
 cases rx
 have cZ:∀(its:List Value),bV ys its->ys.length<=sizeLine->∀(h':Heap) (c':Nat),(∀b o',s.heap.get? b=some o'->h'.get? b=some o')->
  h'.get? s.heap.objs.size=some {cls:=.type "list",dict:=none,data:=.seq its.toArray c',slots:= #[]}->EP X pc Y Q (.ref s.heap.objs.size) {s with heap:=h'}:=fun its r' hz h' c' kp e=>
  ⟨.ref s.heap.objs.size,_,I.laid (t':=s.toks) kp (le_refl _) (show mX X.prog X.w _ h' _ (.lst ys)from⟨hz,its,c',r',e⟩),rfl,q _ (I.hok.fresh (le_refl _))⟩
 rcases hq with hq|hq
 ·obtain⟨its,r',pl,hz⟩:=I.list hq
  have hlen:=r'.length
  obtain⟨o,ho,hc,n,hd⟩:=pl.isList
  exact call_list_seq p (.inl rfl) ho hc hd (fun h' c' kp e=>cZ its r' hz h' c' kp e) (by simp only[size_toArray]<;>omega)
 ·obtain⟨its,r',pl,hz⟩:=I.tuple hq
  have hlen:=r'.length
  obtain⟨o,ho,hc,n,hd⟩:=pl
  exact call_list_seq p (.inr rfl) ho hc hd (fun h' c' kp e=>cZ its r' hz h' c' kp e) (by simp only[size_toArray]<;>omega)
theorem cV5:gM X (.type "tuple") (fun xs H Q=>∃p ys,xs= [.ref p]/\((dO X.K H p ys/\ ∀l,H l=none->Q (.ref l) (upd H l (.tup ys)))\/(gL X.K H p ys/\Q (.ref p) H))):=by
 intro pc s Y H xs us Q I r h
 obtain⟨p,ys,rfl,h⟩:=h
 obtain⟨u,rfl,rx⟩:=nL r
 cases rx
 rcases h with⟨hq,q⟩|⟨hq,q⟩
 ·obtain⟨its,r',pl,hz⟩:=I.list hq
  have hlen:=r'.length
  refine call_tuple_list pl.isList (fun h' kp=>?_) (by simp only[size_toArray]<;>omega)
  have I1:bE X pc Y H {s with heap:=h'}:=I.kept (t':=s.toks) kp
  have I2:bE X pc Y (upd H h'.objs.size (.tup ys)) {s with heap:=h'.push {cls:=.type "tuple",data:=.seq its.toArray}}:=
   I1.laid (t':=s.toks) (fun b o e=>get?_push_of_some _ e) (le_refl _) (show mX X.prog X.w _ _ _ (.tup ys)from⟨hz,its,r',IsTup.new _ _⟩)
  exact⟨.ref h'.objs.size,_,I2,rfl,q _ (I1.hok.fresh (le_refl _))⟩
 ·obtain⟨its,r',pl,hz⟩:=I.tuple hq
  exact call_tuple_same pl ⟨.ref p,H,I,rfl,q⟩
def tyV(K:W.Frag)(T:String)(x:V)(H:Hp):Prop:=match x with
 | .str _=>T="str"
 | .int _=>T="int"
 | .ref p=>(T="list" /\ ∃xs,dO K H p xs)\/(T="tuple" /\ ∃o,K.lookup p=some o/\o.cls= .type "tuple" /\o.dict=none)\/
  (T="dict" /\((∃kvs,H p=some (.dK kvs))\/ ∃kvs,H p=some (.dT kvs)))\/(T="set" /\ ∃S n,H p=some (.set S n))
 |_=>False
theorem fH6{pc:List (Addr×Obj)}{Y:St}{H:Hp}{s:Shared}{T:String}{x:V}{v:Value}(I:bE X pc Y H s)(r:cG x v)(ty:tyV X.K T x H):
 s.TypeIs v T/\ ∀a,v= .ref a->∃ob,s.heap.get? a=some ob/\ob.dict=none:=by
 cases x with
 |str z=>
  obtain⟨t,rfl⟩:=r
  cases(show T="str" from ty)
  exact⟨typeIs_str s z t,fun _ e=>nomatch e⟩
 |int i=>
  obtain⟨t,rfl⟩:=r
  cases(show T="int" from ty)
  exact⟨typeIs_int s i t,fun _ e=>nomatch e⟩
 |ref p=>
  cases r
  rcases ty with⟨rfl,xs,hq⟩|⟨rfl,o,hk,hc,hd⟩|⟨rfl,hk⟩|⟨rfl,S,n,hk⟩
  ·obtain⟨its,_,pl,_⟩:=I.list hq
   refine⟨pl.isList.typeIs,fun a e=>?_⟩
   cases e
   obtain⟨o,n,e,c,hd,_⟩:=pl
   exact⟨o,e,hd⟩
  ·refine⟨⟨o,I.kIn p o hk,hc⟩,fun a e=>?_⟩
   cases e
   exact⟨o,I.kIn _ o hk,hd⟩
  ·have z:∃o,s.heap.get? p=some o/\o.ExactDict:=by
    rcases hk with⟨kvs,hk⟩|⟨kvs,hk⟩
    ·obtain⟨_,_,_,_,o,_,_,e,ex,_⟩:=I.hok p _ hk
     exact⟨o,e,ex⟩
    ·obtain⟨_,_,_,_,o,_,_,e,ex,_⟩:=I.hok p _ hk
     exact⟨o,e,ex⟩
   obtain⟨o,e,ex⟩:=z
   refine⟨⟨o,e,ex.1⟩,fun a e2=>?_⟩
   cases e2
   exact⟨o,e,ex.2.1⟩
  ·obtain⟨o,_,_,_,e,ex,_⟩:=I.hok p _ hk
   refine⟨⟨o,e,ex.1⟩,fun a e2=>?_⟩
   cases e2
   exact⟨o,e,ex.2.1⟩
 |_=>exact elim ty
noncomputable def tBM(K:W.Frag)(T:String)(r:V->List V->Hp->VK->Prop)(to:TE)(t:TA):TE:=fun Y H Q=>to Y H fun x H1=>tyV K T x H1/\t Y H1 fun xs H2=>r x xs H2 Q
variable{o e:Expr}{es:List Expr}{to:TE}{t:TA}{name:Str}{apos cpos:Pos}{T id:String}{r:V->List V->Hp->VK->Prop}
theorem bN9(pa:PlainAttrs T)(slot:Slot T name id)(hty:typeOf (.builtin id)=pure (.type "method_descriptor"))(hm:xI X id r)(ho:PE X o to)(ha:PA X (e::es) t)
 (hbase:attributeBase o name X.env (eval o X.env)=eval o X.env:=by rfl)
 (hfew:((backTo cpos (starEach (e::es) X.env)).all (fun x=> !x.1)&&(backToKw cpos (keywordEach [] X.env)).all (fun x=>x.1.isSome)
   &&decide ((e::es).length+([]:List Keyword).length+(if([]:List Keyword).isEmpty then 0 else 1)<30))=true:=by rfl)
 (hline:(apos.endLine==cpos.line)=true:=by rfl) (hs:starEach (e::es) X.env=(false,eval e X.env)::starEach es X.env:=by rfl) (hplain:(backTo cpos (starEach es X.env)).any (·.1)=false:=by rfl):
 PE X (.Call (.Attribute o name apos) (e::es) [] cpos) (tBM X.K T r to t):=by
 intro pc s Y H Q I h
 refine wpAny_Call_method_late hbase hfew hline rfl (bX (ho pc s Y H _ I h) fun v s1 ⟨x,H1,I1,r1,ty,q1⟩=>?_)
 obtain⟨h1,h2⟩:=fH6 I1 r1 ty
 refine⟨T,id,pa,slot,hty,h1,h2,?_⟩
 have hA:=ha cpos pc s1 Y H1 _ I1 q1
 rw[hs]at hA ⊢
 refine Calls.callWith_builtin (by show(false||(backTo cpos (starEach es X.env)).any (·.1))=false;rw[hplain]<;>rfl) (Calls.evalArgs_plain ?_)
 exact bX hA fun us s2 ⟨vs,H2,I2,r2,q2⟩=>hm pc s2 Y H2 x vs v us Q I2 r1 r2 q2
end
end L2
namespace L2
open PySem PySem.Spec PyProof.Rows
def MtM(X:Cx)(id:String)(r:V->List V->Hp->VK->Prop):Prop:=
 ∀(pc:List (Addr×Obj)) (s:Shared) (Y:St) (H:Hp) (x:V) (xs:List V) (v:Value) (us:List Value) (Q:VK),bE X pc Y H s->cG x v->bV xs us->r x xs H Q->
  wpAny (model X.prog X.w) X.A (call (.builtin id) (v::us)) (EP X pc Y Q) X.xe s
theorem bV.one:∀{x:V} {us:List Value},bV [x] us->∃u,us= [u]/\cG x u
 |_,_,.cons r .nil=>⟨_,rfl,r⟩
section
variable{X:Cx}{pc:List (Addr×Obj)}{Y:St}{H:Hp}{s:Shared}{l b:Addr}{xs ys zs:List V}
theorem bE.lset{its its':List Value}{n:Nat}{f:Array Value->Array Value}{t':Nat}(I:bE X pc Y H s)(hH:H l=some (.lst xs))
 (e:s.heap.get? l=some {cls:=.type "list",data:=.seq its.toArray n}) (hf:f its.toArray=its'.toArray) (hv:bV ys its') (hz:ys.length<=sizeLine):
 bE X pc Y (upd H l (.lst ys)) {s with heap:=s.heap.update l (Obj.mapSeq f),toks:=t'}:=by
 have q:=PySem.IsL.update e f
 rw[hf]at q
 refine I.write (x:=l) (e:=l) (by rw[hH];exact trivial) (.inl rfl) (fun b' u hb hu=>(Heap.get?_update_other s.heap (Obj.mapSeq f) (symm hb)).trans hu) ⟨_,q⟩ ?_
 exact⟨hz,its',_,hv,q⟩
theorem bE.lnew{its:List Value}{t':Nat}(I:bE X pc Y H s)(hv:bV ys its)(hz:ys.length<=sizeLine):
 bE X pc Y (upd H s.heap.objs.size (.lst ys)) {s with heap:=s.heap.push {cls:=.type "list",data:=.seq its.toArray},toks:=t'}:=
 I.laid (fun _ _ q=>get?_push_of_some _ q) (le_refl _) ⟨hz,its,0,hv,get?_push_size _ rfl⟩
theorem bE.fresh(I:bE X pc Y H s):H s.heap.objs.size=none:=I.hok.fresh (le_refl _)
theorem bE.lstM(I:bE X pc Y H s)(hH:H l=some (.lst xs)):xs.length<=sizeLine/\ ∃(its:List Value) (n:Nat),bV xs its/\xs.length=its.length/\s.heap.get? l=some {cls:=.type "list",data:=.seq its.toArray n}:=by
 obtain⟨z,its,n,r,e⟩:=I.hok l _ hH
 exact⟨z,its,n,r,r.length,e⟩
theorem fH8{n:Nat}(h:n<=sizeLine):listTooLong n=false:=by
 unfold listTooLong
 exact decide_eq_false bD
end
section
variable{X:Cx}
def fH9:V->List V->Hp->VK->Prop:=fun x vs H Q=>∃l xs y,x= .ref l/\vs= [y]/\H l=some (.lst xs)/\xs.length<sizeLine/\Q .non (upd H l (.lst (xs++ [y])))
theorem bO0:MtM X "list.append" fH9:=by
 intro pc s Y H x vs v us Q I rx rv h
 obtain⟨l,xs,y,rfl,rfl,hH,hz,q⟩:=h
 cases rx
 obtain⟨u,rfl,ru⟩:=rv.one
 obtain⟨z,its,n,r,hl,e⟩:=I.lstM hH
 refine call_meets F.slot_list_append ⟨_,e,rfl⟩ F.entry_list_append (F.args_list_append_2 _ _) (PySem.list_append l its.toArray n u (by rw[size_toArray];omega)) ⟨e,?_⟩
 refine⟨.non,_,I.lset (its':=its++ [u]) hH e (by simp) (r.append (.cons ru .nil)) ?_,rfl,q⟩
 rw[length_append,List.length_singleton]
 omega
end
section
variable{prog:Program}{w:World}{A:Around}{E:Value->Shared->Prop}{s:Shared}
set_option maxRecDepth 100000 in
end
section
variable{X:Cx}
end
end L2
namespace Att
open PySem PySem.W PySem.Calls PyProof.Rows
theorem fI0{P:Params}{h:Heap}:∀(ns:List Int) (vs:List Value),WellAll P h vs (ns.map WData.int)->IntsAre vs ns:=by
 intro ns
 induction ns with
 |nil=>
  intro vs w
  rw[List.map_nil]at w
  cases w
  exact .nil
 |cons n ns ih=>
  intro vs w
  rw[map_cons]at w
  cases w with
  |cons a b=>
   cases a
   exact .cons _ _ (ih _ b)
theorem fI1{l:OpenLaw}{n:Nat}(hn:l.most=some n){P:Params}{h:Heap}{args:List WData}{vals:List Value}
 (hpre:l.row.toRowW.claim.pre args=true) (hwl:WellAll P h vals args):
 ∃a vs ns,vals= [Value.ref a]/\args= [WData.list (ns.map WData.int)]/\h.get? a=some {cls:=.type "list",data:=.seq vs.toArray}/\IntsAre vs ns/\ns.length<=n:=by
 have hsh:WShape.hasAll [] args [.list .int]=true:=(pre_splitW hpre).1
 have hc:l.pre.holds [] {args:=args}=true:=(pre_splitW hpre).2
 obtain⟨d,r,rfl,h1,h2⟩:=hasAllW_cons hsh
 obtain rfl:=hasAllW_nil h2
 obtain⟨xs,rfl,h3⟩:=hasW_list h1
 obtain⟨ns,rfl⟩:=items_int h3
 have hlen:ns.length<=n:=by
  unfold OpenLaw.pre at hc
  have h4:(WTm.not (.lt (.lit (.int (n:Int))) (.len (.arg 0)))).holds [] {args:=[.list (ns.map .int)]}=true:=by
   have h4:=(holds_andW hc).1
   rw[hn]at h4
   exact h4
  have h5:=condW_of h4 (w_not (w_lt w_lit (w_len_list (w_arg rfl))))
  rw[length_map]at h5
  refine Nat.le_of_not_lt fun q=>?_
  have q':(n:Int)<((ns.length:Nat):Int):=by omega
  first
   | (rw[decide_eq_true q']at h5;exact absurd h5 (by decide))
   | (simp at h5;omega)
 cases hwl with
 |cons w1 w2=>
  cases w2
  cases w1 with
  |list ho hall=>exact⟨_,_,ns,rfl,rfl,ho,fI0 ns _ hall,hlen⟩
theorem fI2(l:OpenLaw)(args:List WData):l.row.toRowW.claim.post args (.bool true) args=true:=
 postW_of (r:=l.row.toRowW) (X:=(true==true))
  (show WShape.has [] (.bool true) .bool=true by first|rfl|decide|simp[WShape.has,WShape.arms,WShape.armsAll])
  (show(WTm.eq .res (.lit (.bool true))).value [] {args:=args,res:=some (.bool true),after:=args}=some (.bool (true==true))from w_eq_bool (w_res rfl) w_lit) rfl
theorem attach_call{l:OpenLaw}{n:Nat}{q:Program}{loose:List Str}{XP:(Str->Option Value)->Heap->Prop}{YP:World->Heap->Prop}{d:DefRec}
 (hn:l.most=some n) (hdf:d.params.defaults= [])
 (call:∀(w:World) (s₀ s₁:Shared) (mg mb:Str->Option Value) (fa:Addr) (o:Obj) (pm cd doc:Value) (a:Addr) (vs:List Value) (ns:List Int),
   Ground q loose [] XP w s₀ mg mb s₁.heap->YP w s₁.heap->
   s₁.heap.get? fa=some o->o.data= .func (docDef d.name d.params d.body d.scope pm cd doc)->s₁.heap.CodeRec cd d.name->mg d.name=some (.ref fa)->
   s₁.heap.get? a=some {cls:=.type "list",data:=.seq vs.toArray}->IntsAre vs ns->ns.length<=n->s₁.gens= #[]->
   codeAny (model l.prog w) callerA (.call (.ref fa) ⟨[.ref a],[]⟩) (fun r s'=>r= .ok (.ret (.bool true))/\OldK s₁.heap s'.heap/\s'.os=s₁.os/\AllBare s'.gens) s₁):
 WalkO q loose XP YP l.row.toRowW d [] (fun f vs=>PySem.call f vs):=by
 intro w s₀ s₁ mg mb G Ya fa o pm cd doc dV kV ho hd hcd hD hmg hg args vals as hpre hlay hrd hwl hlo
 obtain rfl:dV= .none:=Dflts.none hD hdf
 obtain rfl:kV= .none:=Dflts.noKw hD
 obtain⟨a,vs,ns,rfl,rfl,hobj,hints,hlen⟩:=fI1 hn hpre hwl
 refine enter_call (codeAny_mono (call w s₀ s₁ mg mb fa o pm cd doc a vs ns G Ya ho (fd_plain hd) hcd hmg hobj hints hlen hg) fun r s' hq=>?_)
 obtain⟨rfl,h2,h3,h4⟩:=hq
 exact⟨.inl ⟨.bool true,.bool true,[],rfl,fun _=>rfl,.bool true,fI2 l _,fun _=>⟨List.Pairwise.nil,fun _ hm=>(nomatch hm)⟩⟩,h2,h3,h4⟩
section
variable{prog:Program}{w:World}{A:Around}{E:Value->Shared->Prop}{s:Shared}{K:Frag}
noncomputable def gV9(h:Heap)(L d:Addr):List (Addr×Obj):=(List.range h.objs.size).filterMap fun a=>if a=L\/a=d then none else(h.get? a).map fun o=>(a,o)
end
end Att
namespace L2
open PySem PySem.Spec PyProof.Rows
theorem cV8:∀{vs:List Value} {ns:List Int},IntsAre vs ns->bV (ns.map V.int) vs
 |_,_,.nil=>.nil
 |_,_,.cons n t h=>.cons ⟨t,rfl⟩ (cV8 h)
end L2
namespace L2
open PySem PySem.Spec PyProof.Rows
noncomputable abbrev KOf{K:W.Frag}{h:Heap}(_:K.In h):W.Frag:=K
end L2
namespace L2
open PySem PySem.Spec PyProof.Rows
noncomputable def zS(s:Stmt):Arguments:=match s with
 | .FunctionDef _ a _ _ _ _ _ _ _ _=>a
 |_=>{posonlyargs:=[],args:=[],vararg:=none,kwonlyargs:=[],kw_defaults:=[],kwarg:=none,defaults:=[]}
noncomputable def kD(s:Stmt):List Stmt:=match s with
 | .FunctionDef _ _ b _ _ _ _ _ _ _=>b
 |_=>[]
noncomputable def cR(s:Stmt):Scope:=match s with
 | .FunctionDef _ _ _ _ _ _ sc _ _ _=>sc
 |_=>{kind:=.function,names:=[],isGenerator:=false,isCoroutine:=false}
noncomputable abbrev dA:rT:=fun _ _ _ _ _ _=>False
noncomputable abbrev E0:XK:=fun _ _ _=>False
theorem rY{X:Cx}:xG dA X E0:=fun _ _ _ _ _ _ _ h=>h.elim
structure fU(K:W.Frag)(x qual:Str)(st:Stmt)(f:Addr)(fd:FuncData):Prop where
 ex:∃(oc:Value) (od:Option Addr) (kV doc pm:Value) (an:Option Addr) (cdv ct:Value) (osl:Array (Option Value)),
  fd=W.fnOf x qual (zS st) (kD st) (cR st) .none kV doc pm an cdv ct/\K.lookup f=some ⟨oc,od,.func fd,osl⟩/\W.codeIn K cdv qual=true
 kp:keepIn K (.ref f)=true
section
variable{P:Program}{w:World}{K:W.Frag}{mg:Str->Option Value}{base:Heap}
theorem fU.ok{x qual:Str}{st:Stmt}{f:Addr}{fd:FuncData}{N ps:List Str}{k:Nat}{sp:Sp}(F:fU K x qual st f fd)(S:kY N ps (cR st))(len:∀vs H Q E,sp vs H Q E->vs.length=ps.length)
 (hbody:∀(cdv:Value) (A:Around) (outer:List Env) (s:Shared) (H:Hp) (vs:List V) (Q:VK) (E:XK),dH k (A.deeper (envOfC qual (cR st) s.heap.objs.size f cdv))->sp vs H Q E->
   ∃t,lJ (rX dA P w K mg base N qual (cR st) f cdv A outer s H E).nox (kD st) t/\t {nx:=fun _ H'=>Q .non H',rt:=Q} (start N vs) H):cS P w K mg base dA (k+1) f fd ps sp:=by
 obtain⟨oc,od,kV,doc,pm,an,cdv,ct,osl,rfl,lk,hcd⟩:=F.ex
 refine cU7 lk hcd S len fun A outer s H vs Q E hr hsp=>?_
 obtain⟨t,h,q⟩:=hbody cdv A outer s H vs Q E hr hsp
 exact⟨t,h.nox,q⟩
theorem fU.binds{x qual:Str}{st:Stmt}{f:Addr}{fd:FuncData}{ps:List Str}(F:fU K x qual st f fd)
 (h:∀(kV doc pm:Value) (an:Option Addr) (cdv ct:Value) (us:List Value),us.length=ps.length->bindArgs (W.fnOf x qual (zS st) (kD st) (cR st) .none kV doc pm an cdv ct) ⟨us,[]⟩=pure (ps.zip us)):jK K fd ps []:=by
 obtain⟨oc,od,kV,doc,pm,an,cdv,ct,osl,rfl,lk,hcd⟩:=F.ex
 exact .all (h kV doc pm an cdv ct)
theorem cB4{x qual:Str}{st:Stmt}{f:Addr}{oc:Value}{od an:Option Addr}{osl:Array (Option Value)}{kV doc pm cdv ct:Value}(l:K.lookup f=some ⟨oc,od,.func (W.fnOf x qual (zS st) (kD st) (cR st) .none kV doc pm an cdv ct),osl⟩)
 (c:W.codeIn K cdv qual=true) (k:keepIn K (.ref f)=true):fU K x qual st f (W.fnOf x qual (zS st) (kD st) (cR st) .none kV doc pm an cdv ct):=⟨⟨oc,od,kV,doc,pm,an,cdv,ct,osl,rfl,l,c⟩,k⟩
end
theorem cV9{n:Nat}(h:n<=1000):n<sizeLine:=Nat.lt_of_le_of_lt h (by decide)
section
variable{X:Cx}
end
theorem tW{A B:Prop}(h:B):if false=true then A else B:=by
 rw[if_neg Bool.false_ne_true]
 exact h
theorem rZ{A B:Prop}(h:A):if true=true then A else B:=by
 rw[if_pos rfl]
 exact h
def bF(H H':Hp):Prop:=∀b o,H b=some o->H' b=some o
theorem bF.refl(H:Hp):bF H H:=fun _ _ h=>h
theorem bF.trans{H H1 H2:Hp}(a:bF H H1)(b:bF H1 H2):bF H H2:=fun c o h=>b c o (a c o h)
theorem bF.free{H H':Hp}(e:bF H H'){l:Addr}(h:H' l=Option.none):H l=Option.none:=by
 cases q:H l with
 |none=>rfl
 |some o=>
  rw[e l o q]at h
  cases h
theorem bF.seq{K:W.Frag}{H H':Hp}{a:Addr}{xs:List V}(e:bF H H')(h:dO K H a xs):dO K H' a xs:=by
 rcases h with(h|⟨o,h⟩)|h
 ·exact .inl (.inl (e _ _ h))
 ·exact .inl (.inr ⟨o,e _ _ h⟩)
 ·exact .inr h
end L2
end
section
namespace R
open PySem PySem.Spec PyProof.Rows L2
variable{K:W.Frag}{mg:Str->Option Value}{X:Cx}{x y qual z q:Str}{pc:List (Addr×Obj)}{H F Ha Fa H' F':Hp}{w:World}{pos p px py p2 cp pt p1 apos:Pos}{k i n j ep:Nat}{Q E:Value->Shared->Prop}{P prog:Program}{es ifs elts args:List Expr}{e iter tg elt:Expr}{xs vs:List V}{base h h':Heap}{s s2:Shared}{a l cc C dx c':Addr}{fd:FuncData}{scope lsc:Scope}{A:Around}{env:Env}{ps caps N os ow:List Str}{ys items:Array Value}{js:List Nat}{op:CmpOp}{tp neg t1 t2:Bool}{α β:Type}{RR:Value->Addr->Result->Shared->Prop}{sl sm:Array (Option Value)}{v:V}{fp Ps ch:List Addr}{body rest:List Stmt}{cells clos:List (Str×Addr)}{gens:List Comprehension}{od:Option Addr}{tn:Nat->Heap->Prop}{G:Array GenState->Array GenState->Prop}{XP:(Str->Option Value)->Heap->Prop}{oc:Value}{o:Option Expr}{lps:Arguments}{t:Tok}{its:List Value}{YP:World->Heap->Prop}
section
abbrev St:=L2.St
inductive D where
 |non|bl (b:Bool)|int (i:Int)|str (x:Str)|tup (xs:List D)|lst (xs:List D)
inductive bA(α:Type)where
 |ok (a:α)|ex (c:Nat)|bad
noncomputable def bA.bind{α β:Type}(r:bA α)(f:α->bA β):bA β:=match r with
 | .ok a=>f a
 | .ex c=>.ex c
 | .bad=>.bad
theorem jL(a:α)(f:α->bA β):(bA.ok a).bind f=f a:=rfl
mutual
def bC(K:W.Frag)(F:Hp):D->V->Prop
 | .non,v=>v= .non
 | .bl b,v=>v= .bl b
 | .int i,v=>v= .int i
 | .str x,v=>v= .str x/\x.length<=sizeLine
 | .tup ds,v=>∃a xs,v= .ref a/\gL K F a xs/\DatL K F ds xs
 | .lst ds,v=>∃a xs,v= .ref a/\dO K F a xs/\DatL K F ds xs
def DatL(K:W.Frag)(F:Hp):List D->List V->Prop
 | [],xs=>xs= []
 |d::ds,xs=>∃x r,xs=x::r/\bC K F d x/\DatL K F ds r
end
theorem bF.seqT(e:bF H H')(h:gL K H a xs):gL K H' a xs:=by
 rcases h with(h|⟨o,h⟩)|h
 ·exact .inl (.inl (e _ _ h))
 ·exact .inl (.inr ⟨o,e _ _ h⟩)
 ·exact .inr h
mutual
theorem bC.mono(e:bF F F'):∀{d:D} {v:V},bC K F d v->bC K F' d v
 | .non,_,h=>by simp only[bC]at h ⊢;exact h
 | .bl _,_,h=>by simp only[bC]at h ⊢;exact h
 | .int _,_,h=>by simp only[bC]at h ⊢;exact h
 | .str _,_,h=>by simp only[bC]at h ⊢;exact h
 | .tup ds,_,h=>by
  simp only[bC]at h ⊢
  obtain⟨a,xs,h1,h2,h3⟩:=h
  exact⟨a,xs,h1,bF.seqT e h2,DatL.mono e h3⟩
 | .lst ds,_,h=>by
  simp only[bC]at h ⊢
  obtain⟨a,xs,h1,h2,h3⟩:=h
  exact⟨a,xs,h1,bF.seq e h2,DatL.mono e h3⟩
theorem DatL.mono(e:bF F F'):∀{ds:List D} {xs:List V},DatL K F ds xs->DatL K F' ds xs
 | [],_,h=>by simp only[DatL]at h ⊢;exact h
 |d::ds,_,h=>by
  simp only[DatL]at h ⊢
  obtain⟨x,r,h1,h2,h3⟩:=h
  exact⟨x,r,h1,bC.mono e h2,DatL.mono e h3⟩
end
section
theorem DatL.nil:DatL K F [] []:=by simp only[DatL]
theorem DatL.cons{d:D}{ds:List D}{x:V}(h:bC K F d x)(t:DatL K F ds xs):DatL K F (d::ds) (x::xs):=by
 simp only[DatL];exact⟨x,xs,rfl,h,t⟩
theorem DatL.paired:∀{ds:List D} {xs:List V},DatL K F ds xs->Paired (bC K F) ds xs
 | [],_,h=>by simp only[DatL]at h;subst h;exact .nil
 |d::ds,_,h=>by
  simp only[DatL]at h
  obtain⟨x,r,rfl,h2,h3⟩:=h
  exact .cons h2 (DatL.paired h3)
theorem DatL.of:∀{ds:List D} {xs:List V},Paired (bC K F) ds xs->DatL K F ds xs
 |_,_,.nil=>DatL.nil
 |_,_,.cons h t=>DatL.cons h (DatL.of t)
theorem DatL.length{ds:List D}(h:DatL K F ds xs):ds.length=xs.length:=Paired.length h.paired
end
section
variable{G:α->β->Prop}
theorem sA:∀{a c:List α} {b d:List β},Paired G a b->Paired G c d->Paired G (a++c) (b++d)
 |_,_,_,_,.nil,s=>s
 |_,_,_,_,.cons r t,s=>.cons r (sA t s)
theorem cB5:∀{a:List α} {b:List β} (n:Nat),Paired G a b->Paired G (a.take n) (b.take n)
 |_,_,0,_=>.nil
 |_,_,_+1,.nil=>.nil
 |_,_,n+1,.cons r t=>.cons r (cB5 n t)
theorem cB6:∀{a:List α} {b:List β} (n:Nat),Paired G a b->Paired G (a.drop n) (b.drop n)
 |_,_,0,r=>r
 |_,_,_+1,.nil=>.nil
 |_,_,n+1,.cons _ t=>cB6 n t
theorem pM:∀{a:List α} {b:List β} {i:Nat} {x:α},Paired G a b->a[i]? =some x->∃y,b[i]? =some y/\G x y
 |_,_,_,_,.nil,e=>by simp at e
 |_,_,0,_,.cons r _,e=>by simp at e;subst e;exact⟨_,rfl,r⟩
 |_,_,i+1,x,.cons _ t,e=>by
  obtain⟨u,h1,h2⟩:=pM (i:=i) (x:=x) t (by simpa using e)
  exact⟨u,by simpa using h1,h2⟩
theorem bG2:∀{a:List α} {b:List β} {i:Nat} {y:β},Paired G a b->b[i]? =some y->∃x,a[i]? =some x/\G x y
 |_,_,_,_,.nil,e=>by simp at e
 |_,_,0,_,.cons r _,e=>by simp at e;subst e;exact⟨_,rfl,r⟩
 |_,_,i+1,y,.cons _ t,e=>by
  obtain⟨u,h1,h2⟩:=bG2 (i:=i) (y:=y) t (by simpa using e)
  exact⟨u,by simpa using h1,h2⟩
end
class dF where
 L:List (Addr×Pos×Str)
 ap:∀t∈L,∀u∈L,t.1=u.1->t=u
 rc:Addr
class Pd where
 a:Addr
 dx:Addr
 l:Addr
variable [dF] [Pd]
noncomputable def bO1:HO->Bool
 | .tbl _=>false
 |_=>true
def TOk(H:Hp)(t:Addr×Pos×Str):Prop:=∃ps,H t.1=some (.tbl ps)/\PySem.TriplesOk ps.toList/\
 (codeAmong t.2.1 ps.toList=none\/ ∃c',codeAmong t.2.1 ps.toList=some (.ref c')/\H c'=some (.ext fun h=>h.CodeRec (.ref c') t.2.2))
def qB(H:Hp):Prop:=∀t∈dF.L,TOk H t
def bO2(F:Hp):Prop:=∀b ps,F b≠some (.tbl ps)
def mE(F H:Hp):Prop:=qB H/\bO2 F
theorem bO2.upd(h:bO2 F)(p:Addr){o:HO}(ho:bO1 o=true):bO2 (upd F p o):=fun b ps e=>by
 by_cases z:b=p
 ·subst z;rw[dY]at e;cases e;cases ho
 ·rw[cK z]at e;exact h b ps e
def cB7(H H':Hp):Prop:=∀b u,bO1 u=true->H b=some u->H' b=some u
structure bQ(F H F' H':Hp):Prop where
 same:cB7 H H'
 more:∀b,H b≠none->H' b≠none
 tk:mE F H->mE F' H'
 fs:bF F F'
 sub:bF F' H'
 new:∀b,F b=none->H b≠none->F' b=none
theorem bQ.refl(s:bF F H):bQ F H F H:=⟨fun _ _ _ q=>q,fun _ h=>h,fun h=>h,bF.refl _,s,fun _ h _=>h⟩
theorem qB.same(h:qB H)(s:bF H H'):qB H':=fun t ht=>by
 obtain⟨ps,e,o,q⟩:=h t ht
 refine⟨ps,s _ _ e,o,?_⟩
 rcases q with q|⟨c',q1,q2⟩
 ·exact .inl q
 ·exact .inr ⟨c',q1,s _ _ q2⟩
theorem cW0(s:bF H H'):∀b,H b≠none->H' b≠none:=fun b h=>by
 cases q:H b with
 |none=>exact absurd q h
 |some o=>rw[s b o q];simp
theorem bQ.trans{F1 H1 F2 H2:Hp}(a:bQ F H F1 H1)(b:bQ F1 H1 F2 H2):bQ F H F2 H2 where
 same:=fun c u n q=>b.same c u n (a.same c u n q)
 more:=fun c h=>b.more c (a.more c h)
 tk:=fun h=>b.tk (a.tk h)
 fs:=a.fs.trans b.fs
 sub:=b.sub
 new:=fun c h n=>b.new c (a.new c h n) (a.more c n)
theorem jY{p:Addr}(h:H p=none)(o:HO):bF H (upd H p o):=fun b u q=>by rw[cK (pL q h)];exact q
theorem fI4(s:bF F H)(p:Addr)(o:HO):bF (upd F p o) (upd H p o):=fun b u q=>by
 by_cases e:b=p
 ·subst e;rw[dY]at q ⊢;exact q
 ·rw[cK e]at q ⊢;exact s b u q
theorem xJ(s:bF F H){p:Addr}(h:F p=none)(o:HO):bF F (upd H p o):=fun b u q=>by
 rw[cK (pL q h)];exact s b u q
theorem bQ.laid(s:bF F H){p:Addr}(h:H p=none)(o:HO)(ho:bO1 o=true:=by rfl):bQ F H (upd F p o) (upd H p o)where
 same:=fun b u _ q=>jY h o b u q
 more:=cW0 (jY h o)
 tk:=fun t=>⟨t.1.same (jY h o),t.2.upd p ho⟩
 fs:=jY (bF.free s h) o
 sub:=fI4 s p o
 new:=fun b hb n=>by
  have e:b≠p:=fun e=>n (e▸h)
  rw[cK e];exact hb
theorem bQ.laidN(s:bF F H){p:Addr}(h:H p=none)(o:HO):bQ F H F (upd H p o)where
 same:=fun b u _ q=>jY h o b u q
 more:=cW0 (jY h o)
 tk:=fun t=>⟨t.1.same (jY h o),t.2⟩
 fs:=bF.refl _
 sub:=xJ s (bF.free s h) o
 new:=fun b hb n=>hb
theorem bQ.free(g:bQ F H F' H'){b:Addr}(h:H' b=none):H b=none:=by
 cases q:H b with
 |none=>rfl
 |some o=>exact absurd h (g.more b (by rw[q];simp))
theorem qB.updL{p:Addr}(h:qB H)(e:H p=some (.lst xs))(ys:List V):qB (upd H p (.lst ys)):=fun t ht=>by
 obtain⟨ps,e1,o,q⟩:=h t ht
 have n1:t.1≠p:=fun z=>by rw[z,e]at e1;cases e1
 refine⟨ps,by rw[cK n1];exact e1,o,?_⟩
 rcases q with q|⟨c',q1,q2⟩
 ·exact .inl q
 ·have n2:c'≠p:=fun z=>by rw[z,e]at q2;cases q2
  exact .inr ⟨c',q1,by rw[cK n2];exact q2⟩
theorem cB8(m:∀b,H b≠none->H' b≠none)(p:Addr)(o:HO):∀b,H b≠none->upd H' p o b≠none:=fun b h=>by
 by_cases z:b=p
 ·subst z;rw[dY];simp
 ·rw[cK z];exact m b h
inductive Slot where
 |no|val (d:D)|own (ds:List D)|is (v:V) (c:List (Addr×HO))|row (p:Bool) (ws:List D) (k:Int)
noncomputable abbrev cU:=List Slot
noncomputable def cW1(dx l:Addr)(k:Int):HO:=.ins dF.rc dx [("words",.ref l),("place",.int k)]
structure gW(K:W.Frag)(F H:Hp)(a dx l:Addr)(ws:List D)(k:Int):Prop where
 o:H a=some (cW1 dx l k)
 n:F a=none
 w:bC K F (.lst ws) (.ref l)
def bO3(K:W.Frag)(F H:Hp):Slot->Option V->Prop
 | .no,_=>True
 | .val d,o=>∃v,o=some v/\bC K F d v
 | .own ds,o=>∃a xs,o=some (.ref a)/\H a=some (.lst xs)/\F a=none/\DatL K F ds xs
 | .is v c,o=>o=some v/\ ∀p∈c,F p.1=some p.2
 | .row p ws k,o=>∃a dx l,o=some (.ref a)/\(p=true->a=Pd.a/\dx=Pd.dx/\l=Pd.l)/\gW K F H a dx l ws k
structure gC(K:W.Frag)(F H:Hp)(O:cU)(Y:St):Prop where
 tb:mE F H
 sub:bF F H
 len:O.length=Y.length
 at_:∀(i:Nat) s,O[i]? =some s->∃o,Y[i]? =some o/\bO3 K F H s o
 apart:∀(i j:Nat) ds es a,i≠j->O[i]? =some (.own ds)->O[j]? =some (.own es)->Y[i]? =some (some (.ref a))->Y[j]? ≠some (some (.ref a))
theorem bO3.grow(g:bQ F H F' H'){s:Slot}{o:Option V}(h:bO3 K F H s o):bO3 K F' H' s o:=by
 cases s with
 |no=>trivial
 |val d=>obtain⟨v,e,h⟩:=h;exact⟨v,e,h.mono g.fs⟩
 |own ds=>
  obtain⟨a,xs,e,h1,h2,h3⟩:=h
  exact⟨a,xs,e,g.same _ _ rfl h1,g.new _ h2 (by rw[h1];simp),h3.mono g.fs⟩
 |is v c=>exact⟨h.1,fun p hp=>g.fs _ _ (h.2 p hp)⟩
 |row p ws k=>
  obtain⟨a,dx,l,e,hp,h⟩:=h
  exact⟨a,dx,l,e,hp,g.same _ _ rfl h.o,g.new _ h.n (by rw[h.o];simp),h.w.mono g.fs⟩
theorem gC.grow{O:cU}{Y:St}(h:gC K F H O Y)(g:bQ F H F' H'):gC K F' H' O Y:=
 ⟨g.tk h.tb,g.sub,h.len,fun i s e=>let ⟨o,e1,r⟩:=h.at_ i s e;⟨o,e1,r.grow g⟩,h.apart⟩
theorem gC.set{O:cU}{Y:St}(h:gC K F H O Y){d:D}(i:Nat)(hd:bC K F d v):gC K F H (O.set i (.val d)) (Y.set i (some v)):=by
 refine⟨h.tb,h.sub,by rw[length_set,length_set];exact h.len,fun j s e=>?_,fun j k ds es a n e1 e2 e3=>?_⟩
 ·by_cases q:i=j
  ·subst q
   by_cases hl:i<O.length
   ·rw[getElem?_set_self hl]at e
    cases e
    exact⟨some v,getElem?_set_self (by rw[<-h.len];exact hl),v,rfl,hd⟩
   ·rw[List.getElem?_eq_none (by rw[length_set];omega)]at e;cases e
  ·rw[getElem?_set_ne q]at e ⊢;exact h.at_ j s e
 ·have q1:i≠j:=by
   rintro rfl
   by_cases hl:i<O.length
   ·rw[getElem?_set_self hl]at e1;cases e1
   ·rw[List.getElem?_eq_none (by rw[length_set];omega)]at e1;cases e1
  have q2:i≠k:=by
   rintro rfl
   by_cases hl:i<O.length
   ·rw[getElem?_set_self hl]at e2;cases e2
   ·rw[List.getElem?_eq_none (by rw[length_set];omega)]at e2;cases e2
  rw[getElem?_set_ne q1]at e1 e3
  rw[getElem?_set_ne q2]at e2 ⊢
  exact h.apart j k ds es a n e1 e2 e3
def dB{α β:Type}(Rel:Hp->α->β->Prop)(F H:Hp)(r:bA α)(Q:β->Hp->Prop):Prop:=match r with
 | .ok a=>∀b F' H',bQ F H F' H'->Rel F' a b->Q b H'
 | .ex _=>False
 | .bad=>False
theorem dB.grow{Rel:Hp->α->β->Prop}{F1 H1:Hp}{r:bA α}{Q:β->Hp->Prop}(h:dB Rel F H r Q)(g:bQ F H F1 H1):dB Rel F1 H1 r Q:=by
 cases r with
 |ok a=>exact fun b F' H' g' r'=>h b F' H' (g.trans g') r'
 |ex _=>exact h
 |bad=>exact h
theorem jF{γ δ:Type}{R1:Hp->α->β->Prop}{R2:Hp->γ->δ->Prop}{r:bA α}{g:α->bA γ}{Q:δ->Hp->Prop}(h:dB R2 F H (r.bind g) Q):
 dB R1 F H r fun b H1=>∃F1 a,bQ F H F1 H1/\R1 F1 a b/\dB R2 F1 H1 (g a) Q:=by
 cases r with
 |ok a=>exact fun b F' H' g' r'=>⟨F',a,g',r',dB.grow (show dB R2 F H (g a) Q from h) g'⟩
 |ex _=>exact h
 |bad=>exact h
theorem cL{Rel:Hp->α->β->Prop}{a:α}{Q:β->Hp->Prop}(h:dB Rel F H (.ok a) Q)(s:bF F H){b:β}(r:Rel F a b):Q b H:=h b F H (.refl s) r
theorem bG3{ds:List D}{Q:V->Hp->Prop}(h:dB (bC K) F H (.ok (.tup ds)) Q)(s:bF F H)(r:DatL K F ds xs){p:Addr}(hp:H p=none):Q (.ref p) (upd H p (.tup xs)):=by
 refine h _ _ _ (bQ.laid s hp _) ?_
 simp only[bC]
 exact⟨p,xs,rfl,gL.of dY,r.mono (jY (bF.free s hp) _)⟩
theorem zT{ds:List D}{Q:V->Hp->Prop}(h:dB (bC K) F H (.ok (.lst ds)) Q)(s:bF F H)(r:DatL K F ds xs){p:Addr}(hp:H p=none):Q (.ref p) (upd H p (.lst xs)):=by
 refine h _ _ _ (bQ.laid s hp _) ?_
 simp only[bC]
 exact⟨p,xs,rfl,dO.of dY,r.mono (jY (bF.free s hp) _)⟩
abbrev ME:=cU->bA D
abbrev MT:=cU->bA Bool
abbrev MA:=cU->bA (List D)
def bO4:Hp->Bool->Bool->Prop:=fun _ a b=>a=b
def RelO:Hp->Option Int->Option Int->Prop:=fun _ a b=>a=b
noncomputable def tD(X:Cx)(f:ME):TE:=fun Y H Q=>∃O F,gC X.K F H O Y/\dB (bC X.K) F H (f O) Q
noncomputable def sB(X:Cx)(f:MT):TT:=fun Y H Q=>∃O F,gC X.K F H O Y/\dB bO4 F H (f O) Q
noncomputable def xK(X:Cx)(f:MA):TA:=fun Y H Q=>∃O F,gC X.K F H O Y/\dB (DatL X.K) F H (f O) Q
def IE(X:Cx)(e:Expr)(f:ME):Prop:=PE X e (tD X f)
def IT(X:Cx)(e:Expr)(f:MT):Prop:=PT X e (sB X f)
def IW(X:Cx)(e:Expr)(f:MT):Prop:=PW X e (sB X f)
def IA(X:Cx)(es:List Expr)(f:MA):Prop:=PA X es (xK X f)
theorem fL{t t':TE}(h:PE X e t)(i:∀Y H Q,t' Y H Q->t Y H Q):PE X e t':=fun pc s Y H Q I hq=>h pc s Y H Q I (i Y H Q hq)
theorem bG4{t t':TT}(h:PT X e t)(i:∀Y H Q,t' Y H Q->t Y H Q):PT X e t':=fun pc s Y H Q I hq=>h pc s Y H Q I (i Y H Q hq)
theorem cW2{t t':TT}(h:PW X e t)(i:∀Y H Q,t' Y H Q->t Y H Q):PW X e t':=fun wh pc s Y H Q I hq=>h wh pc s Y H Q I (i Y H Q hq)
theorem bG5{e:List Expr}{t t':TA}(h:PA X e t)(i:∀Y H Q,t' Y H Q->t Y H Q):PA X e t':=fun p pc s Y H Q I hq=>h p pc s Y H Q I (i Y H Q hq)
theorem kE{e:Stmt}{t t':TS}(h:PS X e t)(i:∀E Y H,t' E Y H->t E Y H):PS X e t':=fun pc s Y H E I hq=>h pc s Y H E I (i E Y H hq)
theorem cB9{e:List Stmt}{t t':TS}(h:lJ X e t)(i:∀E Y H,t' E Y H->t E Y H):lJ X e t':=fun pc s Y H E I hq=>h pc s Y H E I (i E Y H hq)
noncomputable def gv(i:Nat):ME:=fun O=>match O[i]? with
 |some (.val d)=>.ok d
 |_=>.bad
noncomputable def kc(d:D):ME:=fun _=>.ok d
section
variable{a b c:Expr}{f g h:ME}
theorem fI5(i:Nat)(hp:PE X (.Name x pos) (cR0 i)):IE X (.Name x pos) (gv i):=fL hp fun Y H Q ⟨O,F,E,q⟩=>by
 unfold gv at q
 split at q
 ·rename_i d e
  obtain⟨o,e1,v,rfl,hd⟩:=E.at_ i _ e
  exact⟨v,e1,cL q E.sub hd⟩
 ·exact q.elim
theorem bG6{t:TE}{d:D}(hp:PE X e (tC v))(hd:∀F,bC X.K F d v):IE X e (kc d):=fL hp fun Y H Q ⟨O,F,E,q⟩=>cL q E.sub (hd F)
theorem nM{i j}:IE X (.Constant (.int i) j pos) (kc (.int i)):=bG6 (t:=tC (.int i)) bZ7 fun F=>by simp only[bC]
theorem tY{i j}:IE X (.Constant (.bool i) j pos) (kc (.bl i)):=bG6 (t:=tC (.bl i)) dV4 fun F=>by simp only[bC]
theorem fI6{j}:IE X (.Constant .none j pos) (kc .non):=bG6 (t:=tC .non) dV5 fun F=>by simp only[bC]
theorem fI7{x j}(hx:x.length<=sizeLine:=by decide):IE X (.Constant (.str x) j pos) (kc (.str x)):=bG6 (t:=tC (.str x)) dV6 fun F=>by simp only[bC];exact⟨trivial,hx⟩
def m1(m:D->bA D)(f:ME):ME:=fun O=>(f O).bind m
def m2(m:D->D->bA D)(f g:ME):ME:=fun O=>(f O).bind fun x=>(g O).bind fun y=>m x y
def zU(X:Cx)(r:R2)(m:D->D->bA D):Prop:=∀F H d1 d2 v1 v2 Q,bF F H->bC X.K F d1 v1->bC X.K F d2 v2->dB (bC X.K) F H (m d1 d2) Q->r v1 v2 H Q
def Op1(X:Cx)(r:V->Hp->VK->Prop)(m:D->bA D):Prop:=∀F H d v Q,bF F H->bC X.K F d v->dB (bC X.K) F H (m d) Q->r v H Q
def zV(X:Cx)(r:List V->Hp->VK->Prop)(m:List D->bA D):Prop:=∀F H ds vs Q,bF F H->DatL X.K F ds vs->dB (bC X.K) F H (m ds) Q->r vs H Q
theorem bO5{r:R2}{m:D->D->bA D}(hd:zU X r m){Y:St}{Q:VK}(q:tD X (m2 m f g) Y H Q):tOp r (tD X f) (tD X g) Y H Q:=by
 obtain⟨O,F,E,q⟩:=q
 refine⟨O,F,E,?_⟩
 have q1:=jF (R1:=bC X.K) q
 refine(by
  revert q1
  cases f O with
  |ok d=>
   intro q1 v F1 H1 g1 d1
   obtain⟨F2,d',g2,d2,q2⟩:=q1 v F1 H1 g1 d1
   refine⟨O,F2,E.grow g2,?_⟩
   have q3:=jF (R1:=bC X.K) q2
   revert q3
   cases g O with
   |ok y=>
    intro q3 v' F3 H3 g3 d3
    obtain⟨F4,y',g4,d4,q4⟩:=q3 v' F3 H3 g3 d3
    exact hd F4 H3 d' y' v v' Q g4.sub (d2.mono g4.fs) d4 q4
   |ex _=>intro q3;exact q3
   |bad=>intro q3;exact q3
  |ex _=>intro q1;exact q1
  |bad=>intro q1;exact q1)
theorem fI8{op:Operator}{r:R2}{m:D->D->bA D}(ho:cQ X (binaryOp op) r)(hd:zU X r m)(ha:IE X a f)(hb:IE X b g):IE X (.BinOp a op b pos) (m2 m f g):=
 fL (cS3 ho ha hb) fun _ _ _ q=>bO5 hd q
theorem fI9{r:R2}{m:D->D->bA D}(ho:cQ X (compareOp op) r)(hd:zU X r m)(ha:IE X a f)(hb:IE X b g)(hm:behindInMarks op b=false):IE X (.Compare a [op] [b] pos) (m2 m f g):=
 fL (cS5 ho ha hb hm) fun _ _ _ q=>bO5 hd q
theorem fJ0{r:R2}{m:D->D->bA D}(ho:xH X r)(hd:zU X r m)(ha:IE X a f)(hb:IE X b g)(hs:bN8 b):IE X (.Subscript a b pos) (m2 m f g):=
 fL (cV2 ho ha hb hs) fun _ _ _ q=>bO5 hd q
theorem fJ1{op:UnaryOp}{r:V->Hp->VK->Prop}{m:D->bA D}(ho:UnR X (unaryOp op) r)(hd:Op1 X r m)(ha:IE X a f):IE X (.UnaryOp op a pos) (m1 m f):=
 fL (dZ5 ho ha) fun Y H Q ⟨O,F,E,q⟩=>⟨O,F,E,by
  have q1:=jF (R1:=bC X.K) q
  revert q1
  cases f O with
  |ok d=>exact fun q1 v F1 H1 g1 d1=>let ⟨F2,d',g2,d2,q2⟩:=q1 v F1 H1 g1 d1;hd F2 H1 d' v Q g2.sub d2 q2
  |ex _=>exact fun q1=>q1
  |bad=>exact fun q1=>q1⟩
noncomputable def bP:MA:=fun _=>.ok []
def aC(f:ME)(r:MA):MA:=fun O=>(f O).bind fun x=>(r O).bind fun xs=>.ok (x::xs)
theorem kZ:IA X [] bP:=bG5 qA fun Y H Q ⟨O,F,E,q⟩=>cL q E.sub DatL.nil
theorem bO6{r:MA}(ha:IE X e f)(hr:IA X es r)(hs:starEach (e::es) X.env=(false,eval e X.env)::starEach es X.env:=by rfl):IA X (e::es) (aC f r):=
 bG5 (lM ha hr hs) fun Y H Q ⟨O,F,E,q⟩=>⟨O,F,E,by
  have q1:=jF (R1:=bC X.K) q
  revert q1
  cases f O with
  |ok d=>
   intro q1 v F1 H1 g1 d1
   obtain⟨F2,d',g2,d2,q2⟩:=q1 v F1 H1 g1 d1
   refine⟨O,F2,E.grow g2,?_⟩
   have q3:=jF (R1:=DatL X.K) q2
   revert q3
   cases r O with
   |ok y=>
    intro q3 v' F3 H3 g3 d3
    obtain⟨F4,y',g4,d4,q4⟩:=q3 v' F3 H3 g3 d3
    exact cL q4 g4.sub (DatL.cons (d2.mono g4.fs) d4)
   |ex _=>intro q3;exact q3
   |bad=>intro q3;exact q3
  |ex _=>exact fun q1=>q1
  |bad=>exact fun q1=>q1⟩
theorem bO7{r:List V->Hp->VK->Prop}{m:List D->bA D}{fa:MA}(hd:zV X r m){Y:St}{Q:VK}(q:tD X (fun O=>(fa O).bind m) Y H Q):xK X fa Y H fun vs H1=>r vs H1 Q:=by
 obtain⟨O,F,E,q⟩:=q
 refine⟨O,F,E,?_⟩
 have q1:=jF (R1:=DatL X.K) q
 revert q1
 cases fa O with
 |ok d=>exact fun q1 v F1 H1 g1 d1=>let ⟨F2,d',g2,d2,q2⟩:=q1 v F1 H1 g1 d1;hd F2 H1 d' v Q g2.sub d2 q2
 |ex _=>exact fun q1=>q1
 |bad=>exact fun q1=>q1
theorem fJ2{r:List V->Hp->VK->Prop}{m:List D->bA D}{fa:MA}(hd:∀F H ds vs Q,mE F H->bF F H->DatL X.K F ds vs->dB (bC X.K) F H (m ds) Q->r vs H Q){Y:St}{Q:VK}(q:tD X (fun O=>(fa O).bind m) Y H Q):xK X fa Y H fun vs H1=>r vs H1 Q:=by
 obtain⟨O,F,E,q⟩:=q
 refine⟨O,F,E,?_⟩
 have q1:=jF (R1:=DatL X.K) q
 revert q1
 cases fa O with
 |ok d=>exact fun q1 v F1 H1 g1 d1=>let ⟨F2,d',g2,d2,q2⟩:=q1 v F1 H1 g1 d1;hd F2 H1 d' v Q (g2.tk E.tb) g2.sub d2 q2
 |ex _=>exact fun q1=>q1
 |bad=>exact fun q1=>q1
def mA(m:List D->bA D)(fa:MA):ME:=fun O=>(fa O).bind m
noncomputable def bJ(ds:List D):bA D:=if ds.length<=sizeLine then .ok (.tup ds)else .bad
noncomputable def dM(ds:List D):bA D:=if ds.length<=sizeLine then .ok (.lst ds)else .bad
theorem fJ3{fa:MA}{k}(h:IA X es fa):IE X (.Tuple es k pos) (mA bJ fa):=fL (cT9 h) fun Y H Q q=>bO7 (r:=fun vs H1 Q=>vs.length<=sizeLine/\ ∀p,H1 p=none->Q (.ref p) (upd H1 p (.tup vs))) (fun F H ds vs Q s d q=>by
 unfold bJ at q
 split at q
 ·rename_i z;exact⟨by rw[<-d.length];exact z,fun p hp=>bG3 q s d hp⟩
 ·exact q.elim) q
theorem fJ4{fa:MA}(h:IA X es fa):IE X (.List es pos) (mA dM fa):=fL (cA9 h) fun Y H Q q=>bO7 (r:=fun vs H1 Q=>vs.length<=sizeLine/\ ∀p,H1 p=none->Q (.ref p) (upd H1 p (.lst vs))) (fun F H ds vs Q s d q=>by
 unfold dM at q
 split at q
 ·rename_i z;exact⟨by rw[<-d.length];exact z,fun p hp=>zT q s d hp⟩
 ·exact q.elim) q
theorem fJ5{id:String}{r:List V->Hp->VK->Prop}{m:List D->bA D}{fa:MA}(hc:gM X (.builtin id) r)(hd:zV X r m)(hg:Gl X x)(hm:X.mg x=none)(hv:bootBuiltins x=some (.builtin id))(ha:IA X (e::es) fa)
 (hn:x≠ "__name__" :=by decide) (hdb:(x==("__debug__" :Str))=false:=by decide) (he:starEach (e::es) X.env=(false,eval e X.env)::starEach es X.env:=by rfl) (hpl:(backTo pos (starEach es X.env)).any (·.1)=false:=by rfl):
 IE X (.Call (.Name x p) (e::es) [] pos) (mA m fa):=fL (cB1 hc hg hm hv ha hn hdb he hpl) fun Y H Q q=>bO7 hd q
theorem fJ6{id:String}{r:List V->Hp->VK->Prop}{m:List D->bA D}{fa:MA}(hc:gM X (.type id) r)(hd:zV X r m)(hg:Gl X x)(hm:X.mg x=none)(hv:bootBuiltins x=some (.type id))(ha:IA X (e::es) fa)
 (hn:x≠ "__name__" :=by decide) (hdb:(x==("__debug__" :Str))=false:=by decide) (he:starEach (e::es) X.env=(false,eval e X.env)::starEach es X.env:=by rfl) (hpl:(backTo pos (starEach es X.env)).any (·.1)=false:=by rfl):
 IE X (.Call (.Name x p) (e::es) [] pos) (mA m fa):=fL (cB2 hc hg hm hv ha hn hdb he hpl) fun Y H Q q=>bO7 hd q
noncomputable def kF(K:W.Frag)(m:List D->bA D):Sp:=fun vs H Q _=>∃F ds,mE F H/\bF F H/\DatL K F ds vs/\dB (bC K) F H (m ds) Q
structure cW3(X:Cx)(k:Nat)(x:Str)(m:List D->bA D):Prop where
 ex:∃(f:Addr) (fd:FuncData) (ps:List Str),cS X.prog X.w X.K X.mg X.base dA k f fd ps (kF X.K m)/\X.mg x=some (.ref f)/\keepIn X.K (.ref f)=true/\jK X.K fd ps []
theorem fJ7{m:List D->bA D}{fa:MA}(C:cW3 X k x m)(hr:dH k X.A)(hg:Gl X x)(ha:IA X (e::es) fa)
 (hdb:(x==("__debug__" :Str))=false:=by decide) (he:starEach (e::es) X.env=(false,eval e X.env)::starEach es X.env:=by rfl) (hpl:(backTo pos (starEach es X.env)).any (·.1)=false:=by rfl):
 IE X (.Call (.Name x p) (e::es) [] pos) (mA m fa):=by
 obtain⟨f,fd,ps,F,hm,hk,hb⟩:=C.ex
 refine fL (cB0 (E:=E0) F hr hg hm hk hb .nil rY ha hdb he hpl) fun Y H Q q=>?_
 refine fJ2 (r:=fun vs H1 Q=>kF X.K m (vs++ []) H1 Q E0) (fun F H ds vs Q ti s d q=>?_) q
 show kF X.K m (vs++ []) H Q E0
 rw[append_nil]
 exact⟨F,ds,ti,s,d,q⟩
noncomputable def gN:D->bA Bool
 | .bl b=>.ok b
 |_=>.bad
noncomputable def lA:D->bA Bool
 | .non=>.ok false
 | .bl b=>.ok b
 | .int i=>.ok (i != 0)
 | .str x=>.ok ((x.length:Int) != 0)
 | .tup ds=>.ok (!ds.isEmpty)
 | .lst ds=>.ok (!ds.isEmpty)
def mT(f:ME):MT:=fun O=>(f O).bind lA
def mB(f:ME):MT:=fun O=>(f O).bind gN
theorem cC0{Y:St}{Q:Bool->Hp->Prop}{t:TE}(ht:∀Y H Q,tD X f Y H Q->t Y H Q)(q:sB X (mB f) Y H Q):t Y H fun x H'=>∃k,x= .bl k/\Q k H':=by
 obtain⟨O,F,E,q⟩:=q
 refine ht _ _ _ ⟨O,F,E,?_⟩
 have q1:=jF (R1:=bC X.K) q
 revert q1
 cases f O with
 |ok d=>
  intro q1 v F1 H1 g1 d1
  obtain⟨F2,d',g2,d2,q2⟩:=q1 v F1 H1 g1 d1
  cases d' with
  |bl b=>simp only[bC]at d2;exact⟨b,d2,cL q2 g2.sub rfl⟩
  |_=>exact q2.elim
 |ex _=>exact fun q1=>q1
 |bad=>exact fun q1=>q1
theorem fJ8{r:R2}{m:D->D->bA D}(ho:cQ X (compareOp op) r)(hd:zU X r m)(ha:IE X a f)(hb:IE X b g)(hm:behindInMarks op b=false):IT X (.Compare a [op] [b] pos) (mB (m2 m f g)):=
 bG4 (cS7 ho ha hb hm) fun Y H Q q=>cC0 (f:=m2 m f g) (fun _ _ _ q=>bO5 hd q) q
theorem fJ9{d:D}{Q:Bool->Hp->Prop}(s:bF F H)(h:bC X.K F d v)(q:dB bO4 F H (lA d) Q):∃k,cA5 X.K v H k/\Q k H:=by
 cases d with
 |non=>simp only[bC]at h;subst h;exact⟨false,rfl,cL q s rfl⟩
 |bl b=>simp only[bC]at h;subst h;exact⟨b,rfl,cL q s rfl⟩
 |int i=>simp only[bC]at h;subst h;exact⟨_,rfl,cL q s rfl⟩
 |str x=>simp only[bC]at h;obtain⟨rfl,h⟩:=h;exact⟨_,⟨h,rfl⟩,cL q s rfl⟩
 |tup ds=>
  simp only[bC]at h;obtain⟨a,xs,rfl,h1,h2⟩:=h
  refine⟨!xs.isEmpty,.inr (.inl ⟨xs,bF.seqT s h1,rfl⟩),cL q s ?_⟩
  have:=h2.length
  cases ds<;>cases xs<;>first|rfl|cases this
 |lst ds=>
  simp only[bC]at h;obtain⟨a,xs,rfl,h1,h2⟩:=h
  refine⟨!xs.isEmpty,.inl ⟨xs,bF.seq s h1,rfl⟩,cL q s ?_⟩
  have:=h2.length
  cases ds<;>cases xs<;>first|rfl|cases this
theorem fK0(ha:IE X a f)(he:∀whole,isTrue a X.env whole=(do let v <-whole;standAt a.pos;holding [v] (truthy v)):=by intro _;rfl):IT X a (mT f):=
 bG4 (fC0 ha he) fun Y H Q ⟨O,F,E,q⟩=>⟨O,F,E,by
  have q1:=jF (R1:=bC X.K) q
  revert q1
  cases f O with
  |ok d=>exact fun q1 v F1 H1 g1 d1=>let ⟨F2,d',g2,d2,q2⟩:=q1 v F1 H1 g1 d1;fJ9 g2.sub d2 q2
  |ex _=>exact fun q1=>q1
  |bad=>exact fun q1=>q1⟩
variable{p q':MT}{rest:List Expr}
def lN(p q:MT):MT:=fun O=>(p O).bind fun b=>if b=true then q O else .ok false
def gO(p q:MT):MT:=fun O=>(p O).bind fun b=>if b=true then .ok true else q O
def dC(p:MT):MT:=fun O=>(p O).bind fun b=>.ok (!b)
theorem fK1(ha:IT X a p):IW X (.BoolOp .And [a] pos) p:=dW1 ha
theorem zW(ha:IT X a p):IW X (.BoolOp .Or [a] pos) p:=dW2 ha
theorem cC1{Y:St}{Q:Bool->Hp->Prop}{k:Bool->cU->bA Bool}{T:Bool->St->Hp->Prop}(hT:∀b Y H,sB X (k b) Y H Q->T b Y H)(q:sB X (fun O=>(p O).bind fun b=>k b O) Y H Q):sB X p Y H fun b H1=>T b Y H1:=by
 obtain⟨O,F,E,q⟩:=q
 refine⟨O,F,E,?_⟩
 have q1:=jF (R1:=bO4) q
 revert q1
 cases p O with
 |ok d=>
  intro q1 v F1 H1 g1 d1
  obtain⟨F2,d',g2,d2,q2⟩:=q1 v F1 H1 g1 d1
  cases(show d'=v from d2)
  exact hT _ _ _ ⟨O,F2,E.grow g2,q2⟩
 |ex _=>exact fun q1=>q1
 |bad=>exact fun q1=>q1
theorem bO8{b:Bool}{Y:St}{Q:Bool->Hp->Prop}(q:sB X (fun _=>.ok b) Y H Q):Q b H:=by
 obtain⟨O,F,E,q⟩:=q
 exact cL q E.sub rfl
theorem fK2(ha:IT X a p)(hb:IW X (.BoolOp .And (b::rest) pos) q'):IW X (.BoolOp .And (a::b::rest) pos) (lN p q'):=cW2 (dW3 ha hb) fun Y H Q q=>
 cC1 (k:=fun b O=>if b=true then q' O else .ok false) (T:=fun c Y H1=>if c=true then sB X q' Y H1 Q else Q false H1) (fun b Y H h=>by
  cases b with
  |true=>exact rZ h
  |false=>exact tW (bO8 h)) q
theorem zX(ha:IT X a p)(hb:IW X (.BoolOp .Or (b::rest) pos) q'):IW X (.BoolOp .Or (a::b::rest) pos) (gO p q'):=cW2 (dW4 ha hb) fun Y H Q q=>
 cC1 (k:=fun b O=>if b=true then .ok true else q' O) (T:=fun c Y H1=>if c=true then Q true H1 else sB X q' Y H1 Q) (fun b Y H h=>by
  cases b with
  |true=>exact rZ (bO8 h)
  |false=>exact tW h) q
theorem qC(ha:IT X a p):IT X (.UnaryOp .Not a pos) (dC p):=bG4 (dW5 ha) fun Y H Q q=>
 cC1 (k:=fun b _=>.ok (!b)) (T:=fun c Y H1=>Q (!c) H1) (fun b Y H h=>bO8 h) q
theorem IW.it(h:IW X e p):IT X e p:=PW.pt h
def gR(f g:ME):ME:=fun O=>(f O).bind fun x=>(gN x).bind fun c=>if c=true then g O else .ok (.bl false)
def xL(f:ME):ME:=fun O=>(f O).bind fun x=>(gN x).bind fun c=>.ok (.bl (!c))
theorem cW4{Y:St}{Q:VK}{k:Bool->ME}{T:Bool->St->Hp->Prop}(hT:∀b Y H,tD X (k b) Y H Q->T b Y H)(q:tD X (fun O=>(f O).bind fun x=>(gN x).bind fun c=>k c O) Y H Q):tD X f Y H fun x H1=>∃c,x= .bl c/\T c Y H1:=by
 obtain⟨O,F,E,q⟩:=q
 refine⟨O,F,E,?_⟩
 have q1:=jF (R1:=bC X.K) q
 revert q1
 cases f O with
 |ok d=>
  intro q1 v F1 H1 g1 d1
  obtain⟨F2,d',g2,d2,q2⟩:=q1 v F1 H1 g1 d1
  cases d' with
  |bl c=>simp only[bC]at d2;exact⟨c,d2,hT _ _ _ ⟨O,F2,E.grow g2,q2⟩⟩
  |_=>exact q2.elim
 |ex _=>exact fun q1=>q1
 |bad=>exact fun q1=>q1
theorem cW5{d:D}{Y:St}{Q:VK}(hd:∀F,bC X.K F d v)(q:tD X (fun _=>.ok d) Y H Q):Q v H:=by
 obtain⟨O,F,E,q⟩:=q
 exact cL q E.sub (hd F)
theorem cW6{op}(h:IE X a f):IE X (.BoolOp op [a] pos) f:=dW8 h
theorem cW7(ha:IE X a f)(hb:IE X (.BoolOp .And (b::rest) pos) g):IE X (.BoolOp .And (a::b::rest) pos) (gR f g):=fL (dW9 ha hb) fun Y H Q q=>
 cW4 (k:=fun c O=>if c=true then g O else .ok (.bl false)) (T:=fun c Y H1=>if c=true then tD X g Y H1 Q else Q (.bl false) H1) (fun b Y H h=>by
  cases b with
  |true=>exact rZ h
  |false=>exact tW (cW5 (fun F=>by simp only[bC]) h)) q
theorem fK3(ha:IE X a f):IE X (.UnaryOp .Not a pos) (xL f):=fL (dX0 ha) fun Y H Q q=>
 cW4 (k:=fun c _=>.ok (.bl (!c))) (T:=fun c Y H1=>Q (.bl (!c)) H1) (fun b Y H h=>cW5 (fun F=>by simp only[bC]) h) q
def wA(p:MT)(f g:ME):ME:=fun O=>(p O).bind fun c=>if c=true then f O else g O
theorem fK4(hc:IT X c p)(ha:IE X a f)(hb:IE X b g):IE X (.IfExp c a b pos) (wA p f g):=fL (cR1 hc ha hb) fun Y H Q ⟨O,F,E,q⟩=>⟨O,F,E,by
 have q1:=jF (R1:=bO4) q
 revert q1
 cases p O with
 |ok d=>
  intro q1 v F1 H1 g1 d1
  obtain⟨F2,d',g2,d2,q2⟩:=q1 v F1 H1 g1 d1
  cases(show d'=v from d2)
  cases v with
  |true=>exact rZ ⟨O,F2,E.grow g2,q2⟩
  |false=>exact tW ⟨O,F2,E.grow g2,q2⟩
 |ex _=>exact fun q1=>q1
 |bad=>exact fun q1=>q1⟩
end
end
variable{m:List D->bA D}{Y:St}{ds ws:List D}{O:cU}{f:ME}{fa:MA}{m':D->D->bA D}{fs:List (Str×(List D->bA D))}{ts:List (Str×List (Str×D))}
section
variable [dF] [Pd]
inductive Fl where
 |nx (O:cU)|rt (d:D)|bk (O:cU)|ct (O:cU)|rr (d:D) (O:cU)
abbrev MS:=cU->bA Fl
def qD(Ha:Hp)(O:cU)(Y:St):Prop:=(∀(i:Nat) p ws k a,O[i]? =some (.row p ws k)->Y[i]? =some (some (.ref a))->Ha a=none)/\ ∀(i j:Nat) p ws k p' ws' k',O[i]? =some (.row p ws k)->O[j]? =some (.row p' ws' k')->i=j
noncomputable def sC:Slot->Bool
 | .row _ _ _=>false
 |_=>true
theorem zY{s:Slot}{p:Bool}{k:Int}(hs:sC s=true)(e:(O.set i s)[j]? =some (.row p ws k)):i≠j/\O[j]? =some (.row p ws k):=by
 have q:i≠j:=by
  rintro rfl
  by_cases hl:i<O.length
  ·rw[getElem?_set_self hl]at e;cases e;cases hs
  ·rw[List.getElem?_eq_none (by rw[length_set];omega)]at e;cases e
 rw[getElem?_set_ne q]at e
 exact⟨q,e⟩
theorem qD.set(h:qD Ha O Y)(i:Nat){s:Slot}(hs:sC s=true)(o:Option V):qD Ha (O.set i s) (Y.set i o):=by
 refine⟨fun j p ws k a e1 e2=>?_,fun j l p ws k p' ws' k' e1 e2=>h.2 j l p ws k p' ws' k' (zY hs e1).2 (zY hs e2).2⟩
 obtain⟨n,e⟩:=zY hs e1
 rw[getElem?_set_ne n]at e2
 exact h.1 j p ws k a e e2
theorem qD.setL(h:qD Ha O Y)(i:Nat){s:Slot}(hs:sC s=true):qD Ha (O.set i s) Y:=
 ⟨fun j p ws k a e1 e2=>h.1 j p ws k a (zY hs e1).2 e2,fun j l p ws k p' ws' k' e1 e2=>h.2 j l p ws k p' ws' k' (zY hs e1).2 (zY hs e2).2⟩
theorem qD.none(h:∀s∈O,sC s=true):qD Ha O Y:=
 ⟨fun i p ws k a e=>noConfusion (h _ (mem_of_getElem? e)),fun i j p ws k p' ws' k' e=>noConfusion (h _ (mem_of_getElem? e))⟩
theorem cC2:∀s∈ds.map Slot.val++replicate k Slot.no,sC s=true:=fun s hs=>by
 rcases List.mem_append.mp hs with h|h
 ·obtain⟨d,_,rfl⟩:=List.mem_map.mp h;rfl
 ·rw[eq_of_mem_replicate h];rfl
structure SR(K:W.Frag)(Fa Ha F H:Hp)(O:cU)(Y:St):Prop where
 gr:bQ Fa Ha F H
 env:gC K F H O Y
 frh:∀(i:Nat) ds a,O[i]? =some (.own ds)->Y[i]? =some (some (.ref a))->Ha a=none
 rw:qD Ha O Y
theorem SR.grow(h:SR K Fa Ha F H O Y)(g:bQ F H F' H'):SR K Fa Ha F' H' O Y:=⟨h.gr.trans g,h.env.grow g,h.frh,h.rw⟩
theorem fK5{d:D}(e:(O.set i (.val d))[j]? =some (.own ds)):i≠j/\O[j]? =some (.own ds):=by
 have q:i≠j:=by
  rintro rfl
  by_cases hl:i<O.length
  ·rw[getElem?_set_self hl]at e;cases e
  ·rw[List.getElem?_eq_none (by rw[length_set];omega)]at e;cases e
 rw[getElem?_set_ne q]at e
 exact⟨q,e⟩
theorem SR.set(h:SR K Fa Ha F H O Y){d:D}(i:Nat)(hd:bC K F d v):SR K Fa Ha F H (O.set i (.val d)) (Y.set i (some v)):=
 ⟨h.gr,h.env.set i hd,fun j ds a e1 e2=>by
  obtain⟨q,e⟩:=fK5 e1
  rw[getElem?_set_ne q]at e2
  exact h.frh j ds a e e2,h.rw.set i rfl _⟩
def gD(X:Cx)(Fa Ha:Hp)(r:bA Fl)(E:pZ):Prop:=match r with
 | .ok (.nx O)=>∀Y F H,SR X.K Fa Ha F H O Y->E.nx Y H
 | .ok (.rt d)=>∀v F H,bQ Fa Ha F H->bC X.K F d v->E.rt v H
 | .ok (.bk O)=>∀Y F H,SR X.K Fa Ha F H O Y->E.bk Y H
 | .ok (.ct O)=>∀Y F H,SR X.K Fa Ha F H O Y->E.ct Y H
 | .ok (.rr d O)=>∀v Y F H,SR X.K Fa Ha F H O Y->bC X.K F d v->E.rt v H
 | .ex _=>False
 | .bad=>False
noncomputable def tS(X:Cx)(Fa Ha:Hp)(g:MS):TS:=fun E Y H=>∃O F,SR X.K Fa Ha F H O Y/\gD X Fa Ha (g O) E
def IS(X:Cx)(st:Stmt)(g:MS):Prop:=∀Fa Ha,PS X st (tS X Fa Ha g)
def kM(X:Cx)(st:List Stmt)(g:MS):Prop:=∀Fa Ha,lJ X st (tS X Fa Ha g)
section
variable{st:Stmt}{u v w:MS}
noncomputable def bM:MS:=fun O=>.ok (.nx O)
noncomputable def nO(g:MS):Fl->bA Fl
 | .nx O=>g O
 | .rt d=>.ok (.rt d)
 | .bk O=>.ok (.bk O)
 | .ct O=>.ok (.ct O)
 | .rr d O=>.ok (.rr d O)
def bB(u v:MS):MS:=fun O=>(u O).bind (nO v)
theorem tZ:kM X [] bM:=fun Fa Ha=>cB9 dX4 fun E Y H ⟨O,F,S,q⟩=>q Y F H S
theorem mF(h:IS X st u):kM X [st] u:=fun Fa Ha=>cR4 (h Fa Ha)
theorem sD(h1:IS X st u)(h2:kM X rest v):kM X (st::rest) (bB u v):=fun Fa Ha=>cB9 (cR3 (h1 Fa Ha) (h2 Fa Ha)) fun E Y H ⟨O,F,S,q⟩=>by
 refine⟨O,F,S,?_⟩
 unfold bB at q
 revert q
 cases u O with
 |ok fl=>
  intro q
  cases fl with
  |nx ρ'=>exact fun σ' F' H' S'=>⟨ρ',F',S',q⟩
  |rt d=>exact q
  |bk ρ'=>exact q
  |ct ρ'=>exact q
  |rr _ _=>exact q
 |ex _=>exact fun q=>q
 |bad=>exact fun q=>q
theorem fK6:IS X (.Pass pos) bM:=fun Fa Ha=>kE dX5 fun E Y H ⟨O,F,S,q⟩=>q Y F H S
theorem bO9{E:pZ}{k:D->MS}{T:V->Hp->Prop}(hT:∀O F H d v,SR X.K Fa Ha F H O Y->bC X.K F d v->gD X Fa Ha (k d O) E->T v H)
 (q:tS X Fa Ha (fun O=>(f O).bind fun d=>k d O) E Y H):tD X f Y H T:=by
 obtain⟨O,F,S,q⟩:=q
 refine⟨O,F,S.env,?_⟩
 revert q
 show gD X Fa Ha ((f O).bind fun d=>k d O) E->_
 cases f O with
 |ok d=>exact fun q v F1 H1 g1 d1=>hT O F1 H1 d v (S.grow g1) d1 q
 |ex _=>exact fun q=>q
 |bad=>exact fun q=>q
def xO(f:ME):MS:=fun O=>(f O).bind fun _=>.ok (.nx O)
theorem fK7(he:IE X e f)(hs:swapsWith e none pos.line X.env=pure false:=by rfl):IS X (.Expr e pos) (xO f):=fun Fa Ha=>kE (bF6 he hs) fun E Y H q=>
 bO9 (k:=fun _ O=>.ok (.nx O)) (fun O F H d v S _ q=>q Y F H S) q
def bG(f:ME):MS:=fun O=>(f O).bind fun d=>.ok (.rt d)
theorem nQ(he:IE X e f):IS X (.Return (some e) pos) (bG f):=fun Fa Ha=>kE (cR5 he) fun E Y H q=>
 bO9 (k:=fun d _=>.ok (.rt d)) (fun O F H d v S r q=>q v F H S.gr r) q
def bU(i:Nat)(f:ME):MS:=fun O=>(f O).bind fun d=>.ok (.nx (O.set i (.val d)))
theorem cW8(h:∀t,PE X e t->PS X (.Assign [.Name x p] e pos) (bF7 t (mC i)))(he:IE X e f):IS X (.Assign [.Name x p] e pos) (bU i f):=fun Fa Ha=>kE (h _ he) fun E Y H q=>
 bO9 (k:=fun d O=>.ok (.nx (O.set i (.val d)))) (fun O F H d v S r q=>q _ F H (S.set i r)) q
def bH(p:MT)(u v:MS):MS:=fun O=>(p O).bind fun c=>if c=true then u O else v O
theorem wB{c:Expr}{a b:List Stmt}{p:MT}(hc:IT X c p)(ha:kM X a u)(hb:kM X b v):IS X (.If c a b pos) (bH p u v):=fun Fa Ha=>kE (dX9 hc (ha Fa Ha) (hb Fa Ha)) fun E Y H ⟨O,F,S,q⟩=>by
 refine⟨O,F,S.env,?_⟩
 unfold bH at q
 revert q
 cases p O with
 |ok c=>
  intro q v F1 H1 g1 e1
  cases(show c=v from e1)
  cases c with
  |true=>exact rZ ⟨O,F1,S.grow g1,q⟩
  |false=>exact tW ⟨O,F1,S.grow g1,q⟩
 |ex _=>exact fun q=>q
 |bad=>exact fun q=>q
def gG(i:Nat)(body:MS):List D->MS
 | [],O=>.ok (.nx O)
 |d::ds,O=>(body (O.set i (.val d))).bind fun fl=>match fl with
  | .nx ρ'=>gG i body ds ρ'
  | .ct ρ'=>gG i body ds ρ'
  | .bk ρ'=>.ok (.nx ρ')
  | .rt d=>.ok (.rt d)
  | .rr d ρ'=>.ok (.rr d ρ')
theorem fK8{E:pZ}{body:MS}{d:D}(q:gD X Fa Ha (gG i body (d::ds) O) E){N:St->Hp->Prop}(hN:∀ρ' Y F H,SR X.K Fa Ha F H ρ' Y->gD X Fa Ha (gG i body ds ρ') E->N Y H):
 gD X Fa Ha (body (O.set i (.val d))) {E with nx:=N,ct:=N,bk:=E.nx}:=by
 unfold gG at q
 revert q
 cases body (O.set i (.val d))with
 |ok fl=>
  intro q
  cases fl with
  |nx ρ'=>exact fun Y F H S=>hN ρ' Y F H S q
  |ct ρ'=>exact fun Y F H S=>hN ρ' Y F H S q
  |bk ρ'=>exact q
  |rt d=>exact q
  |rr _ _=>exact q
 |ex _=>exact fun q=>q
 |bad=>exact fun q=>q
theorem bQ.mix(a:bQ Fa Ha F H)(b:bQ F Ha F' H'):bQ Fa Ha F' H':=⟨b.same,b.more,fun t=>b.tk ⟨t.1,(a.tk t).2⟩,a.fs.trans b.fs,b.sub,fun c h n=>b.new c (a.new c h n) n⟩
theorem bQ.here(a:bQ Fa Ha F H):bQ F Ha F H:=⟨a.same,a.more,fun t=>a.tk ⟨t.1,fun b ps e=>t.2 b ps (a.fs _ _ e)⟩,bF.refl _,a.sub,fun _ h _=>h⟩
theorem SR.here(h:SR K Fa Ha F H O Y):SR K F Ha F H O Y:=⟨h.gr.here,h.env,h.frh,h.rw⟩
theorem SR.mix{ρ':cU}{σ':St}(a:bQ Fa Ha F H)(h:SR K F Ha F' H' ρ' σ'):SR K Fa Ha F' H' ρ' σ':=⟨a.mix h.gr,h.env,h.frh,h.rw⟩
theorem gD.here{r:bA Fl}{E:pZ}(a:bQ Fa Ha F H)(q:gD X Fa Ha r E):gD X F Ha r E:=by
 cases r with
 |ok fl=>
  cases fl with
  |nx O=>exact fun Y F H S=>q Y F H (SR.mix a S)
  |bk O=>exact fun Y F H S=>q Y F H (SR.mix a S)
  |ct O=>exact fun Y F H S=>q Y F H (SR.mix a S)
  |rt d=>exact fun v F H g r=>q v F H (a.mix g) r
  |rr d O=>exact fun v Y F H S r=>q v Y F H (SR.mix a S) r
 |ex _=>exact q
 |bad=>exact q
section
theorem cW9(hb:kM X body u):lJ X body (fun E Y H=>∃F₁,tS X F₁ Ha u E Y H):=fun pc s Y H E I ⟨F₁,h⟩=>hb F₁ Ha pc s Y H E I h
noncomputable def upTo(lo:Int)(n:Nat):List D:=(List.range n).map fun(k:Nat)=>D.int (lo+(k:Int))
end
noncomputable def mY(n:Nat)(ds:List D):cU:=ds.map .val++replicate (n-ds.length) .no
noncomputable def bL:Fl->bA D
 | .nx _=>.ok .non
 | .rt d=>.ok d
 |_=>.bad
def cH(k n:Nat)(g:MS)(ds:List D):bA D:=if ds.length=k then(g (mY n ds)).bind bL else .bad
end
theorem env0(ti:mE F H)(s:bF F H)(r:DatL K F ds vs):gC K F H (mY N.length ds) (start N vs):=by
 have hl:=r.length
 have noown:∀(i:Nat) es,(mY N.length ds)[i]? ≠some (.own es):=fun i es e=>by
  unfold mY at e
  have hm:=mem_of_getElem? e
  rcases List.mem_append.mp hm with h|h
  ·obtain⟨d,_,h⟩:=List.mem_map.mp h;cases h
  ·have:=eq_of_mem_replicate h;cases this
 refine⟨ti,s,?_,fun i sl e=>?_,fun i j es fs a _ e=>absurd e (noown i es)⟩
 ·unfold mY L2.start
  simp only[length_append,length_map,List.length_replicate]
  omega
 ·unfold mY at e
  unfold L2.start
  by_cases hi:i<ds.length
  ·rw[getElem?_append_left (by simpa using hi),getElem?_map]at e
   rw[getElem?_append_left (by simp;omega),getElem?_map]
   cases q:ds[i]? with
   |none=>rw[q]at e;cases e
   |some d=>
    rw[q]at e;cases e
    obtain⟨x,h1,h2⟩:=pM r.paired q
    exact⟨some x,by rw[h1];rfl,x,rfl,h2⟩
  ·have hi':i<(ds.map Slot.val++replicate (N.length-ds.length) Slot.no).length:=(List.getElem?_eq_some_iff.mp e).1
   rw[getElem?_append_right (by simpa using hi)]at e
   rw[List.getElem?_replicate]at e
   split at e
   ·cases e
    rename_i hz
    simp only[length_map]at hz
    refine⟨none,?_,trivial⟩
    rw[getElem?_append_right (by simp;omega),List.getElem?_replicate]
    simp only[length_map]
    rw[if_pos bD]
   ·cases e
theorem bP0{st:Stmt}{f:Addr}{g:MS}(F:fU K x qual st f fd)(S:kY N ps (cR st))
 (hbody:∀(cdv:Value) (A:Around) (outer:List Env) (s:Shared) (H:Hp) (E:XK),dH k (A.deeper (envOfC qual (cR st) s.heap.objs.size f cdv))->
   kM (rX dA P w K mg base N qual (cR st) f cdv A outer s H E).nox (kD st) g):cS P w K mg base dA (k+1) f fd ps (kF K (cH ps.length N.length g)):=by
 refine F.ok S (fun vs H Q E h=>?_) (fun cdv A outer s H vs Q E hr h=>?_)
 ·obtain⟨F,ds,_,_,r,q⟩:=h
  unfold cH at q
  split at q
  ·rename_i e;rw[<-r.length];exact e
  ·exact q.elim
 ·obtain⟨F,ds,ti,s',r,q⟩:=h
  refine⟨_,hbody cdv A outer s H E hr F H,mY N.length ds,F,⟨.refl s',env0 ti s' r,fun i es a e=>?_,qD.none cC2⟩,?_⟩
  ·exfalso
   unfold mY at e
   have hm:=mem_of_getElem? e
   rcases List.mem_append.mp hm with h|h
   ·obtain⟨d,_,h⟩:=List.mem_map.mp h;cases h
   ·have:=eq_of_mem_replicate h;cases this
  ·unfold cH at q
   split at q
   ·revert q
    cases g (mY N.length ds)with
    |ok fl=>
     intro q
     cases fl with
     |nx O=>exact fun Y F' H' S'=>q .non F' H' S'.gr (by simp only[bC])
     |rt d=>exact fun v F' H' g' r'=>q v F' H' g' r'
     |bk O=>exact q.elim
     |ct O=>exact q.elim
     |rr _ _=>exact q.elim
    |ex _=>exact fun q=>q
    |bad=>exact fun q=>q
   ·exact q.elim
end
variable{u:MS}
section
section
theorem fK9{t sl:Addr}{vl vu:Value}{lo hi:Option Int}(ht:IsTup s.heap t items)(hs:s.heap.IsSliceOf sl vl vu .none)(pl:IsPart vl lo)(pu:IsPart vu hi)
 (hw:HT.sIx items.size 0 lo=0/\HT.sIx items.size items.size hi=items.size) (h:Q (.ref t) s):wpAny (model prog w) A (getItem (.ref t) (.ref sl)) Q E s:=by
 obtain⟨os,hos,hcs,hds⟩:=id hs
 have hTs:s.TypeIs (.ref sl) "slice" :=⟨os,hos,hcs⟩
 unfold getItem
 try with_reducible refine wpAny_holding ?_
 first|refine wpAny_bind (wpAny_pure ?_)|skip
 refine wpAny_bind (wpAny_sequenceKey ht.typeIs (by decide) ?_)
 refine wpAny_bind (wpAny_callSpecial?_slot (name:=ofString "__getitem__") ht.typeIs PyProof.Rows.slot_tuple_getitem
  (wpAny_call_entry PyProof.Rows.slot_tuple_getitem ht.typeIs entry_tuple_getitem ?_ (args_tuple_getitem _ _)))
 show wpAny _ _ (Builtin.Tuple.tupleItemsOf (.ref t)>>=_) _ _ s
 refine wpAny_bind (tupleItemsOf_ ht ?_)
 refine wpAny_bind (wpAny_typeOf hTs ?_)
 rw[if_pos (by decide)]
 refine wpAny_bind (HT.sliceApplied_gen hs pl pu ?_)
 have hno:((((HT.sIx items.size 0 lo:Nat):Int)==0&&(1:Int)==1&&(HT.sIx items.size items.size hi-HT.sIx items.size 0 lo)==items.size)=true):=by
  rw[hw.1,hw.2];simp
 show wpAny _ _ (if(((HT.sIx items.size 0 lo:Nat):Int)==0&&(1:Int)==1&&(HT.sIx items.size items.size hi-HT.sIx items.size 0 lo)==items.size)=true then _ else _) _ _ s
 rw[if_pos hno]
 unfold Builtin.Tuple.tupleIsExact
 refine wpAny_bind (wpAny_bind (wpAny_typeOf ht.typeIs ?_))
 refine wpAny_pure ?_
 rw[if_pos (by decide)]
 exact wpAny_bind (wpAny_rule (wpAny_pure ⟨_,rfl,wpAny_pure h⟩))
theorem fL0:fillsNumberSlot (.type "tuple") "mul" =pure false:=
 PySem.fillsNumberSlot_seq (id:="tuple.__mul__") (r:=some (.builtin "tuple.__rmul__")) F.slot_tuple_mul.lookup dX F.slot_tuple_rmul.lookup dX
theorem fL1:seqRepeat? (.type "tuple")=pure (some (.builtin "tuple.__mul__")):=by
 unfold seqRepeat?
 rw[PySem.seqSlot_of (T:="tuple") (name:="__mul__") (id:="tuple.__mul__") F.slot_tuple_mul.lookup dX,PySem.seqSlot_of (T:="tuple") (name:="__rmul__") (id:="tuple.__rmul__") F.slot_tuple_rmul.lookup dX]
 rfl
theorem fL2(a:Int)(t:Tok)(l:Addr)(items:Array Value)(n:Nat)(d:Option Addr)(sl:Array (Option Value)):
 Meets (Builtin.«int.__rmul__» ⟨[.int a t,.ref l],[]⟩) (fun _ R s=>s.heap.get? l=some {cls:=.type "tuple",dict:=d,data:=.seq items n,slots:=sl}/\R (.ok (.ret Value.notImplemented)) s):=
 .of_wp fun prog w A R s h=>by obtain⟨hp,g,d,tk,os⟩:=s;obtain⟨hl,h⟩:=h;wp_walk;exact⟨_,rfl,h⟩
theorem fL3(l:Addr)(items:Array Value)(n:Nat)(x:Int)(u:Tok)(d:Option Addr)(sl:Array (Option Value))(h1: ¬ (x< -(2^63)||x≥2^63)=true)(h2: ¬ (items.isEmpty||x==1)=true)(h3: ¬ (x<=0||items.isEmpty)=true)
 (h4: ¬ ((items.size:Int)*x>(2^63-1)/8)) (h5: ¬ Builtin.Tuple.tupleTooMany ((items.size:Int)*x)=true) (h6:(foldl (fun x1 x2=>x1++x2) #[] (replicate x.toNat items)).size<=sizeLine):
 Meets (Builtin.«tuple.__mul__» ⟨[.ref l,.int x u],[]⟩) (fun _ R s=>s.heap.get? l=some {cls:=.type "tuple",dict:=d,data:=.seq items n,slots:=sl}/\R (.ok (.ret (Value.ref s.heap.objs.size))) {s with heap:=s.heap.push {cls:=Value.type "tuple",data:=Data.seq (foldl (fun x1 x2=>x1++x2) #[] (replicate x.toNat items))},toks:=s.toks}):=
 .of_wp fun prog w A R s h=>by
  obtain⟨hp,g,d,tk,os⟩:=s;obtain⟨hl,h⟩:=h
  wp_walk
  rw[if_neg h1]
  refine wpAny_bind (tupleItemsOf_ ⟨_,hl,rfl,_,rfl⟩ ?_)
  rw[if_neg h2,if_neg h3,if_neg h4,if_neg h5]
  first
   |exact wpAny_bind (m:=tupleExact _) (wpAny_newObj_type (wpAny_pure ⟨_,rfl,h⟩) h6)
   |exact wpAny_bind (m:=tupleExact _) (wpAny_newObj_type (wpAny_pure ⟨_,rfl,wpAny_pure h⟩) h6)
theorem cX0(xs:List Value)(k:Nat):foldl (fun x1 x2=>x1++x2) #[] (replicate k xs.toArray)=((replicate k xs).flatten).toArray:=by
 have gen:∀(k:Nat) (acc:List Value),foldl (fun x1 x2=>x1++x2) acc.toArray (replicate k xs.toArray)=(acc++(replicate k xs).flatten).toArray:=by
  intro k
  induction k with
  |zero=>intro acc;simp
  |succ k ih=>
   intro acc
   rw[replicate_succ,List.foldl_cons,replicate_succ,flatten_cons]
   have e:acc.toArray++xs.toArray=(acc++xs).toArray:=by simp
   rw[e,ih,append_assoc]
 exact gen k []
theorem cX1(xs:List α)(k:Nat):((replicate k xs).flatten).length=k*xs.length:=by
 induction k with
 |zero=>simp
 |succ k ih=>rw[replicate_succ,flatten_cons,length_append,ih,Nat.succ_mul];omega
theorem fL4{t:Addr}{vs:List Value}{x:Int}{u:Tok}(ht:IsTup s.heap t vs.toArray)(hv:vs≠ [])(h2:2<=x)(hx:x<=1000)(hl:vs.length<=1000)
 (h:Q (.ref s.heap.objs.size) {s with heap:=s.heap.push {cls:=.type "tuple",data:=.seq ((replicate x.toNat vs).flatten).toArray}}):wpAny (model prog w) A (binaryOp .Mult (.ref t) (.int x u)) Q E s:=by
 obtain⟨⟨cls,dd,data,sl⟩,ho,hc,n,hd⟩:=id ht
 simp only at hc hd
 subst hc hd
 have he:vs.toArray.isEmpty=false:=by
  cases vs with
  |nil=>exact absurd rfl hv
  |cons _ _=>rfl
 have hle:vs.length*x.toNat<=1000*1000:=Nat.mul_le_mul hl bD
 have e:((vs.toArray.size:Int)*x)=((vs.length*x.toNat:Nat):Int):=by
  rw[size_toArray,Int.natCast_mul]
  congr 1
  omega
 have hs:=sizeLine_eq'
 rw[<-cX0]at h
 exact wpAny_binaryOp_repeat_ref (T:="tuple") (U:="int") (by decide) ⟨_,ho,rfl⟩ (fun s'=>typeIs_int s' x u) fL0 F.fills_int_mul F.slot_int_rmul fL1 F.slot_int_index.lookup
  (call_meets F.slot_int_rmul (typeIs_int s x u) F.entry_int_rmul (F.args_int_rmul_2 _ _) (fL2 x u t vs.toArray n dd sl)
    ⟨ho,rfl,⟨_,ho,rfl⟩,call_meets F.slot_tuple_mul ⟨_,ho,rfl⟩ F.entry_tuple_mul (F.args_tuple_mul_2 _ _)
     (fL3 t vs.toArray n x u dd sl (by simp;omega) (by rw[he];simp;omega) (by rw[he];simp;omega) (by rw[e];omega) (by rw[e];unfold Builtin.Tuple.tupleTooMany;exact fun z=>absurd (of_decide_eq_true z) bD)
       (by rw[cX0,size_toArray,cX1,Nat.mul_comm];omega))
     ⟨ho,h⟩⟩)
 where sizeLine_eq':1000000<=sizeLine:=by decide
end
end
section
variable [dF] [Pd]
noncomputable def rD(X:Cx)(m:D->D->bA D):R2:=fun x y H Q=>∃F d1 d2,bF F H/\bC X.K F d1 x/\bC X.K F d2 y/\dB (bC X.K) F H (m d1 d2) Q
def rD1(X:Cx)(m:D->bA D):V->Hp->VK->Prop:=fun x H Q=>∃F d,bF F H/\bC X.K F d x/\dB (bC X.K) F H (m d) Q
def qE(X:Cx)(m:List D->bA D):List V->Hp->VK->Prop:=fun xs H Q=>∃F ds,bF F H/\DatL X.K F ds xs/\dB (bC X.K) F H (m ds) Q
section
variable{a b c:Expr}{g h:ME}{m:D->D->bA D}
theorem bP1:zU X (rD X m) m:=fun F H d1 d2 v1 v2 Q s h1 h2 q=>⟨F,d1,d2,s,h1,h2,q⟩
theorem fL5{m:D->bA D}:Op1 X (rD1 X m) m:=fun F H d v Q s h q=>⟨F,d,s,h,q⟩
theorem bG8{m:List D->bA D}:zV X (qE X m) m:=fun F H ds vs Q s h q=>⟨F,ds,s,h,q⟩
theorem cX3{op:Operator}(ho:cQ X (binaryOp op) (rD X m))(ha:IE X a f)(hb:IE X b g):IE X (.BinOp a op b pos) (m2 m f g):=fI8 ho bP1 ha hb
theorem fL6(ho:cQ X (compareOp op) (rD X m))(ha:IE X a f)(hb:IE X b g)(hm:behindInMarks op b=false):IE X (.Compare a [op] [b] pos) (m2 m f g):=fI9 ho bP1 ha hb hm
theorem cX4(ho:cQ X (compareOp op) (rD X m))(ha:IE X a f)(hb:IE X b g)(hm:behindInMarks op b=false):IT X (.Compare a [op] [b] pos) (mB (m2 m f g)):=fJ8 ho bP1 ha hb hm
noncomputable def bN:D->D->bA D
 | .int a,.int b=>.ok (.int (a+b))
 | .str x,.str y=>if x.length+y.length<=sizeLine then .ok (.str (x++y))else .bad
 | .tup xs,.tup ys=>if xs.length+ys.length<=sizeLine then .ok (.tup (xs++ys))else .bad
 | .lst xs,.lst ys=>if xs.length+ys.length<=sizeLine then .ok (.lst (xs++ys))else .bad
 |_,_=>.bad
theorem zZ(x y:Str):(x++y).length=x.length+y.length:=by
 show(x.cps++y.cps).size=_
 rw[Array.size_append];rfl
theorem cX5:cQ X (binaryOp .Add) (rD X bN):=by
 intro pc s Y H x y v u Q I rx ry h
 obtain⟨F,d1,d2,sb,h1,h2,q⟩:=h
 cases d1<;>cases d2<;>try exact q.elim
 ·simp only[bC]at h1 h2;subst h1 h2
  exact dZ7 pc s Y H _ _ v u Q I rx ry ⟨_,_,rfl,rfl,cL q sb (by simp only[bC])⟩
 ·simp only[bC]at h1 h2;obtain⟨rfl,z1⟩:=h1;obtain⟨rfl,z2⟩:=h2
  simp only[bN]at q
  split at q
  ·rename_i z
   exact fC1 pc s Y H _ _ v u Q I rx ry ⟨_,_,rfl,rfl,z,cL q sb (by simp only[bC];exact⟨trivial,by rw[zZ];exact z⟩)⟩
  ·exact q.elim
 ·rename_i xs ys
  simp only[bC]at h1 h2
  obtain⟨p1,vs,rfl,hq1,hl1⟩:=h1
  obtain⟨p2,ws,rfl,hq2,hl2⟩:=h2
  simp only[bN]at q
  split at q
  ·rename_i z
   have hq1':=bF.seqT sb hq1
   have hq2':=bF.seqT sb hq2
   have l1:=hl1.length
   have l2:=hl2.length
   by_cases hx:vs= []
   ·subst hx
    have hxs:xs= []:=List.length_eq_zero_iff.mp l1
    subst hxs
    cases rx
    cases ry
    obtain⟨its,r1,p1',_⟩:=I.tuple hq1'
    obtain⟨its2,r2,p2',_⟩:=I.tuple hq2'
    have e0:its= []:=r1.nil_iff.mpr rfl
    subst e0
    obtain⟨⟨cls,dd,data,sl⟩,ho,hc,n,hd⟩:=id p1'
    obtain⟨⟨cls2,dd2,data2,sl2⟩,ho2,hc2,n2,hd2⟩:=id p2'
    simp only at hc hd hc2 hd2
    subst hc hd hc2 hd2
    exact concat_meets ⟨_,ho,rfl⟩ ⟨_,ho2,rfl⟩ noFill_tuple_add seq_tuple_add PySem.F.slot_tuple_add PySem.F.entry_tuple_add (PySem.F.args_tuple_add_2 _ _)
     (tuple_addW0 p1 p2 _ _ n n2 dd dd2 sl sl2 (by simp)) ⟨ho,ho2,⟨.ref p2,H,I,rfl,cL q sb (by simp only[bC,List.nil_append];exact⟨p2,ws,rfl,hq2,hl2⟩)⟩⟩
   ·refine fG4 pc s Y H _ _ v u Q I rx ry ⟨p1,p2,vs,ws,rfl,rfl,hq1',hq2',hx,by omega,fun hy=>?_,fun hy p hp=>?_⟩
    ·subst hy
     have hys:ys= []:=List.length_eq_zero_iff.mp l2
     subst hys
     exact cL q sb (by simp only[bC,append_nil];exact⟨p1,vs,rfl,hq1,hl1⟩)
    ·exact bG3 q sb (DatL.of (sA hl1.paired hl2.paired)) hp
  ·exact q.elim
 ·rename_i xs ys
  simp only[bC]at h1 h2
  obtain⟨p1,vs,rfl,hq1,hl1⟩:=h1
  obtain⟨p2,ws,rfl,hq2,hl2⟩:=h2
  simp only[bN]at q
  split at q
  ·rename_i z
   have l1:=hl1.length
   have l2:=hl2.length
   cases rx
   cases ry
   obtain⟨its,r1,⟨⟨cls,dd,data,sl⟩,n,ho,hc,hd,hs⟩,z1⟩:=I.list (bF.seq sb hq1)
   obtain⟨its2,r2,⟨⟨cls2,dd2,data2,sl2⟩,n2,ho2,hc2,hd2,hs2⟩,z2⟩:=I.list (bF.seq sb hq2)
   simp only at hc hd hc2 hd2 hs hs2
   subst hc hd hc2 hd2 hs hs2
   have k1:=r1.length
   have k2:=r2.length
   refine concat_meets ⟨_,ho,rfl⟩ ⟨_,ho2,rfl⟩ PySem.noFill_list_add PySem.seq_list_add PySem.F.slot_list_add PySem.F.entry_list_add (PySem.F.args_list_add_2 _ _)
    (list_addW p1 p2 _ _ n n2 none none sl sl2 (by simp only[size_toArray];omega)) ⟨ho,ho2,?_⟩
   have ea:its.toArray++its2.toArray=(its++its2).toArray:=by simp
   rw[ea]
   exact⟨.ref _,_,I.lnew (t':=s.toks) (r1.append r2) (by rw[length_append];omega),rfl,zT q sb (DatL.of (sA hl1.paired hl2.paired)) I.fresh⟩
  ·exact q.elim
theorem cC3{fn:Value->Value->Sem Value}{C:Int->Int->Prop}{gv:Int->Int->V}{gd:Int->Int->D}(rule:cQ X fn (rI C gv))(hm:∀d1 d2 F H Q,dB (bC X.K) F H (m d1 d2) Q->∃i j,d1= .int i/\d2= .int j/\C i j/\dB (bC X.K) F H (.ok (gd i j)) Q)
 (hg:∀i j F,bC X.K F (gd i j) (gv i j)):cQ X fn (rD X m):=by
 intro pc s Y H x y v u Q I rx ry h
 obtain⟨F,d1,d2,sb,h1,h2,q⟩:=h
 obtain⟨i,j,rfl,rfl,hc,q⟩:=hm d1 d2 F H Q q
 simp only[bC]at h1 h2;subst h1 h2
 exact rule pc s Y H _ _ v u Q I rx ry ⟨i,j,rfl,rfl,hc,cL q sb (hg i j F)⟩
theorem fL7{fn:Value->Value->Sem Value}{gv:Int->Int->V}(h:cQ X fn (tU gv)):cQ X fn (rI (fun _ _=>True) gv):=by
 intro pc s Y H x y v u Q I rx ry q
 obtain⟨i,j,e1,e2,_,q⟩:=q
 exact h pc s Y H x y v u Q I rx ry ⟨i,j,e1,e2,q⟩
noncomputable def dI(C:Int->Int->Bool)(g:Int->Int->D):D->D->bA D
 | .int a,.int b=>if C a b=true then .ok (g a b)else .bad
 |_,_=>.bad
theorem cC4{C:Int->Int->Bool}{g:Int->Int->D}{Q:V->Hp->Prop}(d1 d2:D)(q:dB (bC X.K) F H (dI C g d1 d2) Q):∃i j,d1= .int i/\d2= .int j/\C i j=true/\dB (bC X.K) F H (.ok (g i j)) Q:=by
 cases d1<;>cases d2<;>try exact q.elim
 rename_i i j
 simp only[dI]at q
 split at q
 ·rename_i h;exact⟨i,j,rfl,rfl,h,q⟩
 ·exact q.elim
def mG:D->D->bA D:=dI (fun _ _=>true) fun a b=>.int (a-b)
theorem fL8:cQ X (binaryOp .Sub) (rD X mG):=cC3 (gd:=fun a b=>.int (a-b)) (fL7 dZ8) (fun d1 d2 F H Q q=>let ⟨i,j,e1,e2,_,q⟩:=cC4 d1 d2 q;⟨i,j,e1,e2,trivial,q⟩) fun i j F=>by simp only[bC]
def dR:D->D->bA D:=dI (fun _ j=>decide (0<j/\j<1073741824)) fun a b=>.int (a/b)
theorem fL9:cQ X (binaryOp .FloorDiv) (rD X dR):=cC3 (gd:=fun a b=>.int (a/b)) fA0 (fun d1 d2 F H Q q=>let ⟨i,j,e1,e2,c,q⟩:=cC4 d1 d2 q;⟨i,j,e1,e2,(show 0<j/\j<1073741824 from of_decide_eq_true c),q⟩) fun i j F=>by simp only[bC]
def bY:D->D->bA D:=dI (fun _ j=>decide (0<j)) fun a b=>.int (a%b)
theorem fM0:cQ X (binaryOp .Mod) (rD X bY):=cC3 (gd:=fun a b=>.int (a%b)) fA1 (fun d1 d2 F H Q q=>let ⟨i,j,e1,e2,c,q⟩:=cC4 d1 d2 q;⟨i,j,e1,e2,of_decide_eq_true c,q⟩) fun i j F=>by simp only[bC]
noncomputable def jQ(i:Int):Bool:=decide (-(2^64)<i/\i<2^64)
def jZ:D->D->bA D
 | .int a,.int b=>if jQ a||jQ b then .ok (.int (a*b))else .bad
 | .str x,.int n=>if 0<=n/\n<=100000/\x.length<=100 then .ok (.str (PySem.Txt.mul x n))else .bad
 | .tup ds,.int n=>if 2<=n/\n<=1000/\0<ds.length/\ds.length<=1000 then .ok (.tup ((replicate n.toNat ds).flatten))else .bad
 |_,_=>.bad
theorem fM1(x:Str)(n:Int):(PySem.Txt.mul x n).length<=x.length*n.toNat:=by
 unfold PySem.Txt.mul
 split
 ·show 0<=_;omega
 ·rename_i h1
  split
  ·rename_i h2
   rw[or_eq_true]at h2
   rcases h2 with h2|h2
   ·have:n=1:=eq_of_beq h2
    subst this;simp
   ·have:x.length=0:=eq_of_beq h2
    omega
  ·have e:∀(k:Nat) (acc:Array Nat),(foldl (fun x1 x2=>x1++x2) acc (replicate k x.cps)).size=acc.size+x.length*k:=by
    intro k
    induction k with
    |zero=>intro acc;simp
    |succ k ih=>
     intro acc
     rw[replicate_succ,List.foldl_cons,ih,Array.size_append,Nat.mul_succ]
     show acc.size+x.cps.size+x.length*k=acc.size+(x.length*k+x.length)
     have:x.cps.size=x.length:=rfl
     omega
   show(foldl (fun x1 x2=>x1++x2) #[] (replicate n.toNat x.cps)).size<=_
   rw[e];simp
theorem cX6{us:List Value}(r:bV xs us):∀k:Nat,bV ((replicate k xs).flatten) ((replicate k us).flatten)
 |0=>.nil
 |k+1=>by
  rw[replicate_succ,flatten_cons,replicate_succ,flatten_cons]
  exact r.append (cX6 r k)
theorem cX7{G:α->β->Prop}{xs:List α}{us:List β}(r:Paired G xs us):∀k:Nat,Paired G ((replicate k xs).flatten) ((replicate k us).flatten)
 |0=>.nil
 |k+1=>by
  rw[replicate_succ,flatten_cons,replicate_succ,flatten_cons]
  exact sA r (cX7 r k)
theorem fM2:cQ X (binaryOp .Mult) (rD X jZ):=by
 intro pc s Y H x y v u Q I rx ry h
 obtain⟨F,d1,d2,sb,h1,h2,q⟩:=h
 cases d1<;>cases d2<;>try exact q.elim
 ·rename_i i j
  simp only[bC]at h1 h2;subst h1 h2
  simp only[jZ]at q
  split at q
  ·rename_i hc
   refine dZ9 pc s Y H _ _ v u Q I rx ry ⟨_,_,rfl,rfl,?_,cL q sb (by simp only[bC])⟩
   rw[or_eq_true]at hc
   rcases hc with hc|hc
   ·exact .inl (of_decide_eq_true hc)
   ·exact .inr (of_decide_eq_true hc)
  ·exact q.elim
 ·rename_i z n
  simp only[bC]at h1 h2;obtain⟨rfl,hz⟩:=h1;subst h2
  simp only[jZ]at q
  split at q
  ·rename_i hn
   obtain⟨t,rfl⟩:=rx
   obtain⟨t',rfl⟩:=ry
   have hle:z.length*n.toNat<=100*100000:=Nat.mul_le_mul hn.2.2 bD
   have hok:PySem.MulOk z n:=by
    refine⟨?_,fun h1 _=>?_,fun h1 _=>?_⟩
    ·have e1:decide (n< -(2^63:Int))=false:=decide_eq_false bD
     have e2:decide (n≥2^63)=false:=decide_eq_false bD
     rw[e1,e2];rfl
    ·have hn1:1<=n:=by omega
     have hdiv:(100:Int)<=(2^63-1)/n:=by
      apply Int.le_ediv_of_mul_le bD
      omega
     omega
    ·show Builtin.Str.tooLong (z.length*n.toNat)=false
     unfold Builtin.Str.tooLong
     have hsl:=sizeLine_eq
     exact decide_eq_false bD
   exact PySem.SB.mul hok fun t2 k=>⟨.str _,H,I.tok _,⟨_,rfl⟩,cL q sb (by
    simp only[bC]
    refine⟨trivial,le_trans (fM1 z n) ?_⟩
    have:=sizeLine_eq
    omega)⟩
  ·exact q.elim
 ·rename_i ds n
  simp only[bC]at h1 h2;subst h2
  obtain⟨p1,vs,rfl,hq1,hl1⟩:=h1
  simp only[jZ]at q
  split at q
  ·rename_i hn
   have l1:=hl1.length
   cases rx
   obtain⟨t',rfl⟩:=ry
   obtain⟨its,r1,p1',_⟩:=I.tuple (bF.seqT sb hq1)
   have l2:=r1.length
   have hz:=sizeLine_eq
   refine fL4 p1' (fun z=>by rw[z,length_nil]at l2;omega) hn.1 hn.2.1 bD ?_
   have rv:bV ((replicate n.toNat vs).flatten) ((replicate n.toNat its).flatten):=cX6 r1 _
   refine⟨.ref s.heap.objs.size,_,I.laid (t':=s.toks) (o:=.tup ((replicate n.toNat vs).flatten)) (fun b ob q=>get?_push_of_some _ q) (le_refl _) ?_,rfl,bG3 q sb (DatL.of (cX7 hl1.paired _)) (I.hok.fresh (le_refl _))⟩
   refine⟨?_,_,rv,IsTup.new _ _⟩
   rw[cX1]
   have:n.toNat*vs.length<=1000*1000:=Nat.mul_le_mul bD bD
   omega
  ·exact q.elim
noncomputable def vA:D->bA D
 | .int a=>.ok (.int (-a))
 |_=>.bad
theorem fM3:UnR X (unaryOp .USub) (rD1 X vA):=by
 intro pc s Y H x v Q I rx h
 obtain⟨F,d,sb,h1,q⟩:=h
 cases d<;>try exact q.elim
 simp only[bC]at h1;subst h1
 exact fA4 pc s Y H _ v Q I rx ⟨_,rfl,cL q sb (by simp only[bC])⟩
theorem fM4(ha:IE X a f):IE X (.UnaryOp .USub a pos) (m1 vA f):=fJ1 fM3 fL5 ha
noncomputable def nR:D->D->bA D
 | .int a,.int b=>.ok (.bl (decide (a<b)))
 | .str a,.str b=>.ok (.bl (decide (a.cps.toList<b.cps.toList)))
 |_,_=>.bad
noncomputable def cP:D->D->bA D
 | .int a,.int b=>.ok (.bl (decide (a<=b)))
 | .str a,.str b=>.ok (.bl (!decide (b.cps.toList<a.cps.toList)))
 |_,_=>.bad
noncomputable def dJ:D->D->bA D
 | .int a,.int b=>.ok (.bl (decide (b<a)))
 |_,_=>.bad
theorem fM5:cQ X (compareOp .Lt) (rD X nR):=by
 intro pc s Y H x y v u Q I rx ry h
 obtain⟨F,d1,d2,sb,h1,h2,q⟩:=h
 cases d1<;>cases d2<;>try exact q.elim
 ·simp only[bC]at h1 h2;subst h1 h2
  exact fB1 pc s Y H _ _ v u Q I rx ry ⟨_,_,rfl,rfl,cL q sb (by simp only[bC])⟩
 ·simp only[bC]at h1 h2;obtain⟨rfl,z1⟩:=h1;obtain⟨rfl,z2⟩:=h2
  exact fB4 pc s Y H _ _ v u Q I rx ry ⟨_,_,rfl,rfl,cL q sb (by simp only[bC])⟩
theorem fM6:cQ X (compareOp .LtE) (rD X cP):=by
 intro pc s Y H x y v u Q I rx ry h
 obtain⟨F,d1,d2,sb,h1,h2,q⟩:=h
 cases d1<;>cases d2<;>try exact q.elim
 ·simp only[bC]at h1 h2;subst h1 h2
  exact fB2 pc s Y H _ _ v u Q I rx ry ⟨_,_,rfl,rfl,cL q sb (by simp only[bC])⟩
 ·simp only[bC]at h1 h2;obtain⟨rfl,z1⟩:=h1;obtain⟨rfl,z2⟩:=h2
  obtain⟨t,rfl⟩:=rx
  obtain⟨t',rfl⟩:=ry
  exact PySem.P.le_str (lK I (cL (b:=V.bl _) q sb (by simp only[bC])) rfl)
theorem cX8:cQ X (compareOp .Gt) (rD X dJ):=by
 intro pc s Y H x y v u Q I rx ry h
 obtain⟨F,d1,d2,sb,h1,h2,q⟩:=h
 cases d1<;>cases d2<;>try exact q.elim
 simp only[bC]at h1 h2;subst h1 h2
 exact fB3 pc s Y H _ _ v u Q I rx ry ⟨_,_,rfl,rfl,cL q sb (by simp only[bC])⟩
def dS(m m':D->D->bA D)(f g h:ME):ME:=fun O=>(f O).bind fun x=>(g O).bind fun y=>(m x y).bind fun z=>(gN z).bind fun k=>if k=true then(h O).bind fun w=>m' y w else .ok (.bl false)
theorem cX9{Q:VK}(q:tD X (dS m m' f g h) Y H Q):cA4 (rD X m) (rD X m') (tD X f) (tD X g) (tD X h) Y H Q:=by
 obtain⟨O,F,E,q⟩:=q
 refine⟨O,F,E,?_⟩
 have q1:=jF (R1:=bC X.K) q
 revert q1
 cases f O with
 |ok d=>
  intro q1 v F1 H1 g1 d1
  obtain⟨F2,d',g2,d2,q2⟩:=q1 v F1 H1 g1 d1
  refine⟨O,F2,E.grow g2,?_⟩
  have q3:=jF (R1:=bC X.K) q2
  revert q3
  cases g O with
  |ok y=>
   intro q3 v' F3 H3 g3 d3
   obtain⟨F4,y',g4,d4,q4⟩:=q3 v' F3 H3 g3 d3
   refine⟨F4,d',y',g4.sub,d2.mono g4.fs,d4,?_⟩
   have q5:=jF (R1:=bC X.K) q4
   revert q5
   cases m d' y' with
   |ok z=>
    intro q5 vz F5 H5 g5 d5
    obtain⟨F6,z',g6,d6,q6⟩:=q5 vz F5 H5 g5 d5
    cases z' with
    |bl k=>
     simp only[bC]at d6
     refine⟨k,d6,?_⟩
     cases k with
     |false=>
      refine tW ?_
      exact cL (show dB (bC X.K) F6 H5 (.ok (.bl false)) Q from q6) g6.sub (by simp only[bC])
     |true=>
      refine rZ ⟨O,F6,((E.grow g2).grow g4).grow g6,?_⟩
      have q7:=jF (R1:=bC X.K) (show dB (bC X.K) F6 H5 ((h O).bind fun w=>m' y' w) Q from q6)
      revert q7
      cases h O with
      |ok w=>
       intro q7 vw F7 H7 g7 d7
       obtain⟨F8,w',g8,d8,q8⟩:=q7 vw F7 H7 g7 d7
       exact⟨F8,y',w',g8.sub,(d4.mono g6.fs).mono g8.fs,d8,q8⟩
      |ex _=>exact fun q=>q
      |bad=>exact fun q=>q
    |_=>exact q6.elim
   |ex _=>exact fun q=>q
   |bad=>exact fun q=>q
  |ex _=>exact fun q=>q
  |bad=>exact fun q=>q
 |ex _=>exact fun q=>q
 |bad=>exact fun q=>q
theorem fM7{op':CmpOp}(ho:cQ X (compareOp op) (rD X m))(ho':cQ X (compareOp op') (rD X m'))(ha:IE X a f)(hb:IE X b g)(hc:IE X c h)(hm:lastMarks [op,op'] [b,c]=false:=by with_unfolding_all rfl):
 IE X (.Compare a [op,op'] [b,c] pos) (dS m m' f g h):=fL (fB6 ho ho' ha hb hc hm) fun _ _ _ q=>cX9 q
theorem fM8{op':CmpOp}(ho:cQ X (compareOp op) (rD X m))(ho':cQ X (compareOp op') (rD X m'))(ha:IE X a f)(hb:IE X b g)(hc:IE X c h)(hm:lastMarks [op,op'] [b,c]=false:=by with_unfolding_all rfl):
 IT X (.Compare a [op,op'] [b,c] pos) (mB (dS m m' f g h)):=bG4 (fB7 ho ho' ha hb hc hm) fun Y H Q q=>cC0 (f:=dS m m' f g h) (fun _ _ _ q=>cX9 q) q
end
mutual
noncomputable def fV:D->D->Bool
 | .non,.non=>true
 | .bl a,.bl b=>a==b
 | .bl a,.int b=>(if a then 1 else 0)==b
 | .int a,.bl b=>a==(if b then 1 else 0)
 | .int a,.int b=>a==b
 | .str a,.str b=>a==b
 | .tup xs,.tup ys=>eqL xs ys
 | .lst xs,.lst ys=>eqL xs ys
 |_,_=>false
noncomputable def eqL:List D->List D->Bool
 | [],[]=>true
 |x::xs,y::ys=>fV x y&&eqL xs ys
 |_,_=>false
end
mutual
noncomputable def cV:D->Nat
 | .tup xs=>depL xs+1
 | .lst xs=>depL xs+1
 |_=>0
noncomputable def depL:List D->Nat
 | []=>0
 |x::xs=>max (cV x) (depL xs)
end
mutual
theorem cY0:∀d:D,fV d d=true
 | .non=>rfl
 | .bl b=>by simp[fV]
 | .int i=>by simp[fV]
 | .str x=>by simp[fV]
 | .tup xs=>by rw[fV];exact eqL_refl xs
 | .lst xs=>by rw[fV];exact eqL_refl xs
theorem eqL_refl:∀ds:List D,eqL ds ds=true
 | []=>rfl
 |d::ds=>by rw[eqL,cY0 d,eqL_refl ds];rfl
end
section
theorem cY1(I:bE X pc Y H s){ys:List V}(h:gL X.K H a xs)(h':dO X.K H a ys):False:=by
 obtain⟨its,r,⟨o,e,c,n,d⟩,_⟩:=I.tuple h
 obtain⟨its',r',⟨o',n',e',c',_,d'⟩,_⟩:=I.list h'
 rw[e]at e';cases e'
 rw[c]at c'
 exact absurd c' (by decide)
mutual
theorem bC.inj(I:bE X pc Y H s)(sb:bF F H):∀{d d':D} {v:V},bC X.K F d v->bC X.K F d' v->d=d'
 | .non,d',v,h,h'=>by
  simp only[bC]at h;subst h
  cases d'<;>simp only[bC]at h'<;>first| (obtain⟨_,_,q,_⟩:=h';cases q;done)| (obtain⟨q,_⟩:=h';cases q;done)| (obtain⟨q,_⟩:=h';cases q;rfl)| (cases h';done)| (cases h';rfl)|rfl
 | .bl b,d',v,h,h'=>by
  simp only[bC]at h;subst h
  cases d'<;>simp only[bC]at h'<;>first| (obtain⟨_,_,q,_⟩:=h';cases q;done)| (obtain⟨q,_⟩:=h';cases q;done)| (obtain⟨q,_⟩:=h';cases q;rfl)| (cases h';done)| (cases h';rfl)|rfl
 | .int i,d',v,h,h'=>by
  simp only[bC]at h;subst h
  cases d'<;>simp only[bC]at h'<;>first| (obtain⟨_,_,q,_⟩:=h';cases q;done)| (obtain⟨q,_⟩:=h';cases q;done)| (obtain⟨q,_⟩:=h';cases q;rfl)| (cases h';done)| (cases h';rfl)|rfl
 | .str x,d',v,h,h'=>by
  simp only[bC]at h;obtain⟨rfl,_⟩:=h
  cases d'<;>simp only[bC]at h'<;>first| (obtain⟨_,_,q,_⟩:=h';cases q;done)| (obtain⟨q,_⟩:=h';cases q;done)| (obtain⟨q,_⟩:=h';cases q;rfl)| (cases h';done)| (cases h';rfl)|rfl
 | .tup ds,d',v,h,h'=>by
  simp only[bC]at h;obtain⟨a,xs,rfl,h1,h2⟩:=h
  cases d' with
  |tup es=>
   simp only[bC]at h';obtain⟨a',ys,e,h1',h2'⟩:=h'
   cases e
   have:=I.tuple_inj (bF.seqT sb h1) (bF.seqT sb h1')
   subst this
   rw[DatL.inj I sb h2 h2']
  |lst es=>
   simp only[bC]at h';obtain⟨a',ys,e,h1',h2'⟩:=h'
   cases e
   exact(cY1 I (bF.seqT sb h1) (bF.seq sb h1')).elim
  |str _=>simp only[bC]at h';obtain⟨q,_⟩:=h';cases q
  |_=>simp only[bC]at h';cases h'
 | .lst ds,d',v,h,h'=>by
  simp only[bC]at h;obtain⟨a,xs,rfl,h1,h2⟩:=h
  cases d' with
  |lst es=>
   simp only[bC]at h';obtain⟨a',ys,e,h1',h2'⟩:=h'
   cases e
   have:=I.list_inj (bF.seq sb h1) (bF.seq sb h1')
   subst this
   rw[DatL.inj I sb h2 h2']
  |tup es=>
   simp only[bC]at h';obtain⟨a',ys,e,h1',h2'⟩:=h'
   cases e
   exact(cY1 I (bF.seqT sb h1') (bF.seq sb h1)).elim
  |str _=>simp only[bC]at h';obtain⟨q,_⟩:=h';cases q
  |_=>simp only[bC]at h';cases h'
theorem DatL.inj(I:bE X pc Y H s)(sb:bF F H):∀{ds es:List D} {xs:List V},DatL X.K F ds xs->DatL X.K F es xs->ds=es
 | [],es,xs,h,h'=>by
  simp only[DatL]at h;subst h
  cases es with
  |nil=>rfl
  |cons e es=>simp only[DatL]at h';obtain⟨_,_,q,_⟩:=h';cases q
 |d::ds,es,xs,h,h'=>by
  simp only[DatL]at h;obtain⟨x,r,rfl,h1,h2⟩:=h
  cases es with
  |nil=>simp only[DatL]at h';cases h'
  |cons e es=>
   simp only[DatL]at h';obtain⟨x',r',q,h1',h2'⟩:=h'
   cases q
   rw[bC.inj I sb h1 h1',DatL.inj I sb h2 h2']
end
def sG(ds es:List D)(j:Nat):Bool:=match ds[j]?,es[j]? with
 |some d,some e=>fV d e
 |_,_=>true
theorem cC5:∀ds es:List D,eqL ds es=((List.range (min ds.length es.length)).all (sG ds es)&&(ds.length==es.length))
 | [],[]=>rfl
 | [],e::es=>by simp[eqL]
 |d::ds,[]=>by simp[eqL]
 |d::ds,e::es=>by
  have ih:=cC5 ds es
  have e1:min (d::ds).length (e::es).length=min ds.length es.length+1:=by simp only[length_cons];omega
  rw[eqL,e1,List.range_succ_eq_map,all_cons,all_map,ih]
  have e2:(sG (d::ds) (e::es) ∘ Nat.succ)=sG ds es:=by funext j;simp[sG]
  have e3:sG (d::ds) (e::es) 0=fV d e:=by simp[sG]
  have e4:((d::ds).length==(e::es).length)=(ds.length==es.length):=by simp
  rw[e2,e3,e4,Bool.and_assoc]
theorem cC6:∀{ds:List D} {j:Nat} {d:D},ds[j]? =some d->cV d<=depL ds
 | [],_,_,h=>by simp at h
 |d::ds,0,_,h=>by simp at h;subst h;rw[depL];exact Nat.le_max_left _ _
 |d::ds,j+1,_,h=>by
  rw[depL]
  exact le_trans (cC6 (ds:=ds) (j:=j) (by simpa using h)) (Nat.le_max_right _ _)
inductive Vw(K:W.Frag)(F:Hp)(s:Shared):D->Value->Prop
 |non:Vw K F s .non .none
 |bl (b:Bool):Vw K F s (.bl b) (.bool b)
 |int (i:Int) (t:_):Vw K F s (.int i) (.int i t)
 |str (x:Str) (t:_):Vw K F s (.str x) (.str x t)
 |tup {ds:List D} {p:Addr} {xs:List V} {its:List Value} (h:IsTup s.heap p its.toArray) (r:bV xs its) (l:DatL K F ds xs):Vw K F s (.tup ds) (.ref p)
 |lst {ds:List D} {p:Addr} {xs:List V} {its:List Value} (h:s.heap.IsList p its.toArray) (r:bV xs its) (l:DatL K F ds xs):Vw K F s (.lst ds) (.ref p)
theorem Vw.of(I:bE X pc Y H s)(sb:bF F H):∀{d:D} {x:V} {u:Value},bC X.K F d x->cG x u->Vw X.K F s d u
 | .non,_,_,h,r=>by simp only[bC]at h;subst h;cases r;exact .non
 | .bl _,_,_,h,r=>by simp only[bC]at h;subst h;cases r;exact .bl _
 | .int _,_,_,h,r=>by simp only[bC]at h;subst h;obtain⟨t,rfl⟩:=r;exact .int _ t
 | .str _,_,_,h,r=>by simp only[bC]at h;obtain⟨rfl,_⟩:=h;obtain⟨t,rfl⟩:=r;exact .str _ t
 | .tup _,_,_,h,r=>by
  simp only[bC]at h;obtain⟨p,xs,rfl,g,l⟩:=h;cases r
  obtain⟨its,k,t,_⟩:=I.tuple (bF.seqT sb g)
  exact .tup t k l
 | .lst _,_,_,h,r=>by
  simp only[bC]at h;obtain⟨p,xs,rfl,g,l⟩:=h;cases r
  obtain⟨its,k,t,_⟩:=I.list (bF.seq sb g)
  exact .lst t.isList k l
theorem cY2:∀{x:V} {p:Addr},cG x (.ref p)->x= .ref p
 | .ref _,_,h=>by cases h;rfl
 | .non,_,h| .bl _,_,h| .ty _,_,h=>by cases h
 | .int _,_,h| .str _,_,h| .byt _,_,h| .flt _,_,h=>by obtain⟨_,z⟩:=h;cases z
theorem fM9{es:List D}{ys:List V}{its2:List Value}(ih:∀(d e:D) (x y:V) (u v:Value),cV d<=n->bC X.K F d x->bC X.K F e y->cG x u->cG y v->SeqAt.EqAt A s u v (fV d e))(hd:depL ds<=n)
 (l1:DatL X.K F ds xs) (k1:bV xs its) (l2:DatL X.K F es ys) (k2:bV ys its2) (j:Nat) (w1:j<its.toArray.size) (w2:j<its2.toArray.size):SeqAt.EqAt A s its.toArray[j] its2.toArray[j] (sG ds es j):=by
 have n1:=l1.length
 have n2:=l2.length
 have m1:=k1.length
 have m2:=k2.length
 rw[size_toArray]at w1 w2
 have hd':ds[j]? =some ds[j]:=getElem?_eq_getElem bD
 have he':es[j]? =some es[j]:=getElem?_eq_getElem bD
 obtain⟨x,hx,dx⟩:=pM l1.paired hd'
 obtain⟨y,hy,dy⟩:=pM l2.paired he'
 obtain⟨u,hu1,ru⟩:=k1.get hx
 obtain⟨v,hv1,rv⟩:=k2.get hy
 have eu:its.toArray[j]=u:=Option.some.inj ((getElem?_eq_getElem w1).symm.trans hu1)
 have ev:its2.toArray[j]=v:=Option.some.inj ((getElem?_eq_getElem w2).symm.trans hv1)
 have ee:sG ds es j=fV ds[j] es[j]:=by unfold sG;rw[hd',he']
 rw[eu,ev,ee]
 exact ih _ _ x y u v (le_trans (cC6 hd') hd) dx dy ru rv
theorem cY3(I:bE X pc Y H s)(sb:bF F H){d e:D}{x y:V}{p q:Addr}(h1:bC X.K F d x)(h2:bC X.K F e y)(r1:cG x (.ref p))(r2:cG y (.ref q))(R1:SeqAt.RcAt A s (.ref p) (.ref q) (fV d e)):SeqAt.EqAt A s (.ref p) (.ref q) (fV d e):=by
 by_cases hp:p=q
 ·subst hp
  cases cY2 r1
  cases cY2 r2
  rw[bC.inj I sb h1 h2,cY0]
  exact SeqAt.EqAt.same _
 ·exact SeqAt.EqAt.of_refs hp R1
open SeqAt in
theorem bP2{d e:D}{u v:Value}(hu:A.units<cLine)(a:Vw K F s d u)(b:Vw K F s e v)(n1:∀ds es,d= .tup ds->e≠ .tup es)(n2:∀ds es,d= .lst ds->e≠ .lst es):RcAt A s u v (fV d e)/\EqAt A s u v (fV d e):=by
 cases a with
 |non=>
  cases b with
  |non=>exact⟨.none_none,.same _⟩
  |bl b=>exact⟨.none_bool b,.none_bool b⟩
  |int b t=>exact⟨.none_int b t,.none_int b t⟩
  |str b t=>exact⟨.none_str b t,.none_str b t⟩
  |tup h _ _=>exact⟨.none_tuple h hu,.none_tuple h hu⟩
  |lst h _ _=>exact⟨.none_list h hu,.none_list h hu⟩
 |bl a=>
  cases b with
  |non=>exact⟨.bool_none a,.bool_none a⟩
  |bl b=>exact⟨.bool_bool a b,.bool_bool a b⟩
  |int b t=>exact⟨.bool_int a b t,.bool_int a b t⟩
  |str b t=>exact⟨.bool_str a b t,.bool_str a b t⟩
  |tup h _ _=>exact⟨.bool_tuple a h hu,.bool_tuple a h hu⟩
  |lst h _ _=>exact⟨.bool_list a h hu,.bool_list a h hu⟩
 |int a t=>
  cases b with
  |non=>exact⟨.int_none a t,.int_none a t⟩
  |bl b=>exact⟨.int_bool a t b,.int_bool a t b⟩
  |int b k=>exact⟨.int_int a t b k,.int_int a t b k⟩
  |str b k=>exact⟨.int_str a t b k,.int_str a t b k⟩
  |tup h _ _=>exact⟨.int_tuple a t h hu,.int_tuple a t h hu⟩
  |lst h _ _=>exact⟨.int_list a t h hu,.int_list a t h hu⟩
 |str a t=>
  cases b with
  |non=>exact⟨.str_none a t,.str_none a t⟩
  |bl b=>exact⟨.str_bool a t b,.str_bool a t b⟩
  |int b k=>exact⟨.str_int a t b k,.str_int a t b k⟩
  |str b k=>exact⟨.str_str a t b k,.str_str a t b k⟩
  |tup h _ _=>exact⟨.str_tuple a t h hu,.str_tuple a t h hu⟩
  |lst h _ _=>exact⟨.str_list a t h hu,.str_list a t h hu⟩
 |tup g _ _=>
  cases b with
  |non=>exact⟨.tuple_none g hu,.tuple_none g hu⟩
  |bl b=>exact⟨.tuple_bool b g hu,.tuple_bool b g hu⟩
  |int b k=>exact⟨.tuple_int b k g hu,.tuple_int b k g hu⟩
  |str b k=>exact⟨.tuple_str b k g hu,.tuple_str b k g hu⟩
  |lst h _ _=>exact⟨.tuple_list g h hu,.tuple_list g h hu⟩
  |tup _ _ _=>exact(n1 _ _ rfl rfl).elim
 |lst g _ _=>
  cases b with
  |non=>exact⟨.list_none g hu,.list_none g hu⟩
  |bl b=>exact⟨.list_bool b g hu,.list_bool b g hu⟩
  |int b k=>exact⟨.list_int b k g hu,.list_int b k g hu⟩
  |str b k=>exact⟨.list_str b k g hu,.list_str b k g hu⟩
  |tup h _ _=>exact⟨.list_tuple g h hu,.list_tuple g h hu⟩
  |lst _ _ _=>exact(n2 _ _ rfl rfl).elim
theorem cY4(I:bE X pc Y H s)(sb:bF F H)(n:Nat):∀(A:Around) (d e:D) (x y:V) (u v:Value),cV d<=n->A.units+n<cLine->bC X.K F d x->bC X.K F e y->cG x u->cG y v->SeqAt.RcAt A s u v (fV d e)/\SeqAt.EqAt A s u v (fV d e):=by
 induction n with
 |zero=>
  intro A d e x y u v hd hu h1 h2 r1 r2
  refine bP2 hu (Vw.of I sb h1 r1) (Vw.of I sb h2 r2) (fun _ _ z=>?_) fun _ _ z=>?_<;>(subst z;rw[cV]at hd;cases hd)
 |succ n ih=>
  intro A d e x y u v hd hu h1 h2 r1 r2
  have hu0:A.units<cLine:=by omega
  have hu1:A.in1.units+n<cLine:=by show A.units+1+n<cLine;omega
  have w1:=Vw.of I sb h1 r1
  have w2:=Vw.of I sb h2 r2
  have key:∀{ds es:List D} {xs ys:List V} {its its2:List Value},depL ds+1<=n+1->DatL X.K F ds xs->bV xs its->DatL X.K F es ys->bV ys its2->∀(j:Nat) (w1:j<its.toArray.size) (w2:j<its2.toArray.size),SeqAt.EqAt A.in1 s its.toArray[j] its2.toArray[j] (sG ds es j):=
   fun q=>fM9 (fun d e x y u v q a b c f=>(ih A.in1 d e x y u v q hu1 a b c f).2) (Nat.le_of_succ_le_succ q)
  clear ih
  cases w1 with
  |tup g1 k1 l1=>
   cases w2 with
   |tup g2 k2 l2=>
    refine(fun R1=>⟨R1,cY3 I sb h1 h2 r1 r2 R1⟩) ?_
    rw[cV]at hd
    have z:=SeqAt.RcAt.tuples g1 g2 hu0 (key hd l1 k1 l2 k2)
    rw[size_toArray,size_toArray, <-k1.length, <-k2.length, <-l1.length, <-l2.length, <-cC5]at z
    rw[fV];exact z
   |_=>exact bP2 hu0 (.tup g1 k1 l1) (Vw.of I sb h2 r2) (fun _ _ _ z=>by cases z) fun _ _ z=>by cases z
  |lst g1 k1 l1=>
   cases w2 with
   |lst g2 k2 l2=>
    refine(fun R1=>⟨R1,cY3 I sb h1 h2 r1 r2 R1⟩) ?_
    rw[cV]at hd
    have key:=key hd l1 k1 l2 k2
    rw[fV,cC5,l1.length.trans k1.length,l2.length.trans k2.length]
    rename_i its1 _ _ _ its2
    by_cases hz:its1.length=its2.length
    ·have z:=SeqAt.RcAt.lists g1 g2 (by simpa using hz) hu0 key
     rw[size_toArray]at z
     rw[beq_iff_eq.mpr hz,Bool.and_true, <-hz,Nat.min_self];exact z
    ·rw[beq_eq_false_iff_ne.mpr hz,Bool.and_false]
     exact SeqAt.RcAt.lists_lengths (A:=A) (s:=s) g1 g2 (by simpa using hz) hu0
   |_=>exact bP2 hu0 (.lst g1 k1 l1) (Vw.of I sb h2 r2) (fun _ _ z=>by cases z) fun _ _ _ z=>by cases z
  |_=>exact bP2 hu0 (Vw.of I sb h1 r1) w2 (fun _ _ z=>by cases z) fun _ _ z=>by cases z
end
section
variable{a b c:Expr}{g h:ME}{m:D->D->bA D}
def cI(d e:D):bA D:=if cV d<=100 then .ok (.bl (fV d e))else .bad
theorem fN0(hu:X.A.units+100<cLine):cQ X (compareOp .Eq) (rD X cI):=by
 intro pc s Y H x y v u Q I rx ry h
 obtain⟨F,d1,d2,sb,h1,h2,q⟩:=h
 unfold cI at q
 split at q
 ·rename_i hd
  have R1:=(cY4 I sb 100 X.A d1 d2 x y v u hd hu h1 h2 rx ry).1
  exact R1 X.prog X.w X.xe _ ⟨.bl _,H,I,rfl,cL q sb (by simp only[bC])⟩
 ·exact q.elim
def xQ(d:D)(ds:List D):Bool:=ds.any fun e=>fV e d
def fQ(neg:Bool)(d:D):D->bA D
 | .tup ds=>if depL ds<=100 then .ok (.bl (if neg then !xQ d ds else xQ d ds))else .bad
 | .lst ds=>if depL ds<=100 then .ok (.bl (if neg then !xQ d ds else xQ d ds))else .bad
 |_=>.bad
def mH(K:W.Frag)(F:Hp)(d:D)(u:Value):Bool:=by
 classical
 exact if h:∃e x,cG x u/\bC K F e x then fV h.choose d else false
theorem cY5(I:bE X pc Y H s)(sb:bF F H){d e:D}{x:V}{u:Value}(r:cG x u)(h:bC X.K F e x):mH X.K F d u=fV e d:=by
 classical
 have hx:∃e x,cG x u/\bC X.K F e x:=⟨e,x,r,h⟩
 unfold mH
 rw[dif_pos hx]
 obtain⟨x',r',h'⟩:=hx.choose_spec
 have:x'=x:=r'.inj r
 subst this
 rw[bC.inj I sb h' h]
theorem bG9(I:bE X pc Y H s)(sb:bF F H){d:D}:∀{ds:List D} {xs:List V} {us:List Value},DatL X.K F ds xs->bV xs us->us.any (mH X.K F d)=xQ d ds
 | [],_,_,h,r=>by simp only[DatL]at h;subst h;cases r;rfl
 |e::ds,_,_,h,r=>by
  simp only[DatL]at h;obtain⟨x,xs,rfl,h1,h2⟩:=h
  cases r with
  |cons r1 r2=>rw[any_cons,cY5 I sb r1 h1,bG9 I sb h2 r2];rfl
theorem cY6(hu:X.A.units+200<cLine):cQ X (compareOp (if neg then .NotIn else .In)) (rD X (fQ neg)):=by
 intro pc s Y H x y v u Q I rx ry h
 obtain⟨F,d1,d2,sb,h1,h2,q⟩:=h
 have key:∀(ds:List D) (xs:List V) (its:List Value),DatL X.K F ds xs->bV xs its->depL ds<=100->∀w∈its.toArray,SeqAt.EqAt X.A.in1 s w v (mH X.K F d1 w):=fun ds xs its hl r hz w hw=>by
  have hw':w∈its:=by simpa using hw
  obtain⟨j,hj⟩:=List.getElem?_of_mem hw'
  obtain⟨x',hx',rx'⟩:=bG2 r hj
  obtain⟨e,he,hd⟩:=bG2 hl.paired hx'
  rw[cY5 I sb rx' hd]
  exact(cY4 I sb 100 X.A.in1 e d1 x' x w v (by have:=cC6 he;omega) (by show X.A.units+1+100<cLine;omega) hd h1 rx' rx).2
 cases d2 with
 |tup ds=>
  simp only[bC]at h2;obtain⟨p,xs,rfl,g1,l1⟩:=h2;cases ry
  simp only[fQ]at q
  split at q
  ·rename_i hz
   obtain⟨its,r,pl,_⟩:=I.tuple (bF.seqT sb g1)
   cases neg with
   |false=>
    refine SeqAt.in_tupleAt (mH X.K F d1) pl (key ds xs its l1 r hz) ⟨.bl _,H,I,rfl,?_⟩
    rw[show its.toArray.any (mH X.K F d1)=its.any (mH X.K F d1) by simp,bG9 I sb l1 r]
    exact cL q sb (by simp only[bC];rfl)
   |true=>
    refine SeqAt.notIn_tupleAt (mH X.K F d1) pl (key ds xs its l1 r hz) ⟨.bl _,H,I,rfl,?_⟩
    rw[show its.toArray.any (mH X.K F d1)=its.any (mH X.K F d1) by simp,bG9 I sb l1 r]
    exact cL q sb (by simp only[bC];rfl)
  ·exact q.elim
 |lst ds=>
  simp only[bC]at h2;obtain⟨p,xs,rfl,g1,l1⟩:=h2;cases ry
  simp only[fQ]at q
  split at q
  ·rename_i hz
   obtain⟨its,r,pl,_⟩:=I.list (bF.seq sb g1)
   cases neg with
   |false=>
    refine SeqAt.in_listAt (mH X.K F d1) pl.isList (key ds xs its l1 r hz) ⟨.bl _,H,I,rfl,?_⟩
    rw[show its.toArray.any (mH X.K F d1)=its.any (mH X.K F d1) by simp,bG9 I sb l1 r]
    exact cL q sb (by simp only[bC];rfl)
   |true=>
    refine SeqAt.notIn_listAt (mH X.K F d1) pl.isList (key ds xs its l1 r hz) ⟨.bl _,H,I,rfl,?_⟩
    rw[show its.toArray.any (mH X.K F d1)=its.any (mH X.K F d1) by simp,bG9 I sb l1 r]
    exact cL q sb (by simp only[bC];rfl)
  ·exact q.elim
 |_=>exact q.elim
def bS:D->D->bA D
 | .tup ds,.int i=>match fP ds i with
  |some d=>.ok d
  |none=>.bad
 | .lst ds,.int i=>match fP ds i with
  |some d=>.ok d
  |none=>.bad
 | .str z,.int i=>match fP z.cps.toList i with
  |some c=>.ok (.str ⟨#[c]⟩)
  |none=>.bad
 |_,_=>.bad
theorem cY7{xs:List α}{ys:List β}(h:xs.length=ys.length){i:Int}{x:α}(e:fP xs i=some x):∃j:Nat,xs[j]? =some x/\fP ys i=ys[j]? :=by
 unfold fP at e ⊢
 rw[<-h]
 cases q:vZ xs.length i with
 |none=>rw[q]at e;cases e
 |some j=>rw[q]at e;exact⟨j,e,rfl⟩
theorem fN1:xH X (rD X bS):=by
 intro value slice pc s Y H x y v u Q I rx ry h hs
 obtain⟨F,d1,d2,sb,h1,h2,q⟩:=h
 cases d1<;>cases d2<;>try exact q.elim
 ·rename_i z i
  simp only[bC]at h1 h2;obtain⟨rfl,hz⟩:=h1;subst h2
  simp only[bS]at q
  split at q
  ·rename_i c hc
   exact fH0 value slice pc s Y H _ _ v u Q I rx ry ⟨z,i,c,rfl,rfl,hz,hc,cL q sb (by simp only[bC];exact⟨trivial,by show 1<=sizeLine;decide⟩)⟩ hs
  ·exact q.elim
 ·rename_i ds i
  simp only[bC]at h1 h2;obtain⟨p,xs,rfl,g1,l1⟩:=h1;subst h2
  simp only[bS]at q
  split at q
  ·rename_i d hd
   obtain⟨j,e1,e2⟩:=cY7 l1.length hd
   obtain⟨x,hx,dx⟩:=pM l1.paired e1
   exact ix_tup value slice pc s Y H _ _ v u Q I rx ry ⟨p,xs,i,x,rfl,rfl,bF.seqT sb g1,e2.trans hx,cL q sb dx⟩ hs
  ·exact q.elim
 ·rename_i ds i
  simp only[bC]at h1 h2;obtain⟨p,xs,rfl,g1,l1⟩:=h1;subst h2
  simp only[bS]at q
  split at q
  ·rename_i d hd
   obtain⟨j,e1,e2⟩:=cY7 l1.length hd
   obtain⟨x,hx,dx⟩:=pM l1.paired e1
   exact fG9 value slice pc s Y H _ _ v u Q I rx ry ⟨p,xs,i,x,rfl,rfl,bF.seq sb g1,e2.trans hx,cL q sb dx⟩ hs
  ·exact q.elim
theorem fN2(ha:IE X a f)(hb:IE X b g)(hs:bN8 b:=by intro _ _;rfl):IE X (.Subscript a b pos) (m2 bS f g):=fJ0 fN1 bP1 ha hb hs
noncomputable def cD:List D->bA D
 | [.str z]=>.ok (.int z.length)
 | [.tup ds]=>.ok (.int ds.length)
 | [.lst ds]=>.ok (.int ds.length)
 |_=>.bad
theorem lB{d:D}(h:DatL K F [d] xs):∃x,xs= [x]/\bC K F d x:=by
 simp only[DatL]at h
 obtain⟨x,r,rfl,h1,rfl⟩:=h
 exact⟨x,rfl,h1⟩
theorem cC7:gM X (.builtin "len") (qE X cD):=by
 intro pc s Y H xs us Q I r h
 obtain⟨F,ds,sb,hl,q⟩:=h
 unfold cD at q
 split at q
 ·rename_i z
  obtain⟨x,rfl,hx⟩:=lB hl
  simp only[bC]at hx;obtain⟨rfl,hz⟩:=hx
  exact fH5 pc s Y H _ us Q I r ⟨z,rfl,hz,cL q sb (by simp only[bC])⟩
 ·rename_i es
  obtain⟨x,rfl,hx⟩:=lB hl
  simp only[bC]at hx;obtain⟨p,ys,rfl,g1,l1⟩:=hx
  refine cV3 pc s Y H _ us Q I r ⟨p,ys,rfl,.inr (bF.seqT sb g1),?_⟩
  rw[<-l1.length]
  exact cL q sb (by simp only[bC])
 ·rename_i es
  obtain⟨x,rfl,hx⟩:=lB hl
  simp only[bC]at hx;obtain⟨p,ys,rfl,g1,l1⟩:=hx
  refine cV3 pc s Y H _ us Q I r ⟨p,ys,rfl,.inl (bF.seq sb g1),?_⟩
  rw[<-l1.length]
  exact cL q sb (by simp only[bC])
 ·exact q.elim
noncomputable def xS:List D->bA D
 | [.tup ds]=>.ok (.lst ds)
 | [.lst ds]=>.ok (.lst ds)
 |_=>.bad
theorem cY8:gM X (.type "list") (qE X xS):=by
 intro pc s Y H xs us Q I r h
 obtain⟨F,ds,sb,hl,q⟩:=h
 unfold xS at q
 split at q
 ·obtain⟨x,rfl,hx⟩:=lB hl
  simp only[bC]at hx;obtain⟨p,ys,rfl,g1,l1⟩:=hx
  exact cV4 pc s Y H _ us Q I r ⟨p,ys,rfl,.inr (bF.seqT sb g1),fun l hl=>zT q sb l1 hl⟩
 ·obtain⟨x,rfl,hx⟩:=lB hl
  simp only[bC]at hx;obtain⟨p,ys,rfl,g1,l1⟩:=hx
  exact cV4 pc s Y H _ us Q I r ⟨p,ys,rfl,.inl (bF.seq sb g1),fun l hl=>zT q sb l1 hl⟩
 ·exact q.elim
noncomputable def jM:List D->bA D
 | [.tup ds]=>.ok (.tup ds)
 | [.lst ds]=>.ok (.tup ds)
 |_=>.bad
theorem cY9:gM X (.type "tuple") (qE X jM):=by
 intro pc s Y H xs us Q I r h
 obtain⟨F,ds,sb,hl,q⟩:=h
 unfold jM at q
 split at q
 ·obtain⟨x,rfl,hx⟩:=lB hl
  have hx':=hx
  simp only[bC]at hx;obtain⟨p,ys,rfl,g1,l1⟩:=hx
  exact cV5 pc s Y H _ us Q I r ⟨p,ys,rfl,.inr ⟨bF.seqT sb g1,cL q sb hx'⟩⟩
 ·obtain⟨x,rfl,hx⟩:=lB hl
  simp only[bC]at hx;obtain⟨p,ys,rfl,g1,l1⟩:=hx
  exact cV5 pc s Y H _ us Q I r ⟨p,ys,rfl,.inl ⟨bF.seq sb g1,fun l hl=>bG3 q sb l1 hl⟩⟩
 ·exact q.elim
noncomputable def mI:List D->bA D
 | [.int i]=>if i.natAbs<2^64 then .ok (.str (toString i))else .bad
 | [.str z]=>.ok (.str z)
 |_=>.bad
end
end
section
variable [dF] [Pd]
noncomputable def Its(z:Str):It:=⟨fun i _=>i<z.length,fun i H x H'=>H'=H/\ ∃c,z.cps[i]? =some c/\x= .str ⟨#[c]⟩,fun i _=>z.length<=i⟩
theorem fN3(z:Str)(t:Tok)(it:Addr):rS P w K tg (Its z) [it] it (fun i h=>h.IsStrIter it "str_ascii_iterator" z t i)where
 mem:=by simp
 obj:=fun i h st b hb=>by
  have e:b=it:=by simpa using hb
  subst e
  obtain⟨o,e,c,d⟩:=st
  exact⟨o,e,fun v z=>by rw[d]at z;cases z⟩
 keep:=fun i h h' st k=>let ⟨o,ho,r⟩:=st;⟨o,k it (by simp) o ho,r⟩
 item:=by
  intro X hP hw hK hc i pc s Y H E I hf st hg
  subst hP hw hK
  obtain⟨f0,f1,f2,f3,f4,f5⟩:=hf it (by simp)
  have hi:i<z.length:=hg
  have hx:z.cps[i]? =some z.cps[i]:=Array.getElem?_eq_getElem hi
  refine wpAny_pyNext_ascii_item st hx fun h' st' sb=>?_
  have I1:bE X pc Y H {s with heap:=h',toks:=s.toks+1}:=I.turned (fun b o hb e=>(sb.2 b hb).trans e) f0 f1 f3 f4 f5
  obtain⟨o,e,c,d⟩:=id st'
  exact⟨_,rfl,bF8 (s:={s with heap:=h',toks:=s.toks+1}) e c d (by decide) ⟨.str ⟨#[z.cps[i]]⟩,H,I1,⟨_,rfl⟩,⟨rfl,_,hx,rfl⟩,st',fun b hb=>(hf b hb).1⟩⟩
 done:=by
  intro X hP hw hK hc i pc s Y H E I hf st hg
  subst hP hw hK
  obtain⟨f0,f1,f2,f3,f4,f5⟩:=hf it (by simp)
  have hi:z.length<=i:=hg
  exact wpAny_pyNext_ascii_end (I.ok.hd hc) st (Array.getElem?_eq_none hi) fun h' eb=>⟨rfl,I.turned (t':=s.toks) (fun b o hb e=>eb b o hb e) f0 f1 f3 f4 f5⟩
 self:=fun _ _ _ _ _ st h=>wpAny_pyIter_striter_ascii st h
theorem fN4(z:Str)(t:Tok)(it:Addr):rS P w K tg (Its z) [it] it (fun i h=>h.IsStrIter it "str_iterator" z t i)where
 mem:=by simp
 obj:=fun i h st b hb=>by
  have e:b=it:=by simpa using hb
  subst e
  obtain⟨o,e,c,d⟩:=st
  exact⟨o,e,fun v z=>by rw[d]at z;cases z⟩
 keep:=fun i h h' st k=>let ⟨o,ho,r⟩:=st;⟨o,k it (by simp) o ho,r⟩
 item:=by
  intro X hP hw hK hc i pc s Y H E I hf st hg
  subst hP hw hK
  obtain⟨f0,f1,f2,f3,f4,f5⟩:=hf it (by simp)
  have hi:i<z.length:=hg
  have hx:z.cps[i]? =some z.cps[i]:=Array.getElem?_eq_getElem hi
  refine wpAny_pyNext_wide_item st hx fun h' st' sb=>?_
  have I1:bE X pc Y H {s with heap:=h',toks:=s.toks+1}:=I.turned (fun b o hb e=>(sb.2 b hb).trans e) f0 f1 f3 f4 f5
  obtain⟨o,e,c,d⟩:=id st'
  exact⟨_,rfl,bF8 (s:={s with heap:=h',toks:=s.toks+1}) e c d (by decide) ⟨.str ⟨#[z.cps[i]]⟩,H,I1,⟨_,rfl⟩,⟨rfl,_,hx,rfl⟩,st',fun b hb=>(hf b hb).1⟩⟩
 done:=by
  intro X hP hw hK hc i pc s Y H E I hf st hg
  subst hP hw hK
  obtain⟨f0,f1,f2,f3,f4,f5⟩:=hf it (by simp)
  have hi:z.length<=i:=hg
  exact wpAny_pyNext_wide_end (I.ok.hd hc) st (Array.getElem?_eq_none hi) fun h' eb=>⟨rfl,I.turned (t':=s.toks) (fun b o hb e=>eb b o hb e) f0 f1 f3 f4 f5⟩
 self:=fun _ _ _ _ _ st h=>wpAny_pyIter_striter_wide st h
def kN(K:W.Frag)(F:Hp)(J:It)(ds:List D):Prop:=∀n F2 H2,bF F F2->bF F2 H2->
 (∀d,ds[n]? =some d->J.go n H2/\ ∀x H',J.yld n H2 x H'->∃F',bQ F2 H2 F' H'/\bC K F' d x)/\(n=ds.length->J.stop n H2)
abbrev ML:=cU->bA (List D)
noncomputable def tI(X:Cx)(f:ML):TI:=fun Y H R=>∃O F,gC X.K F H O Y/\match f O with
 | .ok ds=>∀J F' H',bQ F H F' H'->kN X.K F' J ds->R J H'
 | .ex _=>False
 | .bad=>False
def II(X:Cx)(tg iter:Expr)(f:ML):Prop:=PI X tg iter (tI X f)
noncomputable def lQ(z:Str):List D:=z.cps.toList.map fun c=>.str ⟨#[c]⟩
def bA0:D->bA (List D)
 | .tup ds=>.ok ds
 | .lst ds=>.ok ds
 | .str z=>.ok (lQ z)
 |_=>.bad
section
theorem fN5{t t':TI}(h:PI X tg iter t)(i:∀Y H R,t' Y H R->t Y H R):PI X tg iter t':=fun pc s Y H R I hq=>h pc s Y H R I (i Y H R hq)
theorem fN6(h:gL K F a xs)(l:DatL K F ds xs):kN K F (Itt K a) ds:=fun n F2 H2 s1 s2=>by
 have hq:gL K H2 a xs:=bF.seqT s2 (bF.seqT s1 h)
 refine⟨fun d hd=>?_,fun hn=>⟨xs,hq,by rw[<-l.length,hn];exact le_refl _⟩⟩
 obtain⟨x,hx,dx⟩:=pM l.paired hd
 refine⟨⟨xs,x,hq,hx⟩,fun x' H' y=>?_⟩
 obtain⟨rfl,y⟩:=y
 have e:=y xs hq
 rw[hx]at e
 cases e
 exact⟨F2,.refl s2,dx.mono s1⟩
theorem fN7(h:dO K F a xs)(l:DatL K F ds xs):kN K F (Itl K a) ds:=fun n F2 H2 s1 s2=>by
 have hq:dO K H2 a xs:=bF.seq s2 (bF.seq s1 h)
 refine⟨fun d hd=>?_,fun hn=>⟨xs,hq,by rw[<-l.length,hn];exact le_refl _⟩⟩
 obtain⟨x,hx,dx⟩:=pM l.paired hd
 refine⟨⟨xs,x,hq,hx⟩,fun x' H' y=>?_⟩
 obtain⟨rfl,y⟩:=y
 have e:=y xs hq
 rw[hx]at e
 cases e
 exact⟨F2,.refl s2,dx.mono s1⟩
theorem cZ0:kN K F (Its z) (lQ z):=fun n F2 H2 s1 s2=>by
 have hl:(lQ z).length=z.length:=by unfold lQ;rw[length_map];rfl
 refine⟨fun d hd=>?_,fun hn=>by show z.length<=n;omega⟩
 have hn:n<z.length:=by rw[<-hl];exact(List.getElem?_eq_some_iff.mp hd).1
 refine⟨hn,fun x' H' y=>?_⟩
 obtain⟨rfl,c,hc,rfl⟩:=y
 unfold lQ at hd
 rw[getElem?_map,Array.getElem?_toList,hc]at hd
 cases hd
 exact⟨F2,.refl s2,by simp only[bC];exact⟨trivial,by show 1<=sizeLine;decide⟩⟩
theorem fN8{lo:Int}:kN K F (Itr lo k) (upTo lo k):=fun n F2 H2 s1 s2=>by
 have hl:(upTo lo k).length=k:=by unfold upTo;rw[length_map,List.length_range]
 refine⟨fun d hd=>?_,fun hn=>by show k<=n;omega⟩
 have hn:n<k:=by rw[<-hl];exact(List.getElem?_eq_some_iff.mp hd).1
 refine⟨hn,fun x' H' y=>?_⟩
 obtain⟨rfl,rfl⟩:=y
 unfold upTo at hd
 rw[getElem?_map,List.getElem?_range hn]at hd
 cases hd
 exact⟨F2,.refl s2,by simp only[bC]⟩
def dP(f:ME):ML:=fun O=>(f O).bind bA0
theorem bP3(he:IE X iter f):II X tg iter (dP f):=by
 intro pc s Y H R I ⟨O,F,E,q⟩
 have hp:=he pc s Y H (fun x H1=>∃F1 d ds,bQ F H F1 H1/\bC X.K F1 d x/\bA0 d= .ok ds/\ ∀J F' H',bQ F H F' H'->kN X.K F' J ds->R J H') I ⟨O,F,E,by
  unfold dP at q
  revert q
  cases f O with
  |ok d=>
   intro q v F1 H1 g1 d1
   revert q
   show(match bA0 d with
    | .ok ds=>∀J F' H',bQ F H F' H'->kN X.K F' J ds->R J H'
    | .ex _=>False
    | .bad=>False)->_
   cases hd:bA0 d with
   |ok ds=>exact fun q=>⟨F1,d,ds,g1,d1,hd,q⟩
   |ex _=>exact fun q=>q.elim
   |bad=>exact fun q=>q.elim
  |ex _=>exact fun q=>q
  |bad=>exact fun q=>q⟩
 refine bX hp fun v s1 ⟨x,H1,I1,r1,F1,d,ds,g1,d1,hd,q⟩=>?_
 cases d<;>try cases hd
 ·rename_i z
  simp only[bC]at d1
  obtain⟨rfl,hz⟩:=d1
  obtain⟨t,rfl⟩:=r1
  cases ha:z.cps.all (· <128)
  ·refine wpAny_pyIter_wide ha ?_
   refine⟨s1.heap.objs.size,[s1.heap.objs.size],_,_,H1,rfl,I1.kept (t':=s1.toks) fun b o e=>get?_push_of_some _ e,fN4 z t _,⟨_,get?_push_size _ rfl,rfl,rfl⟩,fun b hb=>?_,q _ F1 H1 g1 cZ0⟩
   have e:b=s1.heap.objs.size:=by simpa using hb
   subst e
   exact I1.fpOk (le_refl _) (I1.hok.fresh (le_refl _))
  ·refine wpAny_pyIter_ascii ha ?_
   refine⟨s1.heap.objs.size,[s1.heap.objs.size],_,_,H1,rfl,I1.kept (t':=s1.toks) fun b o e=>get?_push_of_some _ e,fN3 z t _,⟨_,get?_push_size _ rfl,rfl,rfl⟩,fun b hb=>?_,q _ F1 H1 g1 cZ0⟩
   have e:b=s1.heap.objs.size:=by simpa using hb
   subst e
   exact I1.fpOk (le_refl _) (I1.hok.fresh (le_refl _))
 ·simp only[bC]at d1
  obtain⟨a,xs,rfl,hq,hl⟩:=d1
  cases r1
  obtain⟨its,rv,p,hz⟩:=I1.tuple (bF.seqT g1.sub hq)
  refine wpAny_pyIter_tuple (show s1.heap.IsTuple a its.toArray from p) ?_
  refine⟨s1.heap.objs.size,[s1.heap.objs.size],_,_,H1,rfl,I1.kept (t':=s1.toks) fun b o e=>get?_push_of_some _ e,dY6 a _,⟨_,get?_push_size _ rfl,rfl,rfl⟩,fun b hb=>?_,q _ F1 H1 g1 (fN6 hq hl)⟩
  have e:b=s1.heap.objs.size:=by simpa using hb
  subst e
  exact I1.fpOk (le_refl _) (I1.hok.fresh (le_refl _))
 ·simp only[bC]at d1
  obtain⟨a,xs,rfl,hq,hl⟩:=d1
  cases r1
  obtain⟨its,rv,p,hz⟩:=I1.list (bF.seq g1.sub hq)
  refine wpAny_pyIter_list p.isList ?_
  refine⟨s1.heap.objs.size,[s1.heap.objs.size],_,_,H1,rfl,I1.kept (t':=s1.toks) fun b o e=>get?_push_of_some _ e,dY5 a _,⟨_,get?_push_size _ rfl,rfl,rfl⟩,fun b hb=>?_,q _ F1 H1 g1 (fN7 hq hl)⟩
  have e:b=s1.heap.objs.size:=by simpa using hb
  subst e
  exact I1.fpOk (le_refl _) (I1.hok.fresh (le_refl _))
def vB:D->bA (List D)
 | .int j=>if-(2^62)<=j/\j<2^62 then .ok (upTo 0 j.toNat)else .bad
 |_=>.bad
def jG(f:ME):ML:=fun O=>(f O).bind vB
theorem fN9{a:Expr}{cpos:Pos}(hgl:Gl X "range")(hm:X.mg "range" =none)(hi:IE X a f)(hst:starEach [a] X.env= [(false,eval a X.env)]:=by rfl):II X tg (.Call (.Name "range" p) [a] [] cpos) (jG f):=
 fN5 (dZ0 hgl hm (lM hi qA hst) hst) fun Y H R ⟨O,F,E,q⟩=>by
  refine⟨O,F,E,?_⟩
  unfold jG at q
  revert q
  cases f O with
  |ok d=>
   intro q v F1 H1 g1 d1
   cases d with
   |int j=>
    simp only[bC]at d1
    subst d1
    by_cases hj: -(2^62)<=j/\j<2^62
    ·have e:(bA.ok (D.int j)).bind vB= .ok (upTo 0 j.toNat):=by show vB (.int j)=_;simp only[vB];rw[if_pos hj]
     rw[e]at q
     exact⟨j,rfl,hj.1,hj.2,q _ F1 H1 g1 fN8⟩
    ·have e:(bA.ok (D.int j)).bind vB= .bad:=by show vB (.int j)=_;simp only[vB];rw[if_neg hj]
     rw[e]at q
     exact q.elim
   |_=>exact q.elim
  |ex _=>exact fun q=>q
  |bad=>exact fun q=>q
def gH(i:Nat)(fl:ML)(body:MS):MS:=fun O=>(fl O).bind fun ds=>gG i body ds O
theorem cZ1{fl:ML}(hc:X.calm=true)(hp:PassesOwn (model X.prog X.w) X.A X.env X.xe)(hi:II X tg iter fl)(hg:PG X tg (mC i))(hb:kM X body u)(hs:∀x,foldedSetIterable iter X.env x=pure x:=by intro _;rfl):
 IS X (.For tg iter body [] pos) (gH i fl u):=fun Fa Ha=>kE (cS2 hp hc hi hg (cW9 (Ha:=Ha) hb) hs) fun E Y H ⟨O,F,S,q⟩=>by
 refine⟨O,F,S.env,?_⟩
 unfold gH at q
 revert q
 cases fl O with
 |ok ds=>
  intro q J F1 H1 g1 it
  have S1:=S.grow g1
  refine⟨fun n m σ' H'=>m=ds.length-n/\n<=ds.length/\ ∃ρ' F',SR X.K F1 Ha F' H' ρ' σ'/\gD X F1 Ha (gG i u (ds.drop n) ρ') E,⟨_,rfl,zero_le _,O,F1,S1.here,gD.here S1.gr q⟩,?_⟩
  rintro n m σ' H' ⟨rfl,hn,ρ',F',S',q'⟩
  obtain⟨h1,h2⟩:=it n F' H' S'.gr.fs S'.env.sub
  by_cases hlt:n<ds.length
  ·have hd:ds[n]? =some ds[n]:=getElem?_eq_getElem hlt
   obtain⟨go,yl⟩:=h1 _ hd
   refine .inr ⟨go,fun Y H=>∃O F',SR X.K F1 Ha F' H O Y/\gD X F1 Ha (gG i u (ds.drop (n+1)) O) E,fun σ2 H2 h=>⟨ds.length-(n+1),by omega,rfl,hlt,h⟩,fun x H2 y=>?_⟩
   obtain⟨F2,g2,dx⟩:=yl x H2 y
   rw[List.drop_eq_getElem_cons hlt]at q'
   exact⟨F1,ρ'.set i (.val ds[n]),F2,(S'.grow g2).set i dx,fK8 q' fun ρ3 σ3 F3 H3 S3 q3=>⟨ρ3,F3,S3,q3⟩⟩
  ·have e:n=ds.length:=by omega
   subst e
   rw[List.drop_eq_nil_of_le (le_refl _)]at q'
   exact .inl ⟨h2 rfl,q' σ' F' H' S'⟩
 |ex _=>exact fun q=>q
 |bad=>exact fun q=>q
end
end
variable{fl:ML}
section
variable [dF] [Pd]
noncomputable def gI(names:List (Str×NameKind))(cells:List (Str×Addr))(acc:List (Str×Addr)):List (Str×Addr):=match names with
 | []=>acc
 | (n,k)::r=>gI r cells (if k= .free then(n,(cells.lookup n).getD 0)::acc else acc)
theorem cZ2{env:Env}:∀(names:List (Str×NameKind)) (acc:List (Str×Addr)),(∀y∈names,y.2= .free->∃c,env.cells.lookup y.1=some c)->
 (forIn names acc fun y cs=>if(y.2==NameKind.free)=true then(do let c <-cellOf env y.1;pure (yield ((y.1,c)::cs)))else pure (yield cs):Sem (List (Str×Addr)))=pure (gI names env.cells acc)
 | [],acc,_=>rfl
 | (n,k)::r,acc,h=>by
  have ih:=cZ2 (env:=env) r
  rw[List.forIn_cons]
  by_cases hk:k= .free
  ·subst hk
   obtain⟨c,hc⟩:=h (n,.free) mem_cons_self rfl
   have e1:((NameKind.free==NameKind.free)=true)=True:=by simp
   simp only[e1,if_true]
   have e2:cellOf env n=pure c:=by unfold cellOf;rw[hc]
   rw[e2]
   simp only[pure_bind]
   rw[ih _ fun y hy=>h y (mem_cons_of_mem _ hy)]
   rw[gI,if_pos rfl,hc];rfl
  ·have e1:(k==NameKind.free)=false:=by cases k<;>first|rfl|exact absurd rfl hk
   simp only[e1,false_eq_true,if_false]
   simp only[pure_bind]
   rw[ih _ fun y hy=>h y (mem_cons_of_mem _ hy)]
   rw[gI,if_neg hk]
theorem cZ3(h:∀y∈scope.names,y.2= .free->∃c,env.cells.lookup y.1=some c):closureFor scope env=pure (gI scope.names env.cells []):=by
 have:=cZ2 (env:=env) scope.names [] h
 unfold closureFor
 first
  |exact this
  | (simp only[bind_pure];exact this)
theorem bP4{c:Addr}:∀(names:List (Str×NameKind)) (acc:List (Str×Addr)),(gI names cells acc).lookup y=some c->acc.lookup y=some c\/((y,.free)∈names/\(cells.lookup y).getD 0=c)
 | [],acc,h=>.inl h
 | (n,k)::r,acc,h=>by
  rw[gI]at h
  rcases bP4 r _ h with q|⟨q1,q2⟩
  ·by_cases hk:k= .free
   ·rw[if_pos hk,lookup_cons]at q
    cases e:y==n with
    |true=>
     rw[e]at q
     have:y=n:=eq_of_beq e
     subst this;subst hk
     exact .inr ⟨mem_cons_self,Option.some.inj q⟩
    |false=>rw[e]at q;exact .inl q
   ·rw[if_neg hk]at q;exact .inl q
  ·exact .inr ⟨mem_cons_of_mem _ q1,q2⟩
theorem cC9:∀(names:List (Str×NameKind)) (acc:List (Str×Addr)),(y,.free)∈names\/(acc.lookup y).isSome=true->((gI names cells acc).lookup y).isSome=true
 | [],acc,h=>by
  rcases h with h|h
  ·cases h
  ·exact h
 | (n,k)::r,acc,h=>by
  rw[gI]
  refine cC9 r _ ?_
  rcases h with h|h
  ·rcases List.mem_cons.mp h with e|h
   ·cases e
    refine .inr ?_
    rw[if_pos rfl,lookup_cons]
    simp
   ·exact .inl h
  ·refine .inr ?_
   by_cases hk:k= .free
   ·rw[if_pos hk,lookup_cons]
    cases e:y==n with
    |true=>rfl
    |false=>exact h
   ·rw[if_neg hk];exact h
abbrev lC(X:Cx)(N':List Str)(scope:Scope)(C:Addr)(fp:List Addr)(s:Shared)(H:Hp)(E:Value->Shared->Prop):Cx:=
 {X with N:=N',s₀:=s,Ha:=H,env:=compEnvC scope (gI scope.names X.env.cells []) C X.env,outer:=X.stack,ex:=fp,fn:=fun _=>false,xe:=E}
structure nS(X:Cx)(scope:Scope)(os caps:List Str)(js:List Nat):Prop where
 kind:scope.kind= .function
 nocell:∀y∈scope.names,y.2≠ .cell
 names:∀y∈scope.names,y.2= .local->scope.names.lookup y.1=some .local
 loc:∀x∈os,scope.names.lookup x=some .local
 fr:∀y∈scope.names,y.2= .free->X.env.kindOf y.1=some .cell\/X.env.kindOf y.1=some .free
 nd:(os++caps).Nodup
 len:caps.length=js.length
 cap:∀(k:Nat) y j,caps[k]? =some y->js[k]? =some j->X.N[j]? =some y/\scope.names.lookup y=some .free
noncomputable def bH0:Slot->Slot
 | .val d=>.val d
 | .row p ws k=>.row p ws k
 |_=>.no
def fJ(js:List Nat)(O:cU):cU:=js.map fun j=>bH0 (O.getD j .no)
noncomputable def gZ(js:List Nat)(Y:St):St:=js.map fun j=>Y.getD j none
def dG(p:MT)(g:ME)(rest:cU):List D->bA (List D)
 | []=>.ok []
 |d::ds=>(p (.val d::rest)).bind fun b=>if b=true then(g (.val d::rest)).bind fun y=>(dG p g rest ds).bind fun ys=>.ok (y::ys)else dG p g rest ds
theorem cZ4{scope:Scope}{env:Env}{y:Str}:∀{names:List (Str×NameKind)},names.lookup y=some .free->
 (names.map fun(n,k)=>if(k==NameKind.free&&env.scope.kind== .function&&env.kindOf n==some .cell)then(n,NameKind.cell)else(n,k)).lookup y=some .cell\/
 (names.map fun(n,k)=>if(k==NameKind.free&&env.scope.kind== .function&&env.kindOf n==some .cell)then(n,NameKind.cell)else(n,k)).lookup y=some .free
 | [],h=>by cases h
 | (n,k)::r,h=>by
  rw[map_cons,lookup_cons]
  rw[lookup_cons]at h
  cases e:y==n with
  |true=>
   rw[e]at h
   cases h
   by_cases hc:(NameKind.free==NameKind.free&&env.scope.kind== .function&&env.kindOf n==some .cell)=true
   ·simp only[hc,if_true];rw[e];exact .inl rfl
   ·simp only[hc,false_eq_true,if_false];rw[e];exact .inr rfl
  |false=>
   rw[e]at h
   have ih:= @cZ4 scope env y r h
   by_cases hc:(k==NameKind.free&&env.scope.kind== .function&&env.kindOf n==some .cell)=true
   ·simp only[hc,if_true];rw[e];exact ih
   ·simp only[hc,false_eq_true,if_false];rw[e];exact ih
theorem cD0{env:Env}{y:Str}{K:NameKind}(hK:K= .cell\/K= .free):∀{names:List (Str×NameKind)},(∀z∈names,z.2≠ .cell)->
 (names.map fun(n,k)=>if(k==NameKind.free&&env.scope.kind== .function&&env.kindOf n==some .cell)then(n,NameKind.cell)else(n,k)).lookup y=some K->(y,.free)∈names
 | [],_,h=>by cases h
 | (n,k)::r,hn,h=>by
  rw[map_cons,lookup_cons]at h
  have ih:= @cD0 env y K hK r fun z hz=>hn z (mem_cons_of_mem _ hz)
  cases e:y==n with
  |true=>
   have e':y=n:=eq_of_beq e
   subst e'
   by_cases hc:(k==NameKind.free&&env.scope.kind== .function&&env.kindOf y==some .cell)=true
   ·rw[and_eq_true,and_eq_true]at hc
    have:k= .free:=eq_of_beq hc.1.1
    subst this
    exact mem_cons_self
   ·simp only[hc,false_eq_true,if_false]at h
    rw[e]at h
    have hk:k=K:=Option.some.inj h
    rcases hK with q|q
    ·exact absurd (hk.trans q) (hn (y,k) mem_cons_self)
    ·rw[hk.trans q];exact mem_cons_self
  |false=>
   by_cases hc:(k==NameKind.free&&env.scope.kind== .function&&env.kindOf n==some .cell)=true
   ·simp only[hc,if_true]at h;rw[e]at h;exact mem_cons_of_mem _ (ih h)
   ·simp only[hc,false_eq_true,if_false]at h;rw[e]at h;exact mem_cons_of_mem _ (ih h)
theorem cZ5{R:Result->Shared->Prop}{target:Expr}{it acc:Value}(I:Nat->Shared->Prop)
 (turn:∀n s,I n s->wpAny (model prog w) A (pyNext it) (fun r s₁=>match r with
   |none=>R (.ok .next) s₁
   |some v=>wpAny (model prog w) A (letOwnedTupleGo target it v) (fun _ s₁'=>wpAny (model prog w) A (assign target env v) (fun _ s₂=>
    wpAny (model prog w) A (forIn ifs true fun c r=>if r=true then do let ok <-isTrue c env (eval c env);pure (yield ok)else pure (yield r)) (fun ok s₃=>
     if ok=true then wpAny (model prog w) A (eval elt env) (fun x s₄=>
      wpAny (model prog w) A (call (.builtin "list.append") [acc,x]) (fun _ s₅=>∃m,m<n/\I m s₅) (notedBy (model prog w) A env fun e s'=>R (.error e) s') s₄) (notedBy (model prog w) A env fun e s'=>R (.error e) s') s₃
     else ∃m,m<n/\I m s₃) (notedBy (model prog w) A env fun e s'=>R (.error e) s') s₂) (notedBy (model prog w) A env fun e s'=>R (.error e) s') s₁')
      (notedBy (model prog w) A env fun e s'=>R (.error e) s') s₁) (notedBy (model prog w) A env fun e s'=>R (.error e) s') s)
 (n:Nat) (h:I n s):codeAny (model prog w) A (.compLoop (.ListComp elt [⟨target,iter,ifs,0⟩] scope pos) 0 it acc env) R s:=by
 apply codeAny_loop rfl I ?_ n h
 intro n s hI
 show wpAny _ A ((compTurn (.ListComp elt [⟨target,iter,ifs,0⟩] scope pos) 0 it acc env).onRaise fun x=>do noteFrame x env;theTreesLotGoes x) _ _ s
 apply wpAny_noted
 rw[compTurn_list]
 apply wpAny_bind;apply wpAny_standAt;apply wpAny_bind
 apply wpAny_mono (turn n s hI) ?_ (fun _ _ h'=>h')
 intro r s₁ h₁
 cases r with
 |none=>exact wpAny_pure h₁
 |some v=>
  apply wpAny_bind
  apply wpAny_mono h₁ ?_ (fun _ _ h'=>h')
  intro _ s₁' h₁'
  apply wpAny_bind
  apply wpAny_mono h₁' ?_ (fun _ _ h'=>h')
  intro _ s₂ h₂
  apply wpAny_bind
  apply wpAny_mono h₂ ?_ (fun _ _ h'=>h')
  intro ok s₃ h₃
  cases ok with
  |false=>exact wpAny_pure ⟨rfl,h₃⟩
  |true=>
   apply wpAny_bind;apply wpAny_bind
   apply wpAny_mono h₃ ?_ (fun _ _ h'=>h')
   intro x s₄ h₄
   apply wpAny_bind
   apply wpAny_mono h₄ ?_ (fun _ _ h'=>h')
   intro _ s₅ h₅
   exact wpAny_pure (wpAny_pure ⟨rfl,h₅⟩)
section
variable{p:MT}{g:ME}
def sI(X:Cx)(ifs:List Expr)(p:MT):Prop:=(ifs= []/\p=fun _=>.ok true)\/ ∃c,ifs= [c]/\IT X c p
theorem cZ6{p:MT}(h:sI X ifs p){Q:Bool->Hp->Prop}(I:bE X pc Y H s)(q:sB X p Y H Q):
 wpAny (model X.prog X.w) X.A (forIn ifs true fun c r=>if r=true then do let ok <-isTrue c X.env (eval c X.env);pure (yield ok)else pure (yield r)) (TP X pc Y Q) X.xe s:=by
 rcases h with⟨rfl,rfl⟩|⟨c,rfl,hc⟩
 ·exact wpAny_tests_nil ⟨H,I,bO8 q⟩
 ·exact wpAny_tests_one (hc pc s Y H Q I q)
theorem cZ7{h₁:Heap}{m:Str->Option Value}{tk:Nat}(S:nS X scope os caps js)(I:bE X pc Y H s)
 (hfp:∀b∈fp,jP X pc H b) (hlt:∀b∈fp,b<s.heap.objs.size) (hn:h₁.Ns s.heap.objs.size m) (hk:∀b o,s.heap.get? b=some o->h₁.get? b=some o):
 bE (lC X (os++caps) scope s.heap.objs.size fp s H E) pc (os.map (fun _=>none)++gZ js Y) H {s with heap:=h₁,toks:=tk}:=by
 have cl_src:∀y c,(gI scope.names X.env.cells []).lookup y=some c->X.env.cells.lookup y=some c/\(y,NameKind.free)∈scope.names:=fun y c e=>by
  rcases bP4 scope.names [] e with q|⟨q1,q2⟩
  ·cases q
  ·obtain⟨c',hc'⟩:=I.ok.has y (S.fr (y,.free) q1 rfl)
   rw[hc']at q2
   have:c'=c:=q2
   subst this
   exact⟨hc',q1⟩
 have stk_no:∀b,b≠X.env.locals->b∉X.fs->b∉lI X.stack:=fun b h1 h2 hb=>by
  rcases List.mem_cons.mp (I.stkSub b hb)with z|z
  ·exact h1 z
  ·exact h2 z
 have C_new:∀b o,s.heap.get? b=some o->b≠s.heap.objs.size:=fun b o e=>ne_of_lt (lt_size e)
 refine⟨⟨I.ok.mod,S.kind,I.ok.glob,I.ok.blt,le_refl _,fun y z c h1 h2=>?_,fun y hy=>?_,fun y c hf _=>(by cases hf),I.ok.hd,I.ok.frames,.inl rfl,fun b hb=>?_,I.bs,le_trans I.ok.bsz I.sz,fun b o e hb=>?_,fun b hb=>?_,I.stack,I.stkFree⟩,
  rfl,I.bare,Un.kept hk,⟨m,hn,fun i y v h1 h2 h3=>?_⟩,fun y c e=>?_,I.hok.fresh (le_refl _),fun y c e=>I.freeC y c (cl_src y c e).1,fun q hq=>?_,I.hok.kept hk,?_⟩
 ·exact I.ok.inj y z c (cl_src y c h1).1 (cl_src z c h2).1
 ·have hy':(relabel scope X.env).names.lookup y=some .cell\/(relabel scope X.env).names.lookup y=some .free:=hy
  have hmem:(y,NameKind.free)∈scope.names:=by
   rcases hy' with q|q
   ·exact cD0 (.inl rfl) S.nocell q
   ·exact cD0 (.inr rfl) S.nocell q
  exact Option.isSome_iff_exists.mp (cC9 scope.names [] (.inl hmem))
 ·refine⟨ne_of_lt (hlt b hb),fun y c e=>?_⟩
  exact(hfp b hb).2.2.2.2.1 y c (cl_src y c e).1
 ·have z:=(hfp b hb).2.2.2.1
  rcases z with z|z
  ·exact I.ok.noex b o e z
  ·exact absurd (lt_of_lt_of_le (lt_size (I.ok.bs b o e).1) z) (lt_irrefl _)
 ·exact stk_no b (hfp b hb).2.1 (hfp b hb).2.2.1
 ·have h1:(os++caps)[i]? =some y:=h1
  by_cases hi:i<os.length
  ·rw[getElem?_append_left (by rw[length_map];exact hi),getElem?_map,getElem?_eq_getElem hi]at h2;cases h2
  ·obtain⟨k,rfl⟩:=Nat.exists_eq_add_of_le (Nat.le_of_not_lt hi)
   have h1':caps[k]? =some y:=by rw[getElem?_append_right (le_add_right _ _)]at h1;simpa using h1
   have h2':(gZ js Y)[k]? =some (some v):=by rw[getElem?_append_right (by rw[length_map];exact le_add_right _ _)]at h2;simpa using h2
   unfold gZ at h2'
   rw[getElem?_map]at h2'
   cases hj:js[k]? with
   |none=>rw[hj]at h2';cases h2'
   |some j=>
    rw[hj]at h2'
    have h3':Y.getD j none=some v:=Option.some.inj h2'
    obtain⟨c1,c2⟩:=S.cap k y j h1' hj
    have hσ:Y[j]? =some (some v):=by
     rw[getD_eq_getElem?_getD]at h3'
     cases e:Y[j]? with
     |none=>rw[e]at h3';cases h3'
     |some o=>rw[e]at h3';exact congrArg some h3'
    have hm:(y,NameKind.free)∈scope.names:=PySem.mem_of_lookup c2
    have hkd:=S.fr (y,.free) hm rfl
    obtain⟨m0,hn0,hl0⟩:=I.loc
    obtain⟨u,ru,lk⟩:=hl0 j y v c1 hσ (by
     rcases hkd with z|z
     ·exact .inr (.inl z)
     ·exact .inr (.inr z))
    refine⟨u,ru,?_⟩
    rcases lk with⟨kd,_⟩|⟨_,c,hc,hcell⟩
    ·rcases hkd with z|z
     ·exact absurd (kd.symm.trans z) (by decide)
     ·exact absurd (kd.symm.trans z) (by decide)
    ·obtain⟨c',hc'⟩:=Option.isSome_iff_exists.mp (cC9 (cells:=X.env.cells) scope.names [] (.inl hm))
     have:c'=c:=by
      have:=(cl_src y c' hc').1
      rw[hc]at this
      exact(Option.some.inj this).symm
     subst this
     refine .inr ⟨cZ4 (scope:=scope) c2,c',hc',?_⟩
     obtain⟨o,ho,hd⟩:=hcell
     exact⟨o,hk _ o ho,hd⟩
 ·obtain⟨v,o,ho,hd⟩:=I.cell y c (cl_src y c e).1
  exact⟨v,o,hk _ o ho,hd⟩
 ·obtain⟨e,n,ne,nf,d⟩:=I.pin q hq
  exact⟨hk _ _ e,n,C_new _ _ e,stk_no q.1 ne nf,d⟩
 ·show(os.map (fun _=>none)++gZ js Y).length=(os++caps).length
  unfold gZ
  rw[length_append,length_append,length_map,length_map,S.len]
end
section
variable{p P:MT}{g G:ME}{sp:D->Option (List D)}{gg:TG}
theorem cZ8{σ':St}{s':Shared}{N':List Str}(I:bE X pc Y H s)(J:bE (lC X N' scope C fp s H E) pc σ' H' s')
 (hC:s.heap.objs.size<=C) (hs:Heap.SameBut C s'.heap h') (hfp:∀b∈fp,jP X pc H b):bE X pc Y H' {s' with heap:=h'}:=by
 have ne:∀b o,s.heap.get? b=some o->b≠C:=fun b o e=>ne_of_lt (lt_of_lt_of_le (lt_size e) hC)
 have hfree:H' C=none:=J.free
 refine I.call' (s':={s' with heap:=h'}) (ch:=fp) J.os ⟨fun b o q n hb hx=>?_,fun b o q n hb hx=>?_,J.base.free,fun b o q hx=>?_,J.base.tups,J.base.frzs,J.base.tbls⟩ (fun a o e=>?_) J.bare fun b hb=>?_
 ·exact(hs.2 b (ne b o q)).trans (J.base.keep b o q n hb hx)
 ·obtain⟨sl,e⟩:=J.base.slot b o q n hb hx
  exact⟨sl,(hs.2 b (ne b o q)).trans e⟩
 ·obtain⟨o',e⟩:=J.base.there b o q hx
  exact⟨o',(hs.2 b (ne b o q)).trans e⟩
 ·refine(J.hok a o e).stay (fun b u hb q=>(hs.2 b fun z=>?_).trans q) (fun _ q=>q) fun _ _ q=>q
  subst z
  rcases hb with z|z
  ·subst z;rw[e]at hfree;cases hfree
  ·rw[z]at hfree;cases hfree
 ·obtain⟨_,f1,_,f3,f4,f5⟩:=hfp b hb
  exact⟨f3,f1,f4,f5⟩
theorem cZ9{es:List D}(l:DatL K F' es vs)(E:gC K F H O Y)(gr:bQ F H F' H'):gC K F' H' (es.map .val++fJ js O) (vs.map some++gZ js Y):=by
 have hl:=l.length
 have noown:∀(i:Nat) ds,(es.map Slot.val++fJ js O)[i]? ≠some (.own ds):=fun i ds e=>by
  rcases List.mem_append.mp (mem_of_getElem? e)with h|h
  ·obtain⟨_,_,h⟩:=List.mem_map.mp h;cases h
  ·unfold fJ at h
   obtain⟨j,_,h⟩:=List.mem_map.mp h
   cases q:O.getD j .no<;>rw[q]at h<;>cases h
 refine⟨gr.tk E.tb,gr.sub,?_,fun i sl e=>?_,fun i j ds es a _ e=>absurd e (noown i ds)⟩
 ·unfold fJ gZ;simp only[length_append,length_map,hl]
 ·by_cases hi:i<es.length
  ·rw[getElem?_append_left (by rw[length_map];exact hi),getElem?_map,getElem?_eq_getElem hi]at e
   cases e
   obtain⟨v,hv,dv⟩:=pM l.paired (getElem?_eq_getElem hi)
   exact⟨some v,by rw[getElem?_append_left (by rw[length_map];omega),getElem?_map,hv];rfl,v,rfl,dv⟩
  ·obtain⟨k,rfl⟩:=Nat.exists_eq_add_of_le (Nat.le_of_not_lt hi)
   have e':(fJ js O)[k]? =some sl:=by rw[getElem?_append_right (by rw[length_map];exact le_add_right _ _)]at e;simpa using e
   unfold fJ at e'
   rw[getElem?_map]at e'
   cases hj:js[k]? with
   |none=>rw[hj]at e';cases e'
   |some j=>
    rw[hj]at e'
    have e2:bH0 (O.getD j .no)=sl:=Option.some.inj e'
    refine⟨Y.getD j none,?_,?_⟩
    ·rw[getElem?_append_right (by rw[length_map];omega),length_map,show es.length+k-vs.length=k by omega]
     unfold gZ
     rw[getElem?_map,hj];rfl
    ·subst e2
     cases q:O[j]? with
     |none=>rw[getD_eq_getElem?_getD,q];trivial
     |some s0=>
      rw[getD_eq_getElem?_getD,q]
      cases s0 with
      |val d=>
       obtain⟨o',e1,v,rfl,hd⟩:=E.at_ j _ q
       refine⟨v,?_,hd.mono gr.fs⟩
       rw[getD_eq_getElem?_getD,e1];rfl
      |row p ws k=>
       obtain⟨o',e1,a,dx,l,rfl,hp,hr⟩:=E.at_ j _ q
       refine⟨a,dx,l,?_,hp,gr.same _ _ rfl hr.o,gr.new _ hr.n (by rw[hr.o];simp),hr.w.mono gr.fs⟩
       rw[getD_eq_getElem?_getD,e1];rfl
      |_=>trivial
structure Tgt(X:Cx)(scope:Scope)(tg:Expr)(os caps:List Str)(sp:D->Option (List D))(gg:TG)(P:MT)(G:ME)(p:MT)(g:ME):Prop where
 pg:∀C fp s H E,PG (lC X (os++caps) scope C fp s H E) tg gg
 ok:∀{d es v F H as σr},sp d=some es->bC X.K F d v->bF F H->as.length=os.length->∃vs,vs.length=os.length/\DatL X.K F es vs/\gg v (as++σr) H fun σ7 H7=>σ7=vs.map some++σr/\H7=H
 hp:∀{d r b},P (.val d::r)= .ok b->∃es,sp d=some es
 eq:∀{d es} r,sp d=some es->P (.val d::r)=p (es.map .val++r)/\G (.val d::r)=g (es.map .val++r)
theorem dA0{H2 F2:Hp}{ys:List D}{J:It}{it:Addr}{Ex:Value->Shared->Prop}
 (S:nS X scope os caps js) (hc:X.calm=true) (I2:bE X pc Y H2 s2) (T:rS X.prog X.w X.K tg J fp it tn) (Tg:Tgt X scope tg os caps sp gg P G p g) (t0:tn 0 s2.heap) (f2:∀b∈fp,jP X pc H2 b) (Ev:gC X.K F2 H2 O Y) (io:kN X.K F2 J ds)
 (hp:∀C fp s H E,sI (lC X (os++caps) scope C fp s H E) ifs p) (hg:∀C fp s H E,IE (lC X (os++caps) scope C fp s H E) elt g) (hys:dG P G (fJ js O) ds= .ok ys) (hlen:ds.length<=sizeLine)
 (hend:∀Dd C s' H' F' vs m',H2 Dd=none->bQ F2 H2 F' H'->F' Dd=none->H' Dd=some (.lst vs)->DatL X.K F' ys vs->s'.heap.Ns C m'->(∀h',Heap.SameBut C s'.heap h'->bE X pc Y H' {s' with heap:=h'})->jP X pc H' C->RR (.ref Dd) C (.ok .next) s'):
 wpAny (model X.prog X.w) X.A (newList []) (fun acc s₃=>wpAny (model X.prog X.w) X.A (newFunctionEnv scope X.env.globals (gI scope.names X.env.cells []) [] X.env.qual none .none (some X.env)) (fun cenv s₄=>
  codeAny (model X.prog X.w) X.A (.compStart (.ListComp elt [⟨tg,iter,ifs,0⟩] scope pos) 0 (.ref it) acc {cenv with scope:=relabel scope X.env}) (RR acc cenv.locals) s₄) Ex s₃) Ex s2:=by
 refine wpAny_newObj_type (wpAny_newFunctionEnv S.nocell (by intro y hy;simp at hy) (fun h₁ hns₁ hsb₁=>?_) S.kind)
 dsimp only at hns₁ hsb₁ ⊢
 have I3:bE X pc Y (upd H2 s2.heap.objs.size (.lst [])) {s2 with heap:=s2.heap.push {cls:=.type "list",data:=.seq ([]:List Value).toArray},toks:=s2.toks}:=I2.lnew (its:=[]) (t':=s2.toks) .nil (zero_le _)
 generalize hs3:({s2 with heap:=s2.heap.push {cls:=.type "list",data:=.seq ([]:List Value).toArray},toks:=s2.toks}:Shared)=s3 at I3
 have e3:s2.heap.push {cls:=.type "list",dict:=none,data:=.seq ([]:List Value).toArray}=s3.heap:=by rw[<-hs3]
 have hsz3:s3.heap.objs.size=s2.heap.objs.size+1:=by rw[<-e3,size_push]
 rw[e3]at hns₁ hsb₁ ⊢
 have hfresh:H2 s2.heap.objs.size=none:=I2.hok.fresh (le_refl _)
 have hltf:∀b∈fp,b<s2.heap.objs.size:=fun b hb=>by
  obtain⟨o,e,_⟩:=T.obj 0 _ t0 b hb
  exact lt_size e
 have f3:∀b∈fp,jP X pc (upd H2 s2.heap.objs.size (.lst [])) b:=fun b hb=>⟨by rw[cK (ne_of_lt (hltf b hb))];exact(f2 b hb).1,(f2 b hb).2⟩
 have hkeep1:∀b o,s3.heap.get? b=some o->h₁.get? b=some o:=fun b o e=>(hsb₁.2 b (ne_of_lt (lt_size e))).trans (get?_push_of_some _ e)
 have J0:=cZ7 (E:=notedBy (model X.prog X.w) X.A (compEnvC scope (gI scope.names X.env.cells []) s3.heap.objs.size X.env) fun e s'=>RR (.ref s2.heap.objs.size) s3.heap.objs.size (.error e) s')
  (tk:=s3.toks+([]:List (Str×Value)).length) S I3 f3 (fun b hb=>by rw[hsz3];exact Nat.lt_succ_of_lt (hltf b hb)) hns₁ hkeep1
 have t1:tn 0 h₁:=T.keep 0 _ _ t0 fun b hb o e=>hkeep1 b o (by rw[<-e3];exact get?_push_of_some _ e)
 generalize hX':lC X (os++caps) scope s3.heap.objs.size fp s3 (upd H2 s2.heap.objs.size (.lst [])) (notedBy (model X.prog X.w) X.A (compEnvC scope (gI scope.names X.env.cells []) s3.heap.objs.size X.env) fun e s'=>RR (.ref s2.heap.objs.size) s3.heap.objs.size (.error e) s')=X' at J0
 have hfp:∀{H':Hp},(∀b∈fp,H' b=none)->∀b∈fp,jP X' pc H' b:=fun{H'} hn b hb=>by
  rw[<-hX']
  refine⟨hn b hb,?_,?_,.inl hb,fun y c e=>?_,fun q hq=>(f2 b hb).2.2.2.2.2 q hq⟩
  ·show b≠s3.heap.objs.size
   rw[hsz3];exact ne_of_lt (Nat.lt_succ_of_lt (hltf b hb))
  ·show b∉lI X.stack
   intro z
   rcases List.mem_cons.mp (I2.stkSub b z)with z|z
   ·exact(f2 b hb).2.1 z
   ·exact(f2 b hb).2.2.1 z
  ·rcases bP4 scope.names [] e with q|⟨q1,q2⟩
   ·cases q
   ·obtain⟨c',hc'⟩:=I2.ok.has y (S.fr (y,.free) q1 rfl)
    rw[hc']at q2
    have:c'=c:=q2
    subst this
    exact(f2 b hb).2.2.2.2.1 y c' hc'
 have loop:∀s4:Shared,s4={s3 with heap:=h₁,toks:=s3.toks+([]:List (Str×Value)).length}->
  codeAny (model X.prog X.w) X.A (.compLoop (.ListComp elt [⟨tg,iter,ifs,0⟩] scope pos) 0 (.ref it) (.ref s2.heap.objs.size) (compEnvC scope (gI scope.names X.env.cells []) s3.heap.objs.size X.env)) (RR (.ref s2.heap.objs.size) s3.heap.objs.size) s4:=by
  rintro s4 rfl
  refine cZ5 (fun n s'=>∃i σ' H' F' zs vs,n=ds.length-i/\i<=ds.length/\bE X' pc σ' H' s'/\tn i s'.heap/\(∀b∈fp,H' b=none)/\(∃as:St,as.length=os.length/\σ'=as++gZ js Y)/\bQ F2 H2 F' H'/\F' s2.heap.objs.size=none/\
   H' s2.heap.objs.size=some (.lst vs)/\DatL X.K F' zs vs/\zs.length<=i/\((dG P G (fJ js O) (ds.drop i)).bind fun r=>.ok (zs++r))= .ok ys) ?_ ds.length ?_
  ·rintro n s' ⟨i,σ',H',F',zs,vs,rfl,hi,I',st,fr,⟨as,la,rfl⟩,gr,fD,hD,dl,zl,hm⟩
   obtain⟨io1,io2⟩:=io i F' H' gr.fs gr.sub
   by_cases hlt:i<ds.length
   ·have hd:ds[i]? =some ds[i]:=getElem?_eq_getElem hlt
    obtain⟨go,yl⟩:=io1 _ hd
    have hit:=T.item X' (by rw[<-hX']) (by rw[<-hX']) (by rw[<-hX']) (by rw[<-hX'];exact hc) i pc s' (as++gZ js Y) H' X'.xe I' (hfp fr) st go
    have hA:X'.A=X.A:=by rw[<-hX']
    have hXe:X'.xe=notedBy (model X.prog X.w) X.A (compEnvC scope (gI scope.names X.env.cells []) s3.heap.objs.size X.env) fun e s'=>RR (.ref s2.heap.objs.size) s3.heap.objs.size (.error e) s':=by rw[<-hX']
    have hEnv:X'.env=compEnvC scope (gI scope.names X.env.cells []) s3.heap.objs.size X.env:=by rw[<-hX']
    have hP:X'.prog=X.prog:=by rw[<-hX']
    have hW:X'.w=X.w:=by rw[<-hX']
    have hK:X'.K=X.K:=by rw[<-hX']
    rw[hA,hXe]at hit
    refine wpAny_mono hit (fun r s5 ⟨u,hr,h5⟩=>?_) fun _ _ z=>z
    subst hr
    refine wpAny_mono h5 (fun _ s6 ⟨v,H6,I6,r6,y6,st6,fr6⟩=>?_) fun _ _ z=>z
    obtain⟨F6,g6,d6⟩:=yl v H6 y6
    have I6':=I6.pinned (hfp fr6) (T.obj _ _ st6)
    have gr6:=gr.trans g6
    have hD6:H6 s2.heap.objs.size=some (.lst vs):=g6.same _ _ rfl hD
    have fD6:F6 s2.heap.objs.size=none:=g6.new _ fD (by rw[hD];simp)
    rw[List.drop_eq_getElem_cons hlt,dG]at hm
    cases hb:P (.val ds[i]::fJ js O)with
    |ex _=>rw[hb]at hm;cases hm
    |bad=>rw[hb]at hm;cases hm
    |ok b=>
    rw[hb]at hm
    obtain⟨es,he⟩:=Tg.hp hb
    obtain⟨eP,eG⟩:=Tg.eq (fJ js O) he
    rw[eP]at hb
    rw[eG]at hm
    obtain⟨vz,lz,dz,gz⟩:=Tg.ok (σr:=gZ js Y) he d6 g6.sub la
    have pg:PG X' tg gg:=by rw[<-hX'];exact Tg.pg _ _ _ _ _
    have has:=pg _ s6 _ H6 v u _ I6' r6 gz
    rw[hA,hXe,hEnv,hP,hW]at has
    refine wpAny_mono has (fun _ s7 ⟨σ7,H7,I7,e7,e7'⟩=>?_) fun _ _ z=>z
    subst e7 e7'
    have E7:gC X'.K F6 H7 (es.map .val++fJ js O) (vz.map some++gZ js Y):=by rw[hK];exact cZ9 dz Ev gr6
    have hpp:=hp s3.heap.objs.size fp s3 (upd H2 s2.heap.objs.size (.lst [])) (notedBy (model X.prog X.w) X.A (compEnvC scope (gI scope.names X.env.cells []) s3.heap.objs.size X.env) fun e s'=>RR (.ref s2.heap.objs.size) s3.heap.objs.size (.error e) s')
    have hgg:=hg s3.heap.objs.size fp s3 (upd H2 s2.heap.objs.size (.lst [])) (notedBy (model X.prog X.w) X.A (compEnvC scope (gI scope.names X.env.cells []) s3.heap.objs.size X.env) fun e s'=>RR (.ref s2.heap.objs.size) s3.heap.objs.size (.error e) s')
    rw[hX']at hpp hgg
    ·have hte:=cZ6 (Q:=fun b' H8=>b'=b/\ ∃F8,bQ F6 H7 F8 H8) hpp I7 ⟨_,F6,E7,by rw[hb];exact fun b' F8 H8 g8 e8=>⟨(show b=b' from e8).symm,F8,g8⟩⟩
     rw[hA,hXe,hEnv,hP,hW]at hte
     refine wpAny_mono hte (fun b' s8 ⟨H8,I8,e8,F8,g8⟩=>?_) fun _ _ z=>z
     subst e8
     have gr8:=gr6.trans g8
     have hD8:H8 s2.heap.objs.size=some (.lst vs):=g8.same _ _ rfl hD6
     have fD8:F8 s2.heap.objs.size=none:=g8.new _ fD6 (by rw[hD6];simp)
     have stay:∀{σ9:St} {H9:Hp} {s9:Shared},bE X' (pc++zO fp s6.heap) σ9 H9 s9->tn (i+1) s9.heap/\ ∀b∈fp,H9 b=none:=fun{σ9 H9 s9} I9=>
      ⟨T.keep _ _ _ st6 fun b hb o e=>(I9.pin (b,o) (mem_append_right _ (mem_append_right _ (zP hb e)))).1,fun b hb=>by
       obtain⟨o,e,d⟩:=T.obj _ _ st6 b hb
       exact(I9.pin (b,o) (mem_append_right _ (mem_append_right _ (zP hb e)))).2.1⟩
     cases b' with
     |false=>
      refine tW ⟨ds.length-(i+1),by omega,i+1,vz.map some++gZ js Y,H8,F8,zs,vs,rfl,hlt,I8.unpinned,(stay I8).1,(stay I8).2,⟨_,by rw[length_map];exact lz,rfl⟩,gr8,fD8,hD8,(dl.mono g6.fs).mono g8.fs,by omega,?_⟩
      exact hm
     |true=>
      refine rZ ?_
      have hm':(((g (es.map .val++fJ js O)).bind fun y=>(dG P G (fJ js O) (ds.drop (i+1))).bind fun ys=>.ok (y::ys)).bind fun r=>.ok (zs++r))= .ok ys:=hm
      cases hgv:g (es.map .val++fJ js O)with
      |ok y=>
       rw[hgv]at hm'
       have hel:=hgg _ s8 _ H8 (fun v9 H9=>∃F9,bQ F8 H8 F9 H9/\bC X.K F9 y v9) I8 ⟨_,F8,E7.grow g8,by rw[hgv];exact fun v9 F9 H9 g9 d9=>⟨F9,g9,by rw[<-hK];exact d9⟩⟩
       rw[hA,hXe,hEnv,hP,hW]at hel
       refine wpAny_mono hel (fun u9 s9 ⟨v9,H9,I9,r9,F9,g9,d9⟩=>?_) fun _ _ z=>z
       have gr9:=gr8.trans g9
       have hD9:H9 s2.heap.objs.size=some (.lst vs):=g9.same _ _ rfl hD8
       have fD9:F9 s2.heap.objs.size=none:=g9.new _ fD8 (by rw[hD8];simp)
       have hvl:vs.length=zs.length:=dl.length.symm
       have hap:=bO0 (X:=X') _ s9 _ H9 (.ref s2.heap.objs.size) [v9] (.ref s2.heap.objs.size) [u9] (fun w H10=>H10=upd H9 s2.heap.objs.size (.lst (vs++ [v9]))) I9 rfl (.cons r9 .nil)
        ⟨_,vs,v9,rfl,rfl,hD9,by omega,rfl⟩
       rw[hA,hXe,hP,hW]at hap
       refine wpAny_mono hap (fun _ s10 ⟨w,H10,I10,_,e10⟩=>?_) fun _ _ z=>z
       subst e10
       refine⟨ds.length-(i+1),by omega,i+1,vz.map some++gZ js Y,_,F9,zs++ [y],vs++ [v9],rfl,hlt,I10.unpinned,(stay I10).1,(stay I10).2,⟨_,by rw[length_map];exact lz,rfl⟩,?_,fD9,dY,?_,?_,?_⟩
       ·exact⟨fun b o nt q=>by rw[cK (pL q hfresh)];exact gr9.same b o nt q,cB8 gr9.more _ _,fun ti=>⟨(gr9.tk ti).1.updL hD9 _,(gr9.tk ti).2⟩,gr9.fs,xJ gr9.sub fD9 _,gr9.new⟩
       ·exact DatL.of (sA (((dl.mono g6.fs).mono g8.fs).mono g9.fs).paired (.cons d9 .nil))
       ·rw[length_append];show zs.length+1<=i+1;omega
       ·revert hm'
        show(((dG P G (fJ js O) (ds.drop (i+1))).bind fun ys=>.ok (y::ys)).bind fun r=>.ok (zs++r))= .ok ys->_
        cases dG P G (fJ js O) (ds.drop (i+1))with
        |ok r=>
         intro z
         have z':(bA.ok (zs++(y::r)):bA (List D))= .ok ys:=z
         show(bA.ok ((zs++ [y])++r):bA (List D))= .ok ys
         rw[<-z'];simp
        |ex _=>intro z;cases z
        |bad=>intro z;cases z
      |ex _=>rw[hgv]at hm';cases hm'
      |bad=>rw[hgv]at hm';cases hm'
   ·have e:i=ds.length:=by omega
    subst e
    have hdn:=T.done X' (by rw[<-hX']) (by rw[<-hX']) (by rw[<-hX']) (by rw[<-hX'];exact hc) ds.length pc s' (as++gZ js Y) H' X'.xe I' (hfp fr) st (io2 rfl)
    have hA:X'.A=X.A:=by rw[<-hX']
    have hXe:X'.xe=notedBy (model X.prog X.w) X.A (compEnvC scope (gI scope.names X.env.cells []) s3.heap.objs.size X.env) fun e s'=>RR (.ref s2.heap.objs.size) s3.heap.objs.size (.error e) s':=by rw[<-hX']
    rw[hA,hXe]at hdn
    refine wpAny_mono hdn (fun r s5 ⟨hr,I5⟩=>?_) fun _ _ z=>z
    subst hr
    rw[List.drop_eq_nil_of_le (le_refl _)]at hm
    have hzs:zs=ys:=by
     have hm':(bA.ok (zs++ []):bA (List D))= .ok ys:=hm
     rw[append_nil]at hm'
     cases hm';rfl
    subst hzs
    have I5':=I5
    rw[<-hX']at I5'
    obtain⟨m',hn',_⟩:=I5'.loc
    refine hend s2.heap.objs.size s3.heap.objs.size s5 H' F' vs m' hfresh gr fD hD dl hn' (fun h' hs'=>cZ8 I3 I5' (le_refl _) hs' f3) ?_
    exact I3.fpOk (le_refl _) I5'.free
  ·refine⟨0,os.map (fun _=>none)++gZ js Y,_,F2,[],[],by omega,zero_le _,J0,t1,fun b hb=>(f3 b hb).1,⟨_,by rw[length_map],rfl⟩,bQ.laidN Ev.sub hfresh _,bF.free Ev.sub hfresh,dY,DatL.nil,le_refl _,?_⟩
   rw[List.drop_zero,hys];rfl
 subst hs3
 exact codeAny_compStart_list (loop _ rfl) (T.self _ 0 _ _ _ t1 (loop _ rfl))
end
section
variable{spos:Pos}{p P:MT}{g G:ME}{sp:D->Option (List D)}{gg:TG}
def kO(js:List Nat)(fl:ML)(p:MT)(g:ME):ME:=fun O=>(fl O).bind fun ds=>if ds.length<=sizeLine then(dG p g (fJ js O) ds).bind fun ys=>.ok (.lst ys)else .bad
theorem cD1(S:nS X scope os caps js)(I:bE X pc Y H s):closureFor scope X.env=pure (gI scope.names X.env.cells []):=
 cZ3 fun y hy hf=>I.ok.has y.1 (S.fr y hy hf)
theorem cD2(S:nS X scope os caps js)(Tg:Tgt X scope tg os caps sp gg P G p g)(hc:X.calm=true)(hi:II X tg iter fl)(hp:∀C fp s H E,sI (lC X (os++caps) scope C fp s H E) ifs p)(hg:∀C fp s H E,IE (lC X (os++caps) scope C fp s H E) elt g)
 (hs:∀x,foldedSetIterable iter X.env x=pure x):IE X (.ListComp elt [⟨tg,iter,ifs,0⟩] scope pos) (kO js fl P G):=by
 intro pc s Y H Q I ⟨O,F,Ev,q⟩
 rw[eval_ListComp]
 refine wpAny_comprehension_free (use:=none) rfl hs (cD1 S I) S.kind S.names ?_
 unfold kO at q
 cases hf:fl O with
 |ok ds=>
  rw[hf]at q
  have q':dB (bC X.K) F H (if ds.length<=sizeLine then(dG P G (fJ js O) ds).bind fun ys=>.ok (.lst ys)else .bad) Q:=q
  split at q'
  ·rename_i hlen
   cases hcm:dG P G (fJ js O) ds with
   |ok ys=>
    rw[hcm]at q'
    have q2:dB (bC X.K) F H (.ok (.lst ys)) Q:=q'
    have hiter:=hi pc s Y H (fun J H2=>∃F2,bQ F H F2 H2/\kN X.K F2 J ds) I ⟨O,F,Ev,by rw[hf];exact fun J F' H' g' io=>⟨F',g',io⟩⟩
    refine wpAny_mono hiter (fun v s1 h1=>wpAny_mono h1 (fun itv s2 h2=>?_) fun _ _ e=>e) fun _ _ e=>e
    obtain⟨it,fp,tn,J,H2,rfl,I2,T,t0,f2,F2,g2,io⟩:=h2
    refine dA0 (RR:=fun acc C=>compPost (model X.prog X.w) X.A X.xe none (EP X pc Y Q) acc C) S hc I2 T Tg t0 f2 (Ev.grow g2) io hp hg hcm hlen ?_
    intro Dd C s' H' F' vs m' hD2 gr fD hD dl hn hback hfp
    refine⟨m',hn,fun h' hs'=>⟨.ref Dd,H',hback h' hs',rfl,?_⟩⟩
    have hH:H Dd=none:=g2.free hD2
    have grA:=g2.trans gr
    refine q2 (.ref Dd) (upd F' Dd (.lst vs)) H' ⟨grA.same,grA.more,fun ti=>⟨(grA.tk ti).1,(grA.tk ti).2.upd _ rfl⟩,grA.fs.trans (jY fD _),fun b o e=>?_,fun b hb hn'=>?_⟩ ?_
    ·by_cases z:b=Dd
     ·subst z;rw[dY]at e;cases e;exact hD
     ·rw[cK z]at e;exact grA.sub b o e
    ·have z:b≠Dd:=fun z=>hn' (z▸hH)
     rw[cK z];exact grA.new b hb hn'
    ·simp only[bC]
     exact⟨Dd,vs,rfl,dO.of dY,dl.mono (jY fD _)⟩
   |ex _=>rw[hcm]at q';exact q'.elim
   |bad=>rw[hcm]at q';exact q'.elim
  ·exact q'.elim
 |ex _=>rw[hf]at q;exact q.elim
 |bad=>rw[hf]at q;exact q.elim
theorem fO0{u:Value}{m:Str->Option Value}{Q:Shared->Prop}(I:bE X pc Y H s)(hN:X.N.Nodup)(hi:X.N[i]? =some y)(hx:Loc X.env.scope y)(r:cG v u)(hn:s.heap.Ns C m)(hC:jP X pc H C)
 (h:∀s'',bE X pc (Y.set i (some v)) H s''->Q s'') (hf:X.fn y=true\/X.env.scope.names.lookup y=some .local:=by first|exact .inl rfl|exact .inr rfl|assumption):
 wpAny (model X.prog X.w) X.A (assign (.Name y py) X.env u) (fun _ s''=>∃m,s''.heap.Ns C m/\ ∀h',Heap.SameBut C s''.heap h'->Q {s'' with heap:=h'}) X.xe s:=by
 refine wpAny_assign_Name (cQ9 I hN hi hx r (fun s' I' hch=>?_) hf)
 obtain⟨f0,f1,f2,f3,f4,f5⟩:=hC
 have hC2:∀c,(c=X.env.locals\/X.env.cells.lookup y=some c)->C≠c:=fun c hc z=>by
  rcases hc with hc|hc
  ·exact f1 (z.trans hc)
  ·exact f4 y c hc z.symm
 obtain⟨c,hsb,hcc⟩:=hch
 refine⟨m,hn.sameBut hsb (hC2 c (by rcases hcc with z|z<;>first|exact .inl z|exact .inr z)),fun h' hs'=>h _ ?_⟩
 exact I'.turned (t':=s'.toks) (fun b o hb e=>(hs'.2 b hb).trans e) f0 f1 f3 f4 f5
def nT(i:Nat)(js:List Nat)(fl:ML)(p:MT)(g:ME):MS:=bU i (kO js fl p g)
theorem fO1(S:nS X scope os caps js)(Tg:Tgt X scope tg os caps sp gg P G p g)(hc:X.calm=true)(hi:II X tg iter fl)(hp:∀C fp s H E,sI (lC X (os++caps) scope C fp s H E) ifs p)(hg:∀C fp s H E,IE (lC X (os++caps) scope C fp s H E) elt g)
 (hN:X.N.Nodup) (hy:X.N[i]? =some y) (hl:Loc X.env.scope y) (hsw:swapsWith (.ListComp elt [⟨tg,iter,ifs,0⟩] scope pos) (some (.Name y py)) spos.line X.env=pure true)
 (hs:∀x,foldedSetIterable iter X.env x=pure x) (hf:X.fn y=true\/X.env.scope.names.lookup y=some .local):
 IS X (.Assign [.Name y py] (.ListComp elt [⟨tg,iter,ifs,0⟩] scope pos) spos) (nT i js fl P G):=by
 intro Fa Ha pc s Y H E I ⟨O,F,SS,q⟩
 rw[exec_Assign_Name_used _ _ _ _ hsw]
 refine wpAny_bind (wpAny_standAt (wpAny_bind ?_))
 show wpAny _ X.A (do let _ <-comprehension (.ListComp elt [⟨tg,iter,ifs,0⟩] scope pos) scope X.env _ (newList []) false (eval iter X.env) (some (assign (.Name y py) X.env))) _ _ s
 refine wpAny_bind (wpAny_mono (wpAny_comprehension_free (use:=some (assign (.Name y py) X.env)) (Q:=fun _ s'=>SP X pc E .next s') rfl hs (cD1 S I) S.kind S.names ?_) (fun _ s' hq=>wpAny_pure (wpAny_pure hq)) fun _ _ e=>e)
 unfold nT bU kO at q
 cases hf':fl O with
 |ok ds=>
  rw[hf']at q
  have q':gD X Fa Ha ((if ds.length<=sizeLine then(dG P G (fJ js O) ds).bind fun ys=>.ok (.lst ys)else .bad).bind fun d=>.ok (.nx (O.set i (.val d)))) E:=q
  split at q'
  ·rename_i hlen
   cases hcm:dG P G (fJ js O) ds with
   |ok ys=>
    rw[hcm]at q'
    have q2:∀Y F H,SR X.K Fa Ha F H (O.set i (.val (.lst ys))) Y->E.nx Y H:=q'
    have hiter:=hi pc s Y H (fun J H2=>∃F2,bQ F H F2 H2/\kN X.K F2 J ds) I ⟨O,F,SS.env,by rw[hf'];exact fun J F' H' g' io=>⟨F',g',io⟩⟩
    refine wpAny_mono hiter (fun v s1 h1=>wpAny_mono h1 (fun itv s2 h2=>?_) fun _ _ e=>e) fun _ _ e=>e
    obtain⟨it,fp,tn,J,H2,rfl,I2,T,t0,f2,F2,g2,io⟩:=h2
    refine dA0 (RR:=fun acc C=>compPost (model X.prog X.w) X.A X.xe (some (assign (.Name y py) X.env)) (fun _ s'=>SP X pc E .next s') acc C) S hc I2 T Tg t0 f2 (SS.env.grow g2) io hp hg hcm hlen ?_
    intro Dd C s' H' F' vs m' hD2 gr fD hD dl hn hback hfp
    have Ib:bE X pc Y H' s':=hback s'.heap (Heap.SameBut.refl _ _)
    refine fO0 (i:=i) (v:=.ref Dd) Ib hN hy hl rfl hn hfp (fun s'' I''=>⟨_,H',I'',?_⟩) hf
    have hH:H Dd=none:=g2.free hD2
    have grA:=g2.trans gr
    have grB:bQ F H (upd F' Dd (.lst vs)) H':=by
     refine⟨grA.same,grA.more,fun ti=>⟨(grA.tk ti).1,(grA.tk ti).2.upd _ rfl⟩,grA.fs.trans (jY fD _),fun b o e=>?_,fun b hb hn'=>?_⟩
     ·by_cases z:b=Dd
      ·subst z;rw[dY]at e;cases e;exact hD
      ·rw[cK z]at e;exact grA.sub b o e
     ·have z:b≠Dd:=fun z=>hn' (z▸hH)
      rw[cK z];exact grA.new b hb hn'
    exact q2 _ _ _ ((SS.grow grB).set i (by simp only[bC];exact⟨Dd,vs,rfl,dO.of dY,dl.mono (jY fD _)⟩))
   |ex _=>rw[hcm]at q';exact q'.elim
   |bad=>rw[hcm]at q';exact q'.elim
  ·exact q'.elim
 |ex _=>rw[hf']at q;exact q.elim
 |bad=>rw[hf']at q;exact q.elim
theorem bP5(S:nS X scope [x] caps js):Tgt X scope (.Name x px) [x] caps (fun d=>some [d]) (mC 0) p g p g where
 pg:=fun _ _ _ _ _=>xD (i:=0) S.nd rfl (.inl (lookup_relabel_local (S.loc x mem_cons_self))) (.inr (lookup_relabel_local (S.loc x mem_cons_self)))
 ok:=fun{d es v F H as σr} e dv _ la=>by
  cases e
  match as,la with
  | [o],_=>exact⟨[v],rfl,DatL.cons dv DatL.nil,rfl,rfl⟩
 hp:=fun _=>⟨_,rfl⟩
 eq:=fun r e=>by cases e;exact⟨rfl,rfl⟩
theorem fO2(S:nS X scope [x] caps js)(hc:X.calm=true)(hi:II X (.Name x px) iter fl)(hp:∀C fp s H E,sI (lC X (x::caps) scope C fp s H E) ifs p)(hg:∀C fp s H E,IE (lC X (x::caps) scope C fp s H E) elt g)
 (hs:∀x,foldedSetIterable iter X.env x=pure x:=by intro _;rfl):IE X (.ListComp elt [⟨.Name x px,iter,ifs,0⟩] scope pos) (kO js fl p g):=cD2 S (bP5 S) hc hi hp hg hs
end
def jN{α:Type}(xs:List α)(lo hi:Option Int):List α:=(xs.drop (HT.sIx xs.length 0 lo)).take (HT.sIx xs.length xs.length hi-HT.sIx xs.length 0 lo)
def sJ(z:Str)(lo hi:Option Int):Str:=⟨(jN z.cps.toList lo hi).toArray⟩
theorem fO3(xs:List α)(lo hi:Option Int):(jN xs lo hi).length<=xs.length:=by
 unfold jN
 rw[List.length_take,List.length_drop];omega
theorem dA1(z:Str)(lo hi:Option Int):(sJ z lo hi).length<=z.length:=by
 show(jN z.cps.toList lo hi).toArray.size<=z.cps.size
 rw[size_toArray]
 exact le_trans (fO3 _ _ _) (by simp)
theorem dA2(n:Nat)(lo hi:Option Int):strSliceIndices lo hi 1 n=(List.range (HT.sIx n n hi-HT.sIx n 0 lo)).map (HT.sIx n 0 lo+ ·):=by
 have h0:∀(o:Option Int) (d:Nat),d<=n->(match o with
  |none=>(d:Int)
  |some i=>max 0 (min (if i<0 then i+(n:Int)else i) (n:Int)))=((HT.sIx n d o:Nat):Int):=by
  intro o d hd
  cases o with
  |none=>rfl
  |some i=>
   show max 0 (min (if i<0 then i+(n:Int)else i) (n:Int))=((if i<0 then(i+(n:Int)).toNat else min i.toNat n:Nat):Int)
   by_cases hi:i<0
   ·rw[if_pos hi,if_pos hi];omega
   ·rw[if_neg hi,if_neg hi];omega
 rw[<-sliceRange_one]
 unfold strSliceIndices
 simp only[show(1:Int)>0 by decide,if_true]
 have e1:=h0 lo 0 (zero_le _)
 have e2:=h0 hi n (le_refl _)
 rw[<-e1, <-e2]
 cases lo<;>cases hi<;>rfl
theorem fO4(z:Str)(lo hi:Option Int):(⟨((strSliceIndices lo hi 1 z.length).filterMap (z.cps[·]?)).toArray⟩:Str)=sJ z lo hi:=by
 rw[dA2,pick_run]
 unfold sJ jN
 have:z.cps.toList.length=z.length:=by simp[Str.length]
 rw[this]
theorem fO5{lo hi:Option Int}(h:((strSliceIndices lo hi 1 z.length).length==z.length)=true):sJ z lo hi=z:=by
 have h':(strSliceIndices lo hi 1 z.length).length=z.length:=eq_of_beq h
 rw[dA2,length_map,List.length_range]at h'
 have hb:HT.sIx z.length z.length hi<=z.length:=HT.sIx_le _ _ (le_refl _) hi
 unfold sJ jN
 have e:z.cps.toList.length=z.length:=by simp[Str.length]
 rw[e]
 by_cases hz:z.length=0
 ·have:z.cps.toList= []:=List.length_eq_zero_iff.mp (by rw[e];exact hz)
  rw[this]
  cases z with
  |mk c=>
   have:c= #[]:=by
    apply Array.toList_inj.mp;simpa using this
   subst this;simp
 ·have h0:HT.sIx z.length 0 lo=0:=by omega
  rw[h0,List.drop_zero,List.take_of_length_le (by rw[e];omega)]
theorem fO6{l u:Option (Int×Tok)}(hz:z.length<=sizeLine)(h:∀t' k,Q (.str (sJ z (l.map (·.1)) (u.map (·.1))) t') {s with toks:=k}):(sliceMade z t l u none).post Q s:=by
 unfold sliceMade slicePicked
 simp only[Option.map_none,Option.getD_none]
 by_cases hc:((1:Int)==1&&(strSliceIndices (l.map (·.1)) (u.map (·.1)) 1 z.length).length==z.length)=true
 ·rw[if_pos hc]
  rw[and_eq_true]at hc
  have e:=fO5 hc.2
  have:=h t s.toks
  rw[e]at this
  exact this
 ·rw[if_neg hc,fO4]
  refine⟨?_,h _ _⟩
  exact le_trans (dA1 z _ _) hz
section
variable{a b c:Expr}{g h:ME}{m:D->D->bA D}
def dSl:D->Option Int->Option Int->bA D
 | .str z,lo,hi=>.ok (.str (sJ z lo hi))
 | .tup ds,lo,hi=>.ok (.tup (jN ds lo hi))
 | .lst ds,lo,hi=>.ok (.lst (jN ds lo hi))
 |_,_,_=>.bad
def rSD(X:Cx):V->Option Int->Option Int->Hp->VK->Prop:=fun x lo hi H Q=>∃F d,bF F H/\bC X.K F d x/\dB (bC X.K) F H (dSl d lo hi) Q
theorem dA3{v:Value}{o:Option Int}(h:IsPart v o):∃q:Option (Int×Tok),v=partValue q/\q.map (·.1)=o:=by
 cases h with
 |none=>exact⟨none,rfl,rfl⟩
 |int i t=>exact⟨some (i,t),rfl,rfl⟩
theorem fO8:SlR X (rSD X):=by
 intro pc s Y H x v vl vu lo hi sl Q I rx hs pl pu h
 obtain⟨F,d,sb,hd,q⟩:=h
 cases d with
 |str z=>
  simp only[bC]at hd;obtain⟨rfl,hz⟩:=hd
  obtain⟨t,rfl⟩:=rx
  obtain⟨ql,rfl,el⟩:=dA3 pl
  obtain⟨qu,rfl,eu⟩:=dA3 pu
  refine⟨"str",_,PySem.F.slot_str_getitem.lookup,typeIs_str _ _ _,?_⟩
  refine wpAny_getItem_str_slice (l:=ql) (u:=qu) (st:=none) hs rfl (fO6 hz fun t' k=>?_)
  rw[el,eu]
  exact⟨.str _,H,I.tok _,⟨_,rfl⟩,cL q sb (by simp only[bC];exact⟨trivial,le_trans (dA1 _ _ _) hz⟩)⟩
 |tup ds=>
  simp only[bC]at hd;obtain⟨p,xs,rfl,g1,l1⟩:=hd
  have hl:=l1.length
  by_cases hw:HT.sIx ds.length 0 lo=0/\HT.sIx ds.length ds.length hi=ds.length
  ·have e:jN ds lo hi=ds:=by
    unfold jN
    rw[hw.1,hw.2];simp
   simp only[dSl,e]at q
   cases rx
   obtain⟨its,r,ht,hz⟩:=I.tuple (bF.seqT sb g1)
   have hlen:its.toArray.size=ds.length:=by rw[size_toArray, <-r.length, <-hl]
   refine⟨"tuple",_,PyProof.Rows.slot_tuple_getitem.lookup,ht.typeIs,?_⟩
   exact fK9 ht hs pl pu (by rw[hlen];exact hw) ⟨.ref p,H,I,rfl,cL q sb (by simp only[bC];exact⟨p,xs,rfl,g1,l1⟩)⟩
  ·simp only[dSl]at q
   refine fG2 pc s Y H _ v vl vu lo hi sl Q I rx hs pl pu ⟨p,xs,rfl,bF.seqT sb g1,by rw[<-hl];exact hw,fun p' hp'=>?_⟩
   refine bG3 q sb ?_ hp'
   unfold jN vY
   rw[hl]
   exact DatL.of (cB5 _ (cB6 _ l1.paired))
 |lst ds=>
  simp only[bC]at hd;obtain⟨p,xs,rfl,g1,l1⟩:=hd
  have hl:=l1.length
  refine fH4 pc s Y H _ v vl vu lo hi sl Q I rx hs pl pu ⟨p,xs,rfl,bF.seq sb g1,fun p' hp'=>?_⟩
  refine zT q sb ?_ hp'
  unfold jN vY
  rw[hl]
  exact DatL.of (cB5 _ (cB6 _ l1.paired))
 |_=>exact q.elim
abbrev MO:=cU->bA (Option Int)
noncomputable def tDO(X:Cx)(f:MO):TO:=fun Y H Q=>∃O F,gC X.K F H O Y/\dB R.RelO F H (f O) Q
def IO'(X:Cx)(e:Option Expr)(f:MO):Prop:=PO X e (tDO X f)
noncomputable def pN:MO:=fun _=>.ok none
noncomputable def cD3:D->bA (Option Int)
 | .int i=>.ok (some i)
 |_=>.bad
def pO(f:ME):MO:=fun O=>(f O).bind cD3
theorem dA4{t t':TO}(h:PO X o t)(i:∀Y H Q,t' Y H Q->t Y H Q):PO X o t':=fun pc s Y H Q I hq=>h pc s Y H Q I (i Y H Q hq)
theorem fP0:IO' X none pN:=dA4 fF7 fun Y H Q ⟨O,F,E,q⟩=>cL q E.sub rfl
theorem fP1(he:IE X e f):IO' X (some e) (pO f):=dA4 (fF8 he) fun Y H Q ⟨O,F,E,q⟩=>⟨O,F,E,by
 have q1:=jF (R1:=bC X.K) q
 revert q1
 cases f O with
 |ok d=>
  intro q1 v F1 H1 g1 d1
  obtain⟨F2,d',g2,d2,q2⟩:=q1 v F1 H1 g1 d1
  cases d' with
  |int i=>simp only[bC]at d2;exact⟨i,d2,cL q2 g2.sub rfl⟩
  |_=>exact q2.elim
 |ex _=>exact fun q1=>q1
 |bad=>exact fun q1=>q1⟩
def pP(f:ME)(l u:MO):ME:=fun O=>(f O).bind fun d=>(l O).bind fun lo=>(u O).bind fun hi=>dSl d lo hi
theorem fP2{lo hi:Option Expr}{l u:MO}(he:IE X e f)(hl:IO' X lo l)(hu:IO' X hi u):IE X (.Subscript e (.Slice lo hi none p2) pos) (pP f l u):=fL (fG0 fO8 he hl hu) fun Y H Q ⟨O,F,E,q⟩=>⟨O,F,E,by
 have q1:=jF (R1:=bC X.K) q
 revert q1
 cases f O with
 |ok d=>
  intro q1 v F1 H1 g1 d1
  obtain⟨F2,d',g2,d2,q2⟩:=q1 v F1 H1 g1 d1
  refine⟨O,F2,E.grow g2,?_⟩
  have q3:=jF (R1:=R.RelO) q2
  revert q3
  cases l O with
  |ok y=>
   intro q3 v' F3 H3 g3 d3
   obtain⟨F4,y',g4,d4,q4⟩:=q3 v' F3 H3 g3 d3
   cases(show y'=v' from d4)
   refine⟨O,F4,(E.grow g2).grow g4,?_⟩
   have q5:=jF (R1:=R.RelO) q4
   revert q5
   cases u O with
   |ok z=>
    intro q5 vz F5 H5 g5 d5
    obtain⟨F6,z',g6,d6,q6⟩:=q5 vz F5 H5 g5 d5
    cases(show z'=vz from d6)
    exact⟨F6,d',g6.sub,(d2.mono g4.fs).mono g6.fs,q6⟩
   |ex _=>exact fun q=>q
   |bad=>exact fun q=>q
  |ex _=>exact fun q=>q
  |bad=>exact fun q=>q
 |ex _=>exact fun q=>q
 |bad=>exact fun q=>q⟩
noncomputable def qF(T:String):D->Bool
 | .bl _=>T== "int" ||T== "bool"
 | .int _=>T== "int"
 | .str _=>T== "str"
 | .tup _=>T== "tuple"
 | .lst _=>T== "list"
 | .non=>false
def fY(T:String)(d:D):bA D:=.ok (.bl (qF T d))
def nU(K:W.Frag)(T:String):Prop:=kitOne K (.type "NoneType") (.type T)=some false/\kitOne K (.type "bool") (.type T)=some (T== "int" ||T== "bool")/\kitOne K (.type "int") (.type T)=some (T== "int")/\
 kitOne K (.type "str") (.type T)=some (T== "str")/\kitOne K (.type "tuple") (.type T)=some (T== "tuple")/\kitOne K (.type "list") (.type T)=some (T== "list")
theorem fP3(K:W.Frag):nU K "int" :=by unfold nU kitOne W.kitCls W.subIn;dsimp only;decide+kernel
theorem fP4(K:W.Frag):nU K "bool" :=by unfold nU kitOne W.kitCls W.subIn;dsimp only;decide+kernel
theorem fP5(K:W.Frag):nU K "str" :=by unfold nU kitOne W.kitCls W.subIn;dsimp only;decide+kernel
theorem cD4(K:W.Frag):nU K "tuple" :=by unfold nU kitOne W.kitCls W.subIn;dsimp only;decide+kernel
theorem fP6(K:W.Frag):nU K "list" :=by unfold nU kitOne W.kitCls W.subIn;dsimp only;decide+kernel
theorem fP7{T:String}(hk:nU X.K T):gM X (.builtin "isinstance") (fun xs H Q=>∃F d v,xs= [v,.ty T]/\bF F H/\bC X.K F d v/\dB (bC X.K) F H (fY T d) Q):=by
 intro pc s Y H xs us Q I r h
 obtain⟨F,d,v,rfl,sb,hd,q⟩:=h
 obtain⟨k1,k2,k3,k4,k5,k6⟩:=hk
 obtain⟨u,w',rfl,r1,r2⟩:=cA6 r
 cases(show w'=Value.type T from r2)
 have cZ:∀b,b=qF T d->∀tk,EP X pc Y Q (.bool b) {s with toks:=tk}:=fun b e tk=>⟨.bl b,H,I.tok tk,rfl,by subst e;exact cL q sb (by simp only[bC])⟩
 cases d with
 |non=>simp only[bC]at hd;subst hd;cases r1;exact W.kia_one W.kitx_none I.kIn True.intro k1 (fun z=>nomatch z) (cZ _ rfl)
 |bl b=>simp only[bC]at hd;subst hd;cases r1;exact W.kia_one W.kitx_bool I.kIn True.intro k2 (fun z=>nomatch z) (cZ _ rfl)
 |int i=>simp only[bC]at hd;subst hd;obtain⟨t,rfl⟩:=r1;exact W.kia_one W.kitx_int I.kIn True.intro k3 (fun z=>nomatch z) (cZ _ rfl)
 |str z=>simp only[bC]at hd;obtain⟨rfl,_⟩:=hd;obtain⟨t,rfl⟩:=r1;exact W.kia_one W.kitx_str I.kIn True.intro k4 (fun z=>nomatch z) (cZ _ rfl)
 |tup ds=>
  simp only[bC]at hd;obtain⟨p,xs,rfl,g1,l1⟩:=hd;cases r1
  obtain⟨its,_,⟨o,e1,e2,_⟩,_⟩:=I.tuple (bF.seqT sb g1)
  exact W.kia_one W.kitx_tuple I.kIn ⟨o,e1,e2⟩ k5 (fun z=>nomatch z) (cZ _ rfl)
 |lst ds=>
  simp only[bC]at hd;obtain⟨p,xs,rfl,g1,l1⟩:=hd;cases r1
  obtain⟨its,_,⟨o,n,e1,e2,_⟩,_⟩:=I.list (bF.seq sb g1)
  exact W.kia_one W.kitx_list I.kIn ⟨o,e1,e2⟩ k6 (fun z=>nomatch z) (cZ _ rfl)
theorem fP8{T:String}{tn:Str}(hk:nU X.K T)(ha:IE X a f)(hg:Gl X "isinstance")(hm:X.mg "isinstance" =none)(hg2:Gl X tn)(hm2:X.mg tn=none)(hv:bootBuiltins tn=some (.type T))(hn:tn≠ "__name__" :=by decide)(hdb:(tn==("__debug__" :Str))=false:=by decide)
 (he:starEach (a:: [.Name tn p1]) X.env=(false,eval a X.env)::starEach [.Name tn p1] X.env:=by rfl):IE X (.Call (.Name "isinstance" p) [a,.Name tn p1] [] pos) (m1 (fY T) f):=by
 refine fL (cB1 (fP7 hk) hg hm PyProof.Rows.boot_isinstance (lM ha (lM (dV7 (v:=.ty T) hg2 hm2 hv rfl hn hdb) qA) he) (he:=he)) fun Y H Q ⟨O,F,E,q⟩=>⟨O,F,E,?_⟩
 have q1:=jF (R1:=bC X.K) q
 revert q1
 cases f O with
 |ok d=>exact fun q1 v F1 H1 g1 d1=>let ⟨F2,d',g2,d2,q2⟩:=q1 v F1 H1 g1 d1;⟨F2,d',v,rfl,g2.sub,d2,q2⟩
 |ex _=>exact fun q1=>q1
 |bad=>exact fun q1=>q1
structure vC(K:W.Frag)(mg:Str->Option Value)(x:Str)(d:D):Prop where
 ex:∃(v:V) (u:Value),mg x=some u/\cG v u/\ ∀F,bC K F d v
theorem fP9{d:D}(hg:Gl X x)(C:vC X.K X.mg x d)(hd:(x==("__debug__" :Str))=false:=by decide):IE X (.Name x pos) (kc d):=by
 obtain⟨v,u,h1,h2,h3⟩:=C.ex
 exact bG6 (t:=tC v) (bF5 hg h1 h2 hd) h3
end
def wC:List D->bA (List Bool)
 | []=>.ok []
 | .bl b::r=>(wC r).bind fun bs=>.ok (b::bs)
 |_::_=>.bad
theorem dA5:∀{ds:List D} {bs:List Bool},wC ds= .ok bs->ds=bs.map .bl
 | [],bs,h=>by cases h;rfl
 |d::r,bs,h=>by
  cases d with
  |bl b=>
   simp only[wC]at h
   cases q:wC r with
   |ok cs=>rw[q]at h;cases h;rw[dA5 q];rfl
   |ex _=>rw[q]at h;cases h
   |bad=>rw[q]at h;cases h
  |_=>cases h
def wD:List D->bA D
 | [.lst ds]=>(wC ds).bind fun bs=>.ok (.bl (bs.all id))
 |_=>.bad
theorem fQ0(bs:List Bool):(List.range bs.length).all (fun i=>bs.getD i true)=bs.all id:=by
 induction bs with
 |nil=>rfl
 |cons b r ih=>
  rw[length_cons,List.range_succ_eq_map,all_cons,all_map,all_cons, <-ih]
  rfl
section
variable{a b c o:Expr}{g h:ME}{m:D->D->bA D}
theorem fQ1(hc:X.calm=true):gM X (.builtin "all") (qE X wD):=by
 intro pc s Y H xs us Q I r h
 obtain⟨F,ds,sb,hl,q⟩:=h
 unfold wD at q
 split at q
 ·rename_i es
  obtain⟨x,rfl,hx⟩:=lB hl
  simp only[bC]at hx;obtain⟨p,ys,rfl,g1,l1⟩:=hx
  obtain⟨u,rfl,ru⟩:=nL r
  cases ru
  cases hb:wC es with
  |ok bs=>
   rw[hb]at q
   have e:=dA5 hb
   subst e
   obtain⟨its,rv,pl,hz⟩:=I.list (bF.seq sb g1)
   have hh:X.A.in1.handled=none:=I.ok.hd hc
   have hne:p≠s.heap.objs.size:=by
    obtain⟨ob,n,e,_⟩:=pl
    exact ne_of_lt (lt_size e)
   refine call_all_walk (wpAny_pyIter_list pl.isList ?_)
   have hil:(s.heap.push {cls:=.type "list_iterator",data:=.fields #[.ref p,.int 0 0]}).IsList p its.toArray:=by
    obtain⟨ob,e,c,d⟩:=pl.isList
    exact⟨ob,get?_push_of_some _ e,c,d⟩
   refine⟨s.heap.objs.size,_,_,_,_,_,fun i=>bs.getD i true,rfl,Walks.list hh s.heap.objs.size p hne its.toArray,⟨⟨_,get?_push_size _ rfl,rfl,rfl⟩,hil⟩,?_,fun h' tk hk=>?_⟩
   ·intro i v s' Q' E' hi hq
    have hi':its[i]? =some v:=by simpa using hi
    obtain⟨x',hx',rx'⟩:=bG2 rv hi'
    obtain⟨d,hd,dx⟩:=bG2 l1.paired hx'
    rw[getElem?_map]at hd
    cases hbi:bs[i]? with
    |none=>rw[hbi]at hd;cases hd
    |some b=>
     rw[hbi]at hd
     cases hd
     simp only[bC]at dx;subst dx
     cases rx'
     refine wpAny_truthy_bool ?_
     have e0:bs.getD i true=b:=by rw[getD_eq_getElem?_getD,hbi];rfl
     have hq':Q' (bs.getD i true) s':=hq
     rw[e0]at hq'
     exact hq'
   ·have hn:its.toArray.size=bs.length:=by
     rw[size_toArray, <-rv.length, <-l1.length,length_map]
    rw[hn,fQ0]
    have I1:bE X pc Y H {s with heap:=h',toks:=tk}:=I.kept fun b ob e=>hk b ob (fun z=>by
     have z':b=s.heap.objs.size:=by simpa using z
     exact absurd (lt_size e) (by rw[z'];exact lt_irrefl _)) (get?_push_of_some _ e)
    exact⟨.bl _,H,I1,rfl,cL q sb (by simp only[bC])⟩
  |ex _=>rw[hb]at q;exact q.elim
  |bad=>rw[hb]at q;exact q.elim
 ·exact q.elim
noncomputable def cD5:D->bA Str
 | .str z=>.ok z
 |_=>.bad
def pQ(m:Str->List D->bA D)(f:ME)(fa:MA):ME:=fun O=>(f O).bind fun d=>(cD5 d).bind fun z=>(fa O).bind fun ds=>m z ds
def rMe(X:Cx)(m:Str->List D->bA D):V->List V->Hp->VK->Prop:=fun x xs H Q=>∃F z ds,bF F H/\x= .str z/\z.length<=sizeLine/\DatL X.K F ds xs/\dB (bC X.K) F H (m z ds) Q
theorem fQ2{m:Str->List D->bA D}{name:Str}{id:String}(slot:PySem.Slot "str" name id)(hty:typeOf (.builtin id)=pure (.type "method_descriptor"))(hm:xI X id (rMe X m))(ho:IE X o f)(ha:IA X (e::es) fa)
 (hbase:attributeBase o name X.env (eval o X.env)=eval o X.env:=by rfl)
 (hfew:((backTo pos (starEach (e::es) X.env)).all (fun x=> !x.1)&&(backToKw pos (keywordEach [] X.env)).all (fun x=>x.1.isSome)
   &&decide ((e::es).length+([]:List Keyword).length+(if([]:List Keyword).isEmpty then 0 else 1)<30))=true:=by rfl)
 (hline:(apos.endLine==pos.line)=true:=by rfl) (hs:starEach (e::es) X.env=(false,eval e X.env)::starEach es X.env:=by rfl) (hplain:(backTo pos (starEach es X.env)).any (·.1)=false:=by rfl):
 IE X (.Call (.Attribute o name apos) (e::es) [] pos) (pQ m f fa):=fL (bN9 PySem.F.plainAttrs_str slot hty hm ho ha hbase hfew hline hs hplain) fun Y H Q ⟨O,F,E,q⟩=>⟨O,F,E,by
 have q1:=jF (R1:=bC X.K) q
 revert q1
 cases f O with
 |ok d=>
  intro q1 v F1 H1 g1 d1
  obtain⟨F2,d',g2,d2,q2⟩:=q1 v F1 H1 g1 d1
  cases d' with
  |str z=>
   simp only[bC]at d2;obtain⟨rfl,hz⟩:=d2
   refine⟨rfl,O,F2,E.grow g2,?_⟩
   have q2':dB (bC X.K) F2 H1 ((fa O).bind fun ds=>m z ds) Q:=q2
   have q3:=jF (R1:=DatL X.K) q2'
   revert q3
   cases fa O with
   |ok y=>
    intro q3 v' F3 H3 g3 d3
    obtain⟨F4,y',g4,d4,q4⟩:=q3 v' F3 H3 g3 d3
    exact⟨F4,z,y',g4.sub,rfl,hz,d4,q4⟩
   |ex _=>exact fun q=>q
   |bad=>exact fun q=>q
  |_=>exact q2.elim
 |ex _=>exact fun q=>q
 |bad=>exact fun q=>q⟩
noncomputable def sK(z:Str):List D->bA D
 | [.str y]=>.ok (.bl (Txt.startswith z y))
 |_=>.bad
theorem fQ3:xI X "str.startswith" (rMe X sK):=by
 intro pc s Y H x xs v us Q I rx rs h
 obtain⟨F,z,ds,sb,rfl,hz,hl,q⟩:=h
 obtain⟨t,rfl⟩:=rx
 unfold sK at q
 split at q
 ·obtain⟨x,rfl,hx⟩:=lB hl
  simp only[bC]at hx;obtain⟨rfl,_⟩:=hx
  obtain⟨u,rfl,t',rfl⟩:=nL rs
  exact PySem.SC.startswith ⟨.bl _,H,I,rfl,cL q sb (by simp only[bC])⟩
 ·exact q.elim
theorem fQ4{u:Tok}(hy:(y.length==0)=false)(hsz:x.length+2<=sizeLine)
 (hq:∀l k,l.map (·.1)=Txt.split x y->Q (.ref s.heap.objs.size) {s with heap:=s.heap.push {cls:=.type "list",data:=.seq (strValues l).toArray},toks:=k}):
 wpAny (model prog w) A (call (.builtin "str.split") [.str x t,.str y u]) Q E s:=by
 have hle:=split_le x y
 cases h1:(decide (x.length<y.length)||decide (Builtin.Str.strKind x<Builtin.Str.strKind y))with
 |true=>
  have e:Txt.split x y= [x]:=by unfold Txt.split;rw[if_pos h1]
  exact call_meets slot_str_split (typeIs_str _ _ _) PySem.F.entry_str_split (PySem.F.args_str_split_2 _ _) (meets_str_split_cannot_occur x y t u h1) (hq [(x,t)] s.toks (by rw[e];rfl))
 |false=>
  cases hf:(occurrences x y 0 x.length (x.length+1)).isEmpty with
  |true=>
   have e:Txt.split x y= [x]:=by unfold Txt.split;rw[if_neg (by rw[h1];decide),if_pos hf]
   exact call_meets slot_str_split (typeIs_str _ _ _) PySem.F.entry_str_split (PySem.F.args_str_split_2 _ _) (meets_str_split_not_found x y t u h1 hy hf) (hq [(x,t)] s.toks (by rw[e];rfl))
  |false=>
   have e:Txt.split x y=Builtin.Str.partsBetween x (occurrences x y 0 x.length (x.length+1)) y.length:=by unfold Txt.split;rw[if_neg (by rw[h1];decide),if_neg (by rw[hf];decide)]
   have hn:(Builtin.Str.partsBetween x (occurrences x y 0 x.length (x.length+1)) y.length).length<=sizeLine:=by rw[<-e];omega
   refine call_meets slot_str_split (typeIs_str _ _ _) PySem.F.entry_str_split (PySem.F.args_str_split_2 _ _) (meets_str_split_sep x y t u h1 hy hf bD hn) ?_
   rw[strsFrom_eq]
   exact hq (numbered s.toks _) _ (by rw[numbered_texts,e])
theorem dA6:∀(l:List (Str×Tok)),bV (l.map fun p=>V.str p.1) (strValues l)
 | []=>.nil
 |p::r=>.cons ⟨p.2,rfl⟩ (dA6 r)
theorem cD6:∀(ts:List Str),(∀x∈ts,x.length<=sizeLine)->DatL K F (ts.map .str) (ts.map V.str)
 | [],_=>DatL.nil
 |x::r,h=>DatL.cons (by simp only[bC];exact⟨trivial,h x mem_cons_self⟩) (cD6 r fun y hy=>h y (mem_cons_of_mem _ hy))
theorem dA7:∀{l:List Str} {x:Str},x∈l->x.length<=(l.map (·.length)).sum
 |y::r,x,h=>by
  rw[map_cons,List.sum_cons]
  rcases List.mem_cons.mp h with rfl|h
  ·omega
  ·have:=dA7 h;omega
noncomputable def bH2(z:Str):List D->bA D
 | [.str y]=>if y.length≠0/\z.length+2<=sizeLine then .ok (.lst ((Txt.split z y).map .str))else .bad
 |_=>.bad
theorem fQ5:xI X "str.split" (rMe X bH2):=by
 intro pc s Y H x xs v us Q I rx rs h
 obtain⟨F,z,ds,sb,rfl,hz,hl,q⟩:=h
 obtain⟨t,rfl⟩:=rx
 unfold bH2 at q
 split at q
 ·rename_i y
  obtain⟨x,rfl,hx⟩:=lB hl
  simp only[bC]at hx;obtain⟨rfl,_⟩:=hx
  obtain⟨u,rfl,t',rfl⟩:=nL rs
  split at q
  ·rename_i hc
   refine fQ4 (by simpa using hc.1) hc.2 fun l k hl'=>?_
   have hw:=split_weight z y bD
   have hsz:∀x∈Txt.split z y,x.length<=sizeLine:=fun x hx=>by
    have:=dA7 hx
    omega
   have ev:(l.map fun p=>V.str p.1)=(Txt.split z y).map V.str:=by rw[<-hl',map_map];rfl
   have r:=dA6 l
   rw[ev]at r
   refine⟨.ref _,_,I.lnew (t':=k) r (by rw[length_map];have:=split_le z y;omega),rfl,zT q sb (cD6 _ hsz) I.fresh⟩
  ·exact q.elim
 ·exact q.elim
end
section
theorem fQ6(hu:X.A.units+200<cLine):cQ X (compareOp .In) (rD X (fQ false)):=cY6 (neg:=false) hu
theorem fQ7(hu:X.A.units+200<cLine):cQ X (compareOp .NotIn) (rD X (fQ true)):=cY6 (neg:=true) hu
theorem fQ8(hr:dH k A):A.units+100<cLine:=by have:=hr.un;omega
theorem dA8(hr:dH k A):A.units+200<cLine:=by have:=hr.un;omega
theorem dA9{sc:Scope}(hN:X.N=N)(hS:X.env.scope=sc)(h1:scope.kind= .function)(h2:(scope.names.all fun y=>decide (y.2≠ .cell))=true)
 (h3:(scope.names.all fun y=>decide (y.2= .local->scope.names.lookup y.1=some .local))=true) (h4:(os.all fun x=>decide (scope.names.lookup x=some .local))=true)
 (h5:(scope.names.all fun y=>decide (y.2= .free->sc.names.lookup y.1=some .cell\/sc.names.lookup y.1=some .free))=true) (h6:(os++caps).Nodup) (h7:caps.length=js.length)
 (h8:((caps.zip js).all fun q=>decide (N[q.2]? =some q.1)&&decide (scope.names.lookup q.1=some .free))=true):nS X scope os caps js where
 kind:=h1
 nocell:=fun y hy=>of_decide_eq_true (List.all_eq_true.mp h2 y hy)
 names:=fun y hy=>of_decide_eq_true (List.all_eq_true.mp h3 y hy)
 loc:=fun y hy=>of_decide_eq_true (List.all_eq_true.mp h4 y hy)
 fr:=fun y hy hf=>by
  have:=of_decide_eq_true (List.all_eq_true.mp h5 y hy) hf
  show X.env.scope.names.lookup y.1=_\/X.env.scope.names.lookup y.1=_
  rw[hS];exact this
 nd:=h6
 len:=h7
 cap:=fun k y j hy hj=>by
  have hm:(y,j)∈caps.zip js:=by
   have:(caps.zip js)[k]? =some (y,j):=by rw[List.getElem?_zip_eq_some];exact⟨hy,hj⟩
   exact mem_of_getElem? this
  have:=List.all_eq_true.mp h8 _ hm
  rw[and_eq_true]at this
  rw[hN]
  exact⟨of_decide_eq_true this.1,of_decide_eq_true this.2⟩
theorem cD7:sI X [] fun _=>.ok true:=.inl ⟨rfl,rfl⟩
theorem fQ9{p:MT}(h:IT X e p):sI X [e] p:=.inr ⟨e,rfl,h⟩
end
theorem dB0{f:Addr}(hm:∀ds,m ds= .bad):cS P w K mg base dA k f fd ps (kF K m):=by
 have no:∀vs H Q E,¬ kF K m vs H Q E:=fun vs H Q E h=>by
  obtain⟨F,ds,_,_,_,q⟩:=h
  rw[hm ds]at q
  exact q
 exact⟨fun vs H Q E h=>absurd h (no vs H Q E),fun A outer s H args us vs Q E _ _ _ _ h=>absurd h (no vs H Q E)⟩
structure sL(P:Program)(w:World)(K:W.Frag)(mg:Str->Option Value)(base:Heap)(k:Nat)(x:Str)(m:List D->bA D):Prop where
 ex:∃(f:Addr) (fd:FuncData) (ps:List Str),cS P w K mg base dA k f fd ps (kF K m)/\mg x=some (.ref f)/\keepIn K (.ref f)=true/\jK K fd ps []
theorem sL.of(h:sL X.prog X.w X.K X.mg X.base k x m):cW3 X k x m:=⟨h.ex⟩
theorem fR0{p:Addr}{o:Obj}{ts:List Str}(hm:mg x=some (.ref p))(hk:K.lookup p=some o)(hc:o.cls= .type "tuple")(hd:o.data= .seq its.toArray n)
 (hz:ts.length<=1000) (hl:∀t∈ts,t.length<=sizeLine) (hv:bV (ts.map V.str) its):vC K mg x (.tup (ts.map .str)):=by
 refine⟨.ref p,.ref p,hm,rfl,fun F=>?_⟩
 simp only[bC]
 refine⟨p,ts.map V.str,rfl,.inr ⟨o,its.toArray,n,hk,hc,hd,?_,by simpa using hv⟩,cD6 ts hl⟩
 rw[size_toArray, <-hv.length,length_map]
 have:=sizeLine_eq
 omega
theorem vD{i:Int}(hm:mg x=some (.int i t)):vC K mg x (.int i):=⟨.int i,.int i t,hm,⟨t,rfl⟩,fun F=>by simp only[bC]⟩
def bP6(K:W.Frag):Sp:=fun vs H Q _=>∃(a:Addr) (ns:List Int) (F:Hp),vs= [.ref a]/\mE F H/\bF F H/\dO K F a (ns.map V.int)/\ns.length<=63/\ ∀H',Q (.bl true) H'
theorem dB1:∀ns:List Int,DatL K F (ns.map .int) (ns.map V.int)
 | []=>DatL.nil
 |n::r=>DatL.cons (by simp only[bC]) (dB1 r)
theorem fR1{f:Addr}(F:cS P w K mg base dA k f fd ps (kF K m))
 (hm:∀ns:List Int,ns.length<=63->m [.lst (ns.map .int)]= .ok (.bl true)):cS P w K mg base dA k f fd ps (bP6 K):=F.imp fun vs H Q E ⟨a,ns,Fa,e,ti,sb,hS,hl,q⟩=>by
 subst e
 refine⟨Fa,[.lst (ns.map .int)],ti,sb,DatL.cons (by simp only[bC];exact⟨a,_,rfl,hS,dB1 ns⟩) DatL.nil,?_⟩
 rw[hm ns hl]
 intro v F' H' g d
 simp only[bC]at d
 subst d
 exact q H'
noncomputable def fF:Expr->Bool
 | .Starred _ _=>true
 |_=>false
theorem dN(h:fF e=false):starEach (e::es) env=(false,eval e env)::starEach es env:=by
 cases e<;>first|rfl| (exact noConfusion h)
def cX(es:List Expr):Bool:=es.all fun e=> !fF e
theorem kP:∀{es:List Expr},cX es=true->(backTo pos (starEach es env)).any (·.1)=false
 | [],_=>rfl
 |e::es,h=>by
  unfold cX at h
  rw[all_cons,and_eq_true]at h
  rw[dN (by simpa using h.1)]
  show(false||(backTo pos (starEach es env)).any (·.1))=false
  rw[Bool.false_or]
  exact kP h.2
theorem bA4:∀{es:List Expr},cX es=true->(backTo pos (starEach es env)).all (fun x=> !x.1)=true
 | [],_=>rfl
 |e::es,h=>by
  unfold cX at h
  rw[all_cons,and_eq_true]at h
  rw[dN (by simpa using h.1)]
  show(true&&(backTo pos (starEach es env)).all fun x=> !x.1)=true
  rw[Bool.true_and]
  exact bA4 h.2
structure hJ(N:List Str)(sc:Scope)(i:Nat)(x:Str):Prop where
 n:N[i]? =some x
 v:sc.names.lookup x=some .local\/sc.names.lookup x=some .cell\/sc.names.lookup x=some .free
 d:(x==("__debug__" :Str))=false
 c:(x==("__classdict__" :Str))=false
section
variable{a b c o:Expr}{g h:ME}
theorem gJ(h:hJ X.N X.env.scope i x):IE X (.Name x pos) (gv i):=fI5 i (nK h.n h.v h.d h.c)
theorem dB2{x j}(hx:Nat.ble x.length sizeLine=true):IE X (.Constant (.str x) j pos) (kc (.str x)):=fI7 (Nat.le_of_ble_eq_true hx)
theorem jR{r:MA}(hs:fF e=false)(ha:IE X e f)(hr:IA X es r):IA X (e::es) (aC f r):=bO6 ha hr (dN hs)
theorem qX(C:sL X.prog X.w X.K X.mg X.base k x m)(hr:dH k X.A)(hg:X.env.scope.names.lookup x=some .globalImplicit)(hn:cX (e::es)=true)(hd:(x==("__debug__" :Str))=false)(ha:IA X (e::es) fa):
 IE X (.Call (.Name x p) (e::es) [] pos) (mA m fa):=by
 have h1:fF e=false/\cX es=true:=by
  unfold cX at hn
  rw[all_cons,and_eq_true]at hn
  exact⟨by simpa using hn.1,hn.2⟩
 exact fJ7 (sL.of C) hr hg ha hd (dN h1.1) (kP h1.2)
theorem cD8{id:String}{r:List V->Hp->VK->Prop}(hc:gM X (.builtin id) r)(ho:zV X r m)(hg:X.env.scope.names.lookup x=some .globalImplicit)(hm:X.mg x=none)(hv:bootBuiltins x=some (.builtin id))(hn:cX (e::es)=true)
 (hd:(x==("__debug__" :Str))=false) (hnm:(x==("__name__" :Str))=false) (ha:IA X (e::es) fa):IE X (.Call (.Name x p) (e::es) [] pos) (mA m fa):=by
 have h1:fF e=false/\cX es=true:=by
  unfold cX at hn
  rw[all_cons,and_eq_true]at hn
  exact⟨by simpa using hn.1,hn.2⟩
 exact fJ5 hc ho hg hm hv ha (by intro z;rw[z]at hnm;simp at hnm) hd (dN h1.1) (kP h1.2)
theorem dB3{id:String}{r:List V->Hp->VK->Prop}(hc:gM X (.type id) r)(ho:zV X r m)(hg:X.env.scope.names.lookup x=some .globalImplicit)(hm:X.mg x=none)(hv:bootBuiltins x=some (.type id))(hn:cX (e::es)=true)
 (hd:(x==("__debug__" :Str))=false) (hnm:(x==("__name__" :Str))=false) (ha:IA X (e::es) fa):IE X (.Call (.Name x p) (e::es) [] pos) (mA m fa):=by
 have h1:fF e=false/\cX es=true:=by
  unfold cX at hn
  rw[all_cons,and_eq_true]at hn
  exact⟨by simpa using hn.1,hn.2⟩
 exact fJ6 hc ho hg hm hv ha (by intro z;rw[z]at hnm;simp at hnm) hd (dN h1.1) (kP h1.2)
theorem cD9{T:String}{tn:Str}(hk:nU X.K T)(hs:fF a=false)(hg:X.env.scope.names.lookup ("isinstance" :Str)=some .globalImplicit)(hm:X.mg "isinstance" =none)(hg2:X.env.scope.names.lookup tn=some .globalImplicit)(hm2:X.mg tn=none)(hv:bootBuiltins tn=some (.type T))
 (hd:(tn==("__debug__" :Str))=false) (hnm:(tn==("__name__" :Str))=false) (ha:IE X a f):IE X (.Call (.Name "isinstance" p) [a,.Name tn p1] [] pos) (m1 (fY T) f):=
 fP8 hk ha hg hm hg2 hm2 hv (by intro z;rw[z]at hnm;simp at hnm) hd (dN hs)
theorem xT{d:D}(hg:X.env.scope.names.lookup x=some .globalImplicit)(C:vC X.K X.mg x d)(hd:(x==("__debug__" :Str))=false):IE X (.Name x pos) (kc d):=fP9 hg C hd
theorem dB4{m:Str->List D->bA D}{name:Str}{id:String}(slot:PySem.Slot "str" name id)(hty:typeOf (.builtin id)=pure (.type "method_descriptor"))(hm:xI X id (rMe X m))(hn:cX (e::es)=true)(hl:Nat.blt ((e::es).length) 30=true)(hline:(apos.endLine==pos.line)=true)
 (hbase:attributeBase o name X.env (eval o X.env)=eval o X.env) (ho:IE X o f) (ha:IA X (e::es) fa):IE X (.Call (.Attribute o name apos) (e::es) [] pos) (pQ m f fa):=by
 have h1:fF e=false/\cX es=true:=by
  unfold cX at hn
  rw[all_cons,and_eq_true]at hn
  exact⟨by simpa using hn.1,hn.2⟩
 refine fQ2 slot hty hm ho ha hbase ?_ hline (dN h1.1) (kP h1.2)
 rw[bA4 hn]
 have hl':(e::es).length<30:=Nat.le_of_ble_eq_true hl
 show(true&&true&&decide ((e::es).length+0+(if([]:List Keyword).isEmpty then 0 else 1)<30))=true
 simp only[List.isEmpty_nil,if_true,Bool.true_and]
 exact decide_eq_true bD
theorem fR2(hg:X.env.scope.names.lookup ("range" :Str)=some .globalImplicit)(hm:X.mg "range" =none)(hs:fF a=false)(hi:IE X a f):II X tg (.Call (.Name "range" p) [a] [] pos) (jG f):=
 fN9 hg hm hi (by rw[dN hs];rfl)
noncomputable def sM:Expr->Bool
 | .ListComp _ _ _ _=>true
 | .SetComp _ _ _ _=>true
 | .DictComp _ _ _ _ _=>true
 |_=>false
theorem sN{t:Option Expr}{l:Nat}(h:sM e=false):swapsWith e t l env=pure false:=by
 cases e<;>first|rfl| (exact noConfusion h)
theorem fR3(hN:X.N.Nodup)(hi:X.N[i]? =some x)(hx:Loc X.env.scope x)(hs:sM e=false)(hf:X.fn x=true\/X.env.scope.names.lookup x=some .local)(he:IE X e f):IS X (.Assign [.Name x p] e pos) (bU i f):=
 cW8 (fun t h=>zN (i:=i) hN hi hx h (sN hs) hf) he
theorem fR4(hs:sM e=false)(he:IE X e f):IS X (.Expr e pos) (xO f):=fK7 he (sN hs)
theorem fR5{st:Stmt}:IS X st fun _=>.bad:=fun Fa Ha pc s Y H E I ⟨O,F,S,q⟩=>q.elim
end
variable [dF] [Pd]
section
variable{a b c o:Expr}{g h:ME}
noncomputable def bP7:Expr->Bool
 | .Name _ _=>true
 | .Constant (.int _) _ _=>true
 | .BinOp _ _ _ _=>true
 | .UnaryOp _ _ _=>true
 | .Call _ _ _ _=>true
 | .Subscript _ _ _=>true
 | .Attribute _ _ _=>true
 |_=>false
theorem dB5(h:bP7 b=true):bN8 b:=by
 cases b<;>first
  | (exact noConfusion h)
  | (intro _ _;rfl)
  | (rename_i k _ _;cases k<;>first| (exact noConfusion h)| (intro _ _;rfl))
theorem qG(hs:bP7 b=true)(ha:IE X a f)(hb:IE X b g):IE X (.Subscript a b pos) (m2 bS f g):=fN2 ha hb (dB5 hs)
noncomputable def cE0:Expr->Bool
 | .Name _ _=>true
 | .Call _ _ _ _=>true
 | .Subscript _ _ _=>true
 | .Attribute _ _ _=>true
 | .BinOp _ _ _ _=>true
 |_=>false
theorem fR6(h:cE0 a=true):∀whole,isTrue a env whole=(do let v <-whole;standAt a.pos;holding [v] (truthy v)):=by
 cases a<;>first
  | (exact noConfusion h)
  | (intro _;rfl)
theorem qH(hs:cE0 a=true)(ha:IE X a f):IT X a (mT f):=fK0 ha (fR6 hs)
noncomputable def xU:Expr->Bool
 | .Name _ _=>true
 | .Call _ _ _ _=>true
 | .Subscript _ _ _=>true
 | .BinOp _ _ _ _=>true
 | .ListComp _ _ _ _=>true
 | .Tuple _ _ _=>true
 | .List _ _=>true
 |_=>false
theorem wE(h:xU a=true):∀x,foldedSetIterable a env x=pure x:=by
 cases a<;>first
  | (exact noConfusion h)
  | (intro _;rfl)
end
end
section
variable [dF] [Pd]
section
variable{a b c:Expr}{g h:ME}
theorem dB6(h:n<2^64):n.log2<1920:=by
 by_cases h0:n=0
 ·subst h0;decide
 ·have:=(Nat.log2_lt h0).mpr h
  omega
theorem fR7:gM X (.type "str") (qE X mI):=by
 intro pc s Y H xs us Q I r h
 obtain⟨F,ds,sb,hl,q⟩:=h
 unfold mI at q
 split at q
 ·obtain⟨x,rfl,hx⟩:=lB hl
  simp only[bC]at hx;subst hx
  split at q
  ·rename_i hi
   exact fC4 pc s Y H _ us Q I r ⟨_,rfl,dB6 hi,cL q sb (by simp only[bC];exact⟨trivial,int_text_fits (dB6 hi)⟩)⟩
  ·exact q.elim
 ·obtain⟨x,rfl,hx⟩:=lB hl
  have hx':=hx
  simp only[bC]at hx;obtain⟨rfl,hz⟩:=hx
  obtain⟨u,rfl,ru⟩:=nL r
  obtain⟨t,rfl⟩:=ru
  exact PySem.P.str_of_str ⟨.str _,H,I,⟨_,rfl⟩,cL q sb hx'⟩
 ·exact q.elim
noncomputable def jS:D->D->bA D
 | .int i,.int j=>.ok (.bl (!(i==j)))
 | .str x,.str y=>.ok (.bl (!(x==y)))
 |_,_=>.bad
theorem fR8:cQ X (compareOp .NotEq) (rD X jS):=by
 intro pc s Y H x y v u Q I rx ry h
 obtain⟨F,d1,d2,sb,h1,h2,q⟩:=h
 cases d1<;>cases d2<;>try exact q.elim
 ·rename_i i j
  simp only[bC]at h1 h2;subst h1 h2
  refine cS4 pc s Y H _ _ v u Q I rx ry ⟨rfl,?_⟩
  have e:(!decide ((V.int i)=V.int j))= !(i==j):=by
   by_cases q:i=j
   ·subst q;simp
   ·simp[q]
  first| (rw[e];exact cL q sb (by simp only[bC]))|skip
 ·rename_i i j
  simp only[bC]at h1 h2;obtain⟨rfl,_⟩:=h1;obtain⟨rfl,_⟩:=h2
  refine cS4 pc s Y H _ _ v u Q I rx ry ⟨rfl,?_⟩
  have e:(!decide ((V.str i)=V.str j))= !(i==j):=by
   by_cases q:i=j
   ·subst q;simp
   ·simp[q]
  first| (rw[e];exact cL q sb (by simp only[bC]))|skip
def qY(i j:Nat)(f:ME):MS:=fun O=>(f O).bind fun d=>match d with
 | .tup [x,y]=>.ok (.nx ((O.set i (.val x)).set j (.val y)))
 |_=>.bad
theorem fR9(hp:∀t,PE X e t->PS X (.Assign [.Tuple [.Name x px,.Name y py] k pt] e pos) (bF7 t (zM X.K 2 (qW (mC i) (qW (mC j) zL)))))(he:IE X e f):
 IS X (.Assign [.Tuple [.Name x px,.Name y py] k pt] e pos) (qY i j f):=fun Fa Ha=>kE (hp _ he) fun E Y H q=>
 bO9 (k:=fun d O=>match d with| .tup [x,y]=>.ok (.nx ((O.set i (.val x)).set j (.val y)))|_=>.bad) (fun O F H d v S r q=>by
  cases d with
  |tup ds=>
   cases ds with
   |nil=>exact q.elim
   |cons d1 ds=>
    cases ds with
    |nil=>exact q.elim
    |cons d2 ds=>
     cases ds with
     |cons _ _=>exact q.elim
     |nil=>
      simp only[bC]at r
      obtain⟨p,xs,rfl,g1,l1⟩:=r
      simp only[DatL]at l1
      obtain⟨x1,r1,rfl,h1,x2,r2,rfl,h2,rfl⟩:=l1
      exact⟨p,_,rfl,bF.seqT S.env.sub g1,rfl,x1,_,rfl,x2,_,rfl,rfl,q _ F H ((S.set i h1).set j h2)⟩
  |_=>exact q.elim) q
theorem fS0(hc:X.calm=true)(hN:X.N.Nodup)(hi:X.N[i]? =some x)(hx:Loc X.env.scope x)(hj:X.N[j]? =some y)(hy:Loc X.env.scope y)
 (hf:X.fn x=true\/X.env.scope.names.lookup x=some .local) (hf':X.fn y=true\/X.env.scope.names.lookup y=some .local)
 (h1:(assignEach [.Name x px,.Name y py] X.env).length=2) (h2:(assignEach [.Name x px,.Name y py] X.env).findIdx? (·.1)=none)
 (h3:(assignEach [.Name x px,.Name y py] X.env).map (·.2)=assign (.Name x px) X.env::(assignEach [.Name y py] X.env).map (·.2))
 (h4:(assignEach [.Name y py] X.env).map (·.2)=assign (.Name y py) X.env::(assignEach [] X.env).map (·.2))
 (hs:swapsWithSole [.Tuple [.Name x px,.Name y py] k pt] e pos.line X.env=pure false) (hw:swappedStores [.Tuple [.Name x px,.Name y py] k pt] e X.env=pure none)
 (h5:(assignEach [.Tuple [.Name x px,.Name y py] k pt] X.env).map (·.2)= [assign (.Tuple [.Name x px,.Name y py] k pt) X.env]) {t:TE} (he:PE X e t):
 PS X (.Assign [.Tuple [.Name x px,.Name y py] k pt] e pos) (bF7 t (zM X.K 2 (qW (mC i) (qW (mC j) zL)))):=
 dY0 he (cR8 hc (bN5 (xD hN hi hx hf) (bN5 (xD hN hj hy hf') cR7 h4) h3) h1 h2) hs hw h5
theorem fS1(hc:X.calm=true)(hN:X.N.Nodup)(hi:X.N[i]? =some x)(hx:Loc X.env.scope x)(hj:X.N[j]? =some y)(hy:Loc X.env.scope y)
 (hf:X.fn x=true\/X.env.scope.names.lookup x=some .local) (hf':X.fn y=true\/X.env.scope.names.lookup y=some .local)
 (hs:swapsWithSole [.Tuple [.Name x px,.Name y py] k pt] e pos.line X.env=pure false) (hw:swappedStores [.Tuple [.Name x px,.Name y py] k pt] e X.env=pure none) (he:IE X e f):
 IS X (.Assign [.Tuple [.Name x px,.Name y py] k pt] e pos) (qY i j f):=
 fR9 (fun t ht=>fS0 hc hN hi hx hj hy hf hf' rfl rfl rfl rfl hs hw rfl ht) he
end
noncomputable def spG(K:W.Frag)(c:List (Addr×HO))(m:List D->bA D):Sp:=fun vs H Q _=>∃F ds,mE F H/\bF F H/\(∀p∈c,F p.1=some p.2)/\DatL K F ds vs/\dB (bC K) F H (m ds) Q
structure qI(P:Program)(w:World)(K:W.Frag)(mg:Str->Option Value)(base:Heap)(n:Nat)(v:V)(c:List (Addr×HO))(m:List D->bA D):Prop where
 ex:∃(a:Addr) (fd:FuncData) (ps:List Str),v= .ref a/\((∃o fd',base.get? a=some o/\o.data= .func fd')\/keepIn K (.ref a)=true)/\cS P w K mg base dA n a fd ps (spG K c m)/\jK K fd ps []
theorem fS2{Q:VK}{E:XK}(h:spG K [] m vs H Q E):kF K m vs H Q E:=by
 obtain⟨F,ds,h1,h2,_,h3⟩:=h
 exact⟨F,ds,h1,h2,h3⟩
section
open Classical in
def wF(i:Nat)(v:V)(c:List (Addr×HO))(m:List D->bA D)(fa:MA):ME:=fun O=>if O[i]? =some (.is v c)then(fa O).bind m else .bad
theorem fS3{r:List V->Hp->VK->Prop}{g:Hp->Prop}(hg:∀F F',bF F F'->g F->g F')(hd:∀F H ds vs Q,mE F H->bF F H->g F->DatL X.K F ds vs->dB (bC X.K) F H (m ds) Q->r vs H Q){Q:VK}(E:gC X.K F H O Y)(gF:g F)
 (q:dB (bC X.K) F H ((fa O).bind m) Q):xK X fa Y H fun vs H1=>r vs H1 Q:=by
 refine⟨O,F,E,?_⟩
 have q1:=jF (R1:=DatL X.K) q
 revert q1
 cases fa O with
 |ok d=>exact fun q1 v F1 H1 g1 d1=>let ⟨F2,d',g2,d2,q2⟩:=q1 v F1 H1 g1 d1;hd F2 H1 d' v Q (g2.tk E.tb) g2.sub (hg _ _ g2.fs gF) d2 q2
 |ex _=>exact fun q1=>q1
 |bad=>exact fun q1=>q1
theorem fS4{c:List (Addr×HO)}(C:qI X.prog X.w X.K X.mg X.base n v c m)(hr:dH n X.A)(hv:hJ X.N X.env.scope i x)(hn:cX (e::es)=true)(ha:IA X (e::es) fa):
 IE X (.Call (.Name x p) (e::es) [] pos) (wF i v c m fa):=by
 obtain⟨a,fd,ps,rfl,hb,F,hbi⟩:=C.ex
 intro pc s Y H Q I q
 obtain⟨O,F0,E,q⟩:=q
 unfold wF at q
 split at q
 ·rename_i hi
  obtain⟨o',e1,rfl,hc⟩:=E.at_ i _ hi
  have hq:=fS3 (X:=X) (r:=fun vs H1 Q=>spG X.K c m (vs++ []) H1 Q E0) (g:=fun F=>∀p∈c,F p.1=some p.2) (fun F F' sm h p hp=>sm _ _ (h p hp))
   (fun F H ds vs Q ti sb g d q=>by rw[append_nil];exact⟨F,ds,ti,sb,g,d,q⟩) E hc q
  have hs:fF e=false/\cX es=true:=by
   unfold cX at hn
   rw[all_cons,and_eq_true]at hn
   exact⟨by simpa using hn.1,hn.2⟩
  refine wpAny_Call_Name_kw ?_
  refine bX (nK hv.n hv.v hv.d hv.c pc s Y H (fun v' H'=>v'= .ref a/\H'=H) I ⟨.ref a,e1,rfl,rfl⟩) fun u s1 ⟨v',H1,I1,r1,ev,eH⟩=>?_
  subst ev eH
  obtain rfl:u=Value.ref a:=r1
  rcases hb with⟨o,fd',hb,hd⟩|hk
  ·have fnat:∀{s':Shared} {σ':St} {H':Hp},bE X pc σ' H' s'->W.FnAt a s'.heap:=fun{s' σ' H'} I'=>by
    have h:=I'.bk a o hb
    obtain⟨oc,od,dt,sl⟩:=o
    simp only at hd;subst hd
    exact⟨oc,od,fd',sl,h⟩
   refine W.callWith_F (fnat I1) (bX (ha pos pc s1 Y H1 _ I1 hq) fun us s2 ⟨vs,H2,I2,r,q2⟩=>⟨fnat I2,?_⟩) (dN hs.1) (kP hs.2)
   exact bG1 F hr hbi .nil rY I2 r q2
  ·refine W.callWith_K (h₀:=s1.heap) I1.kIn hk (bX (ha pos pc s1 Y H1 _ I1 hq) fun us s2 ⟨vs,H2,I2,r,q2⟩=>⟨I2.kIn,?_⟩) (dN hs.1) (kP hs.2)
   exact bG1 F hr hbi .nil rY I2 r q2
 ·exact q.elim
end
noncomputable def vE(n:Nat)(ds:List D)(v:V)(c:List (Addr×HO)):cU:=ds.map .val++(.is v c::replicate (n-ds.length-1) .no)
def bA5(k n:Nat)(v:V)(c:List (Addr×HO))(g:MS)(ds:List D):bA D:=if ds.length+1=k then(g (vE n ds v c)).bind bL else .bad
noncomputable def qJ(K:W.Frag)(v:V)(c:List (Addr×HO))(m:List D->bA D):Sp:=fun vs H Q _=>∃F ds vs0,vs=vs0++ [v]/\mE F H/\bF F H/\(∀p∈c,F p.1=some p.2)/\DatL K F ds vs0/\dB (bC K) F H (m ds) Q
theorem dB7{c:List (Addr×HO)}(i:Nat)(es:List D):(vE n ds v c)[i]? ≠some (.own es):=fun e=>by
 unfold vE at e
 have hm:=mem_of_getElem? e
 rcases List.mem_append.mp hm with h|h
 ·obtain⟨d,_,h⟩:=List.mem_map.mp h;cases h
 ·rcases List.mem_cons.mp h with h|h
  ·cases h
  ·have:=eq_of_mem_replicate h;cases this
theorem fS5{c:List (Addr×HO)}(ti:mE F H)(s:bF F H)(hc:∀p∈c,F p.1=some p.2)(r:DatL K F ds vs)(hN:ds.length+1<=N.length):gC K F H (vE N.length ds v c) (start N (vs++ [v])):=by
 have hl:=r.length
 refine⟨ti,s,?_,fun i sl e=>?_,fun i j es fs a _ e=>absurd e (dB7 i es)⟩
 ·unfold vE L2.start
  simp only[length_append,length_map,List.length_replicate,length_cons,length_nil]
  omega
 ·unfold vE at e
  unfold L2.start
  by_cases hi:i<ds.length
  ·rw[getElem?_append_left (by simpa using hi),getElem?_map]at e
   rw[getElem?_append_left (by simp;omega),getElem?_map,getElem?_append_left bD]
   cases q:ds[i]? with
   |none=>rw[q]at e;cases e
   |some d=>
    rw[q]at e;cases e
    obtain⟨x,h1,h2⟩:=pM r.paired q
    exact⟨some x,by rw[h1];rfl,x,rfl,h2⟩
  ·rw[getElem?_append_right (by simpa using hi)]at e
   simp only[length_map]at e
   by_cases h0:i=ds.length
   ·subst h0
    rw[Nat.sub_self]at e
    have e':Slot.is v c=sl:=by simpa using e
    subst e'
    refine⟨some v,?_,rfl,hc⟩
    rw[getElem?_append_left (by simp;omega),getElem?_map,getElem?_append_right bD,hl]
    simp
   ·obtain⟨j,hj⟩:∃j,i-ds.length=j+1:=⟨i-ds.length-1,by omega⟩
    rw[hj,List.getElem?_cons_succ,List.getElem?_replicate]at e
    split at e
    ·cases e
     rename_i hz
     refine⟨none,?_,trivial⟩
     rw[getElem?_append_right (by simp;omega),List.getElem?_replicate]
     simp only[length_map,length_append,length_cons,length_nil]
     rw[if_pos bD]
    ·cases e
theorem fS6{st:Stmt}{f:Addr}{g:MS}{c:List (Addr×HO)}(F:fU K x qual st f fd)(S:kY N ps (cR st))(hN:ps.length<=N.length)
 (hbody:∀(cdv:Value) (A:Around) (outer:List Env) (s:Shared) (H:Hp) (E:XK),dH k (A.deeper (envOfC qual (cR st) s.heap.objs.size f cdv))->
   kM (rX dA P w K mg base N qual (cR st) f cdv A outer s H E).nox (kD st) g):cS P w K mg base dA (k+1) f fd ps (qJ K v c (bA5 ps.length N.length v c g)):=by
 refine F.ok S (fun vs H Q E h=>?_) (fun cdv A outer s H vs Q E hr h=>?_)
 ·obtain⟨F,ds,vs0,rfl,_,_,_,r,q⟩:=h
  unfold bA5 at q
  split at q
  ·rename_i e;rw[length_append, <-r.length];exact e
  ·exact q.elim
 ·obtain⟨F,ds,vs0,rfl,ti,s',hc,r,q⟩:=h
  unfold bA5 at q
  split at q
  ·rename_i e
   refine⟨_,hbody cdv A outer s H E hr F H,vE N.length ds v c,F,⟨.refl s',fS5 ti s' hc r bD,fun i es a e=>absurd e (dB7 i es),qD.none (fun s hs=>?_)⟩,?_⟩
   ·unfold vE at hs
    rcases List.mem_append.mp hs with h|h
    ·obtain⟨d,_,rfl⟩:=List.mem_map.mp h;rfl
    ·rcases List.mem_cons.mp h with rfl|h
     ·rfl
     ·rw[eq_of_mem_replicate h];rfl
   revert q
   cases g (vE N.length ds v c)with
   |ok fl=>
    intro q
    cases fl with
    |nx O=>exact fun Y F' H' S'=>q .non F' H' S'.gr (by simp only[bC])
    |rt d=>exact fun v F' H' g' r'=>q v F' H' g' r'
    |bk O=>exact q.elim
    |ct O=>exact q.elim
    |rr _ _=>exact q.elim
   |ex _=>exact fun q=>q
   |bad=>exact fun q=>q
  ·exact q.elim
noncomputable def bP8(P:Program)(w:World)(K:W.Frag)(mg:Str->Option Value)(base:Heap)(N:List Str)(qual:Str)(scope:Scope)(a:Addr)(cd:Value)(cl:List (Str×Addr))(A:Around)(outer:List Env)(s:Shared)(H:Hp):Cx where
 prog:=P
 w:=w
 K:=K
 mg:=mg
 base:=base
 A:=A.deeper (W.envX qual scope s.heap.objs.size a cd cl)
 N:=N
 s₀:=s
 Ha:=H
 env:=W.envX qual scope s.heap.objs.size a cd cl
 outer:=outer
 stack:=W.envX qual scope s.heap.objs.size a cd cl::outer
 ex:=[]
 fn:=fun _=>false
 calm:=true
 pn:=[]
 xe:=fun _ _=>False
noncomputable abbrev bH4(c':Addr)(qual:Str):List (Addr×HO):=[(c',.ext fun h=>h.CodeRec (.ref c') qual)]
noncomputable def kQ(i:Int)(g:ME):List D->bA D
 | [d]=>g [.val d,.val (.int i)]
 |_=>.bad
structure bH5(x y:Str)(scope:Scope):Prop where
 kind:scope.kind= .function
 co:scope.isCoroutine=false
 gen:scope.isGenerator=false
 nocell:∀z∈scope.names,z.2≠ .cell
 loc:scope.names.lookup x=some .local
 fr:scope.names.lookup y=some .free
 one:∀z,scope.names.lookup z=some .free->z=y
theorem fS7{name:Str}{params:Arguments}{body:Expr}{pm ctv:Value}{i:Int}{g:ME}
 (ho:base.get? a=some (W.kla_obj name qual params body scope [(y,cc)] pm c' ctv)) (hcell:base.IsCell cc (some (.int i t))) (S:bH5 x y scope)
 (hbody:∀(A:Around) (outer:List Env) (s:Shared) (H:Hp),dH n (A.deeper (W.envX qual scope s.heap.objs.size a (.ref c') [(y,cc)]))->IE (bP8 P w K mg base [x,y] qual scope a (.ref c') [(y,cc)] A outer s H) body g):
 cS P w K mg base dA (n+1) a (W.kla_fn name qual params body scope [(y,cc)] pm (.ref c') ctv) [x] (spG K (bH4 c' qual) (kQ i g)):=by
 have one:∀{vs:List V} {H:Hp} {Q:VK} {E:XK},spG K (bH4 c' qual) (kQ i g) vs H Q E->∃F d v,vs= [v]/\mE F H/\bF F H/\F c'=some (.ext fun h=>h.CodeRec (.ref c') qual)/\bC K F d v/\dB (bC K) F H (g [.val d,.val (.int i)]) Q:=fun{vs H Q E} h=>by
  obtain⟨F,ds,ti,sb,hc,dl,q⟩:=h
  unfold kQ at q
  split at q
  ·obtain⟨v,rfl,hv⟩:=lB dl
   exact⟨F,_,v,rfl,ti,sb,hc _ mem_cons_self,hv,q⟩
  ·exact q.elim
 refine⟨fun vs H Q E h=>?_,fun A outer s H args us vs Q E hr e0 hb r hsp=>?_⟩
 ·obtain⟨F,d,v,rfl,_⟩:=one h
  rfl
 obtain⟨F,d,v,rfl,ti,sb,hc,hv,q⟩:=one hsp
 obtain⟨u,rfl,ru⟩:∃u,us= [u]/\cG v u:=by
  cases r with
  |cons r1 r2=>cases r2;exact⟨_,rfl,r1⟩
 have hcode:s.heap.CodeRec (.ref c') qual:=(e0.hok c' _ (sb _ _ hc)).1
 have lim:s.heap.NoLimit:=e0.mod.nolimit.keeps fun b o e=>(e0.bs b o e).1
 refine W.kla_callFunE hr.depth (e0.bs a _ ho).1 rfl S.co S.gen rfl hcode (hb _ _ _ _ ?_)
 refine wpAny_newFunctionEnv S.nocell (fun z hz=>?_) (fun h₁ hns hsb=>⟨lim.fresh _ hsb,?_⟩) S.kind
 ·obtain rfl:z=(x,u):=by simpa using hz
  exact S.loc
 show codeAny _ _ (.expr body (W.envX qual scope s.heap.objs.size a (.ref c') [(y,cc)])) _ _
 have hk₁:∀b o,s.heap.get? b=some o->h₁.get? b=some o:=fun b o e=>hsb.extBut b o (ne_of_lt (lt_size e)) (get?_push_of_some _ e)
 have hcl:∀z c,([(y,cc)]:List (Str×Addr)).lookup z=some c->z=y/\c=cc:=fun z c e=>by
  rw[lookup_cons]at e
  split at e
  ·rename_i hz
   exact⟨eq_of_beq hz,(Option.some.inj e).symm⟩
  ·cases e
 have hyl:([(y,cc)]:List (Str×Addr)).lookup y=some cc:=by rw[lookup_cons,beq_self_eq_true]
 obtain⟨oc,hoc,hdc⟩:=hcell
 have hc₀:=e0.bs cc oc hoc
 have I:bE (bP8 P w K mg base [x,y] qual scope a (.ref c') [(y,cc)] A outer s H) [] [some v,some (.int i)] H {s with heap:=h₁,toks:=s.toks+1}:=by
  have noA:∀b:Addr,b∉(bP8 P w K mg base [x,y] qual scope a (.ref c') [(y,cc)] A outer s H).ex:=fun b z=>absurd (show b∈([]:List Addr)from z) (by simp)
  refine⟨⟨e0.mod,S.kind,rfl,rfl,le_refl _,fun y' z c h1 h2=>?_,fun y' hy=>?_,fun y' c hf _=>?_,fun _=>hr.hd,Around.frames_deeper e0.frames,.inr ⟨rfl,rfl⟩,fun b z=>absurd z (noA b),e0.bs,e0.bsz,fun b _ _=>noA b,fun b z=>absurd z (noA b),e0.funs,e0.frf⟩,
   rfl,e0.bare,Un.kept hk₁,⟨_,hns,fun j z v' h1 h2 h3=>?_⟩,fun y' c h=>?_,e0.hok.fresh (le_refl _),fun y' c h=>?_,fun p hp=>absurd (show p∈([]:List (Addr×Obj))from hp) (by simp),e0.hok.kept hk₁,rfl⟩
  ·exact(hcl y' c h1).1.trans (hcl z c h2).1.symm
  ·have hy':scope.names.lookup y'=some .cell\/scope.names.lookup y'=some .free:=hy
   rcases hy' with q|q
   ·exact absurd rfl (S.nocell _ (PySem.mem_of_lookup q))
   ·rw[S.one y' q];exact⟨cc,hyl⟩
  ·cases hf
  ·match j,h1,h2 with
   |0,h1,h2=>
    have e1:x=z:=Option.some.inj h1
    have e2:v=v':=by simpa using h2
    subst e1 e2
    refine⟨u,ru,.inl ⟨S.loc,?_⟩⟩
    simp
   |1,h1,h2=>
    have e1:y=z:=Option.some.inj h1
    have e2:V.int i=v':=by simpa using h2
    subst e1 e2
    exact⟨.int i t,⟨t,rfl⟩,.inr ⟨.inr S.fr,cc,hyl,oc,hk₁ _ _ hc₀.1,hdc⟩⟩
   |j+2,h1,h2=>cases h1
  ·obtain⟨_,rfl⟩:=hcl y' c h
   exact⟨_,oc,hk₁ _ _ hc₀.1,hdc⟩
  ·obtain⟨_,rfl⟩:=hcl y' c h
   exact hc₀.2
 have En:gC K F H [.val d,.val (.int i)] [some v,some (.int i)]:=by
  refine⟨ti,sb,rfl,fun j s' e=>?_,fun j k es fs b _ e=>?_⟩
  ·match j,e with
   |0,e=>cases e;exact⟨_,rfl,v,rfl,hv⟩
   |1,e=>cases e;exact⟨_,rfl,_,rfl,by simp only[bC]⟩
  ·match j,e with
   |0,e=>cases e
   |1,e=>cases e
 refine W.kla_codeExpr (wpAny_mono (hbody A outer s H (hr.deeper _) [] _ _ H Q I ⟨_,F,En,q⟩) (fun u' s' ⟨v',H',J,rv,q'⟩=>?_) fun _ _ z=>z.elim)
 exact⟨v',H',J.os,J.bare,J.base,J.hok,rv,q'⟩
section
theorem dB8{h1 h2:Heap}(x:h1.CodeRec (.ref c') q)(k:∀o,h1.get? c'=some o->h2.get? c'=some o):h2.CodeRec (.ref c') q:=by
 obtain⟨c,o,vs,t,e,ho,r⟩:=x
 cases e
 exact⟨c',o,vs,t,rfl,k o ho,r⟩
theorem fS8{h1:Heap}(x:h1.CodeRec (.ref c') q):∃o,h1.get? c'=some o:=by
 obtain⟨c,o,vs,t,e,ho,r⟩:=x
 cases e
 exact⟨o,ho⟩
theorem fS9{c Pt:Addr}{lbody:Expr}{lpos:Pos}{lq:Str}(I:bE X pc Y H s)(ti:qB H)(hL:(Pt,lpos,lq)∈dF.L)
 (hcode:X.env.code= .ref c) (hhd:W.CodeHd X.base c Pt) (hq:X.env.qual++ "<lambda>" =lq) (hbl:X.base.BuiltinsAt X.mg Pt) (hdef:defaultsOf lps X.env=([],[])) (hcl:closureFor lsc X.env=pure clos)
 (h:∀a c' ctv H1 s1,bE X pc Y H1 s1->s.heap.objs.size<=a->H1 a=none->s1.heap.get? a=some (W.kla_obj "<lambda>" lq lps lbody lsc clos ((X.mg "__name__").getD .none) c' ctv)->H1 c'=some (.ext fun h=>h.CodeRec (.ref c') lq)->
   cB7 H H1->(∀b,H b≠none->H1 b≠none)->qB H1->(∀F:Hp,bF F H->(∀b ps,F b≠some (.tbl ps))->bF F H1)->Q (.ref a) s1):
 wpAny (model X.prog X.w) X.A (eval (.Lambda lps lbody lsc lpos) X.env) Q E s:=by
 obtain⟨ps,hPt,htr,hcs⟩:=ti _ hL
 have hP:s.heap.get? Pt=some (W.tabObj ps):=I.hok Pt _ hPt
 have hg:s.heap.Ns mainGlobals X.mg:=I.mod.glob.keeps I.bk
 have hb:s.heap.BuiltinsAt X.mg Pt:=by
  obtain⟨bm,o,h1,h2,h3,h4,h5,h6⟩:=hbl
  exact⟨bm,o,h1,h2,h3,h4,I.bk _ _ h5,h6⟩
 have hgP:mainGlobals≠Pt:=fun z=>by
  obtain⟨o,es,ep,e,_⟩:=I.mod.glob
  have:=(I.bs _ _ e).2
  rw[z,hPt]at this;cases this
 refine W.kla_eval hdef ?_
 rw[hq]
 rcases hcs with hcs|⟨c',hcs,hc'⟩
 ·refine W.kla_makeFunction hcl I.ok.glob hg hcode (hhd.keeps I.bk) hP htr hcs hgP hb fun c' ctv h' tk hx hge hlt hrec htb=>?_
  have hPs:Pt<s.heap.objs.size:=lt_size hP
  have hPc:Pt≠c':=ne_of_lt (lt_of_lt_of_le hPs hge)
  have hfr:H c'=none:=I.hok.fresh hge
  have hsz:s.heap.objs.size<=h'.objs.size:=by omega
  have hH1P:upd (upd H Pt (.tbl (ps++ #[rawInt lpos.line,rawInt lpos.col,.ref c']))) c' (.ext fun h=>h.CodeRec (.ref c') lq) Pt=some (.tbl (ps++ #[rawInt lpos.line,rawInt lpos.col,.ref c'])):=by rw[cK hPc,dY]
  have oth:∀b,b≠Pt->b≠c'->upd (upd H Pt (.tbl (ps++ #[rawInt lpos.line,rawInt lpos.col,.ref c']))) c' (.ext fun h=>h.CodeRec (.ref c') lq) b=H b:=fun b h1 h2=>by rw[cK h2,cK h1]
  have nP:∀b u,bO1 u=true->H b=some u->b≠Pt:=fun b u n e z=>by rw[z,hPt]at e;cases e;cases n
  have nC:∀b u,H b=some u->b≠c':=fun b u e z=>by rw[z,hfr]at e;cases e
  have sx:cB7 H (upd (upd H Pt (.tbl (ps++ #[rawInt lpos.line,rawInt lpos.col,.ref c']))) c' (.ext fun h=>h.CodeRec (.ref c') lq)):=fun b u n e=>by rw[oth b (nP b u n e) (nC b u e)];exact e
  have mr:∀b,H b≠none->upd (upd H Pt (.tbl (ps++ #[rawInt lpos.line,rawInt lpos.col,.ref c']))) c' (.ext fun h=>h.CodeRec (.ref c') lq) b≠none:=fun b n=>by
   by_cases z:b=c'
   ·subst z;rw[dY];simp
   ·by_cases z2:b=Pt
    ·subst z2;rw[hH1P];simp
    ·rw[oth b z2 z];exact n
  have un:Un X.fs [] H (upd (upd H Pt (.tbl (ps++ #[rawInt lpos.line,rawInt lpos.col,.ref c']))) c' (.ext fun h=>h.CodeRec (.ref c') lq)) s.heap (h'.push (W.kla_obj "<lambda>" lq lps lbody lsc clos ((X.mg "__name__").getD .none) c' ctv)):=by
   refine⟨fun b o e n _ _=>?_,fun b o e n _ _=>⟨o.slots,?_⟩,fun b o e n _=>?_,fun b o e _=>?_,fun b xs e=>sx _ _ rfl e,fun b o u e=>sx _ _ rfl e,fun b ps0 e=>?_⟩
   ·exact get?_push_of_some _ (hx b o (fun z=>by rw[z,hPt]at n;cases n) e)
   ·exact get?_push_of_some _ (hx b o (fun z=>by rw[z,hPt]at n;cases n) e)
   ·rw[oth b (fun z=>by rw[z,hPt]at n;cases n) (ne_of_lt (lt_of_lt_of_le (lt_size e) hge))];exact n
   ·by_cases z:b=Pt
    ·subst z;exact⟨_,get?_push_of_some _ htb⟩
    ·exact⟨o,get?_push_of_some _ (hx b o z e)⟩
   ·by_cases z:b=Pt
    ·subst z;rw[hPt]at e;cases e;exact⟨_,hH1P⟩
    ·exact⟨#[],by rw[oth b z (nC b _ e),e];simp⟩
  have hok:jE X.prog X.w (upd (upd H Pt (.tbl (ps++ #[rawInt lpos.line,rawInt lpos.col,.ref c']))) c' (.ext fun h=>h.CodeRec (.ref c') lq)) (h'.push (W.kla_obj "<lambda>" lq lps lbody lsc clos ((X.mg "__name__").getD .none) c' ctv)):=by
   intro b o e
   by_cases z:b=c'
   ·subst z
    rw[dY]at e;cases e
    have hr2:=dB8 (h2:=h'.push (W.kla_obj "<lambda>" lq lps lbody lsc clos ((X.mg "__name__").getD .none) b ctv)) hrec fun o q=>get?_push_of_some _ q
    exact⟨hr2,fS8 hr2,fun h1 h2 x k=>dB8 x k⟩
   ·by_cases z2:b=Pt
    ·subst z2
     rw[hH1P]at e;cases e
     exact get?_push_of_some _ htb
    ·rw[oth b z2 z]at e
     refine(I.hok b o e).stay (fun d u hd q=>get?_push_of_some _ (hx d u ?_ q)) (fun d q=>sx _ _ rfl q) fun d xs q=>sx _ _ rfl q
     rcases hd with hd|hd
     ·exact fun y=>z2 (hd.symm.trans y)
     ·exact fun y=>by rw[y,hPt]at hd;cases hd
  refine h _ c' ctv _ _ (I.un un hok) hsz ?_ (get?_push_size _ rfl) dY sx mr (fun t ht=>?_) fun F sF nF b u e=>?_
  ·rw[oth _ (ne_of_gt (lt_of_lt_of_le hPs hsz)) (ne_of_gt hlt)]
   exact I.hok.fresh hsz
  ·by_cases z:t=(Pt,lpos,lq)
   ·subst z
    refine⟨_,hH1P,?_,.inr ⟨c',?_,dY⟩⟩
    ·rw[Array.toList_append]
     exact TriplesOk_snoc _ _ _ _ htr
    ·rw[Array.toList_append]
     exact codeAmong_snoc _ htr hcs
   ·have z1:t.1≠Pt:=fun y=>z (dF.ap t ht _ hL y)
    obtain⟨ps2,e2,o2,q2⟩:=ti t ht
    refine⟨ps2,by rw[oth _ z1 (nC _ _ e2)];exact e2,o2,?_⟩
    rcases q2 with q2|⟨d,q3,q4⟩
    ·exact .inl q2
    ·exact .inr ⟨d,q3,sx _ _ rfl q4⟩
  ·exact sx b u (by
    cases u with
    |tbl ps=>exact absurd e (nF b ps)
    |_=>rfl) (sF b u e)
 ·refine W.kla_makeFunctionHit hcl I.ok.glob hg hcode (hhd.keeps I.bk) hP htr hcs hb fun ctv h' tk hk hsz=>?_
  exact h _ c' ctv H _ (I.kept fun b u e=>get?_push_of_some _ (hk b u e)) hsz (I.hok.fresh hsz) (get?_push_size _ rfl) hc' (fun _ _ _ e=>e) (fun _ n=>n) ti fun F sF _=>sF
end
noncomputable def cE1(base:Heap)(a cc:Addr):Hp:=fun b=>if(base.get? b).isSome=true\/b=a\/b=cc then none else some (.own 0)
def baseB(h base:Heap)(a cc:Addr):Heap:=rR h (cE1 base a cc)
theorem cE2{b:Addr}{o:Obj}(e:h.get? b=some o)(k:(base.get? b).isSome=true\/b=a\/b=cc):(baseB h base a cc).get? b=some o:=
 cQ6 e (by unfold cE1;rw[if_pos k])
theorem dB9{b:Addr}{o:Obj}(e:(baseB h base a cc).get? b=some o):h.get? b=some o/\((base.get? b).isSome=true\/b=a\/b=cc):=by
 obtain⟨e1,e2⟩:=cQ7 e
 refine⟨e1,?_⟩
 unfold cE1 at e2
 split at e2
 ·rename_i k;exact k
 ·cases e2
theorem fT0{b:Addr}(h1:base.get? b=none)(h2:b≠a)(h3:b≠cc):(baseB h base a cc).get? b=none:=by
 cases e:(baseB h base a cc).get? b with
 |none=>rfl
 |some o=>
  rcases(dB9 e).2 with k|k|k
  ·rw[h1]at k;cases k
  ·exact absurd k h2
  ·exact absurd k h3
theorem dC0:∀{l:List Env},h.FunFrames base l->(∀b∈lI l,b≠a/\b≠cc)->h.FunFrames (baseB h base a cc) l
 | [],_,_=>trivial
 |env::rest,⟨h1,⟨L,o,e1,e2,e3,e4⟩,h3⟩,k=>by
  have hm:L∈lI (env::rest):=List.mem_filterMap.mpr ⟨env,mem_cons_self,e1⟩
  refine⟨h1,⟨L,o,e1,fT0 e2 (k L hm).1 (k L hm).2,e3,e4⟩,dC0 h3 fun b hb=>k b ?_⟩
  obtain⟨en,h1,h2⟩:=List.mem_filterMap.mp hb
  exact List.mem_filterMap.mpr ⟨en,mem_cons_of_mem _ h1,h2⟩
section
variable{H0:Hp}{s0:Shared}
theorem fT1{oa:Obj}{u:Option Value}(I0:bE X pc Y H0 s0)(I:bE X pc Y H s)(hge:s0.heap.objs.size<=a)(ha:s.heap.get? a=some oa)(hn:H a=none)(hy:X.env.cells.lookup y=some cc)(hf:X.fn y=true)(hc:s.heap.IsCell cc u):
 vX X.prog X.w X.K X.mg (baseB s.heap X.base a cc) X.A X.stack s H:=by
 have kb:∀b o,X.base.get? b=some o->(baseB s.heap X.base a cc).get? b=some o:=fun b o e=>cE2 (I.bk b o e) (.inl (by rw[e];rfl))
 have hM:Mod X.K X.mg (baseB s.heap X.base a cc):=⟨I.mod.kin.keeps kb,I.mod.glob.keeps kb,let ⟨mb,h1,h2⟩:=I.mod.blt;⟨mb,h1.keeps kb,h2⟩,I.mod.nolimit.keeps kb⟩
 refine⟨I.ok.frames,hM,fun b o e=>?_,by unfold baseB;rw[cQ5];exact le_refl _,dC0 I.stack fun b hb=>⟨?_,?_⟩,I.stkFree,I.hok,I.bare⟩
 ·obtain⟨e1,k⟩:=dB9 e
  refine⟨e1,?_⟩
  rcases k with k|k|k
  ·obtain⟨o',e'⟩:=Option.isSome_iff_exists.mp k
   exact(I.bs b o' e').2
  ·rw[k];exact hn
  ·rw[k];exact I.freeC y cc hy
 ·obtain⟨_,o,ho,_⟩:=I0.stack.mem hb
  exact ne_of_lt (lt_of_lt_of_le (lt_size ho) hge)
 ·rcases List.mem_cons.mp (I.stkSub b hb)with z|z
  ·intro z2
   obtain⟨m,⟨o,es,ep,e,hd,_⟩,_⟩:=I.loc
   obtain⟨oc,eo,hcd⟩:=hc
   rw[<-z2,z,e]at eo
   cases eo
   rw[hd]at hcd;cases hcd
  ·obtain⟨_,o,ho,_⟩:=I.ok.funs.mem z
   exact ne_of_lt (lt_of_lt_of_le (lt_size ho) (I.ok.cab y cc hf hy))
end
noncomputable def bP9(j:Nat)(O:cU):bA Int:=match O[j]? with
 |some (.val (.int i))=>.ok i
 |_=>.bad
noncomputable def xV:D->bA D
 | .bl b=>.ok (.bl b)
 |_=>.bad
def xW(f1 f2:ME)(j:Nat)(M:Int->List D->bA D):ME:=fun O=>(f1 O).bind fun d1=>(f2 O).bind fun d2=>(bP9 j O).bind fun i=>(M i [d1,d2]).bind xV
section
theorem dC1{kr:Nat}{f c Pt:Addr}{px lq:Str}{e1 e2 lbody:Expr}{lpos:Pos}{f1 f2:ME}{g:ME}{M:(List D->bA D)->List D->bA D}
 (hrow:∀(base':Heap) (v:V) (cl:List (Addr×HO)) (m:List D->bA D),qI X.prog X.w X.K X.mg base' (n+1) v cl m->cS X.prog X.w X.K X.mg base' dA kr f fd ps (qJ X.K v cl (M m)))
 (hr:dH kr X.A) (hg:Gl X x) (hm:X.mg x=some (.ref f)) (hk:keepIn X.K (.ref f)=true) (hb:jK X.K fd ps []) (hdb:(x==("__debug__" :Str))=false)
 (hn:cX [e1,e2,.Lambda lps lbody lsc lpos]=true) (he1:IE X e1 f1) (he2:IE X e2 f2)
 (hN:X.N[j]? =some y) (hyc:X.env.scope.names.lookup y=some .cell) (hfn:X.fn y=true)
 (hL:(Pt,lpos,lq)∈dF.L) (hcode:X.env.code= .ref c) (hhd:X.K.In X.base->W.CodeHd X.base c Pt) (hq:X.env.qual++ "<lambda>" =lq) (hbl:X.K.In X.base->X.base.BuiltinsAt X.mg Pt) (hdef:defaultsOf lps X.env=([],[]))
 (hclos:∀cells:List (Str×Addr),gI lsc.names cells []= [(y,(cells.lookup y).getD 0)]) (hfr:∀z∈lsc.names,z.2= .free->z.1=y)
 (S:bH5 px y lsc) (hbi:∀(clos:List (Str×Addr)) (pm cd ct:Value) (us:List Value),us.length=1->bindArgs (W.kla_fn "<lambda>" lq lps lbody lsc clos pm cd ct) ⟨us,[]⟩=pure ([px].zip us))
 (hbody:∀(base':Heap) (a:Addr) (cd:Value) (clos:List (Str×Addr)) (A:Around) (outer:List Env) (s:Shared) (H:Hp),dH n (A.deeper (W.envX lq lsc s.heap.objs.size a cd clos))->IE (bP8 X.prog X.w X.K X.mg base' [px,y] lq lsc a cd clos A outer s H) lbody g):
 IE X (.Call (.Name x p) [e1,e2,.Lambda lps lbody lsc lpos] [] pos) (xW f1 f2 j fun i=>M (kQ i g)):=by
 intro pc s Y H Q I ⟨O,F,E,q⟩
 unfold xW at q
 cases h1:f1 O with
 |ex _=>rw[h1]at q;exact q.elim
 |bad=>rw[h1]at q;exact q.elim
 |ok d1=>
 cases h2:f2 O with
 |ex _=>rw[h1]at q;simp only[bA.bind,h2]at q;exact q.elim
 |bad=>rw[h1]at q;simp only[bA.bind,h2]at q;exact q.elim
 |ok d2=>
 cases h3:bP9 j O with
 |ex _=>rw[h1]at q;simp only[bA.bind,h2,h3]at q;exact q.elim
 |bad=>rw[h1]at q;simp only[bA.bind,h2,h3]at q;exact q.elim
 |ok i=>
 have q0:dB (bC X.K) F H ((M (kQ i g) [d1,d2]).bind xV) Q:=by
  rw[h1]at q;simp only[bA.bind,h2,h3]at q;exact q
 obtain⟨bb,hbb⟩:∃bb,M (kQ i g) [d1,d2]= .ok (.bl bb):=by
  cases h4:M (kQ i g) [d1,d2]with
  |ex _=>rw[h4]at q0;exact q0.elim
  |bad=>rw[h4]at q0;exact q0.elim
  |ok d=>
   cases d with
   |bl bb=>exact⟨bb,rfl⟩
   |_=>rw[h4]at q0;exact q0.elim
 have q1:dB (bC X.K) F H (.ok (.bl bb)) Q:=by rw[hbb]at q0;exact q0
 have hs:fF e1=false/\fF e2=false:=by
  simp only[cX,all_cons,and_eq_true]at hn
  exact⟨by simpa using hn.1,by simpa using hn.2.1⟩
 have hρj:O[j]? =some (.val (.int i)):=by
  unfold bP9 at h3
  split at h3
  ·rename_i k hk';cases h3;exact hk'
  ·cases h3
 refine wpAny_Call_Name_kw (bN3 I hg hm ?_ hdb)
 refine W.callWith_K (h₀:=X.base) I.ok.mod.kin hk ?_ (dN hs.1) (kP (by simp only[cX,all_cons,and_eq_true]at hn ⊢;exact hn.2))
 rw[dN hs.1,dN hs.2,dN (e:=.Lambda lps lbody lsc lpos) rfl]
 refine Calls.spliced_cons (bX (he1 pc s Y H (fun v1 H1=>∃F1,bQ F H F1 H1/\bC X.K F1 d1 v1) I ⟨O,F,E,by rw[h1];exact fun b F' H' g r=>⟨F',g,r⟩⟩) fun u1 s1 ⟨v1,H1,I1,r1,F1,g1,dd1⟩=>?_)
 refine Calls.spliced_cons (bX (he2 pc s1 Y H1 (fun v2 H2=>∃F2,bQ F1 H1 F2 H2/\bC X.K F2 d2 v2) I1 ⟨O,F1,E.grow g1,by rw[h2];exact fun b F' H' g r=>⟨F',g,r⟩⟩) fun u2 s2 ⟨v2,H2,I2,r2,F2,g2,dd2⟩=>?_)
 have E2:=(E.grow g1).grow g2
 obtain⟨o,eσ,vj,rfl,dj⟩:=E2.at_ j _ hρj
 simp only[bC]at dj
 subst dj
 obtain⟨m2,hns2,hl2⟩:=I2.loc
 obtain⟨uj,⟨tj,rfl⟩,lk⟩:=hl2 j y _ hN eσ (.inr (.inl hyc))
 have hkd:X.env.kindOf y=some .cell:=hyc
 obtain⟨cc,hcc,hcell⟩:∃cc,X.env.cells.lookup y=some cc/\s2.heap.IsCell cc (some (.int i tj)):=by
  rcases lk with⟨z,_⟩|⟨_,cc,h1,h2⟩
  ·rw[hkd]at z;cases z
  ·exact⟨cc,h1,h2⟩
 have hcl:closureFor lsc X.env=pure [(y,cc)]:=by
  rw[cZ3 fun z hz hzf=>⟨cc,by rw[hfr z hz hzf];exact hcc⟩,hclos,hcc];rfl
 refine Calls.spliced_cons (fS9 I2 E2.tb.1 hL hcode (hhd I.ok.mod.kin) hq (hbl I.ok.mod.kin) hdef hcl fun a c' ctv H3 s3 I3 hge ha hobj hc' sx mr ti3 sF=>?_)
 refine Calls.spliced_nil ⟨I3.kIn,?_⟩
 obtain⟨tk,hcell3⟩:∃tk,s3.heap.IsCell cc (some (.int i tk)):=by
  obtain⟨_,hns3,hl3⟩:=I3.loc
  obtain⟨uk,⟨tk,rfl⟩,lk3⟩:=hl3 j y _ hN eσ (.inr (.inl hyc))
  rcases lk3 with⟨z,_⟩|⟨_,cc',z1,z2⟩
  ·rw[hkd]at z;cases z
  ·rw[hcc]at z1;cases z1;exact⟨tk,z2⟩
 have e0:=fT1 I2 I3 hge hobj ha hcc hfn hcell3
 have hao:(baseB s3.heap X.base a cc).get? a=some (W.kla_obj "<lambda>" lq lps lbody lsc [(y,cc)] ((X.mg "__name__").getD .none) c' ctv):=cE2 hobj (.inr (.inl rfl))
 have hcB:(baseB s3.heap X.base a cc).IsCell cc (some (.int i tk)):=let ⟨oc,e,d⟩:=hcell3;⟨oc,cE2 e (.inr (.inr rfl)),d⟩
 have lam:=fS7 (n:=n) (P:=X.prog) (w:=X.w) (K:=X.K) (mg:=X.mg) hao hcB S fun A outer s H hr=>hbody _ a (.ref c') [(y,cc)] A outer s H hr
 have clb:qI X.prog X.w X.K X.mg (baseB s3.heap X.base a cc) (n+1) (.ref a) (bH4 c' lq) (kQ i g):=⟨⟨a,_,[px],rfl,.inl ⟨_,_,hao,rfl⟩,lam,jK.all fun us hl=>hbi _ _ _ _ us hl⟩⟩
 have FN:=hrow _ (.ref a) (bH4 c' lq) (kQ i g) clb
 have sF2:=sF F2 E2.sub E2.tb.2
 have sF23:bF F2 (upd F2 c' (.ext fun h=>h.CodeRec (.ref c') lq)):=fun b u e=>by
  by_cases z:b=c'
  ·subst z
   have:=sF2 _ _ e
   rw[hc']at this
   rw[dY];exact this
  ·rw[cK z];exact e
 have sF3:bF (upd F2 c' (.ext fun h=>h.CodeRec (.ref c') lq)) H3:=fun b u e=>by
  by_cases z:b=c'
  ·subst z;rw[dY]at e;cases e;exact hc'
  ·rw[cK z]at e;exact sF2 b u e
 have t3:mE (upd F2 c' (.ext fun h=>h.CodeRec (.ref c') lq)) H3:=⟨ti3,E2.tb.2.upd c' rfl⟩
 have dl:DatL X.K (upd F2 c' (.ext fun h=>h.CodeRec (.ref c') lq)) [d1,d2] [v1,v2]:=DatL.cons ((dd1.mono g2.fs).mono sF23) (DatL.cons (dd2.mono sF23) DatL.nil)
 have sp:qJ X.K (.ref a) (bH4 c' lq) (M (kQ i g)) [v1,v2,.ref a] H3 (fun v H'=>∃F4,bQ (upd F2 c' (.ext fun h=>h.CodeRec (.ref c') lq)) H3 F4 H'/\bC X.K F4 (.bl bb) v) E0:=by
  refine⟨_,[d1,d2],[v1,v2],rfl,t3,sF3,fun p hp=>?_,dl,?_⟩
  ·obtain rfl:p=(c',.ext fun h=>h.CodeRec (.ref c') lq):=by simpa using hp
   exact dY
  ·rw[hbb];exact fun v F' H' g r=>⟨F',g,r⟩
 have r3:bV [v1,v2,.ref a] [u1,u2,.ref a]:=.cons r1 (.cons r2 (.cons rfl .nil))
 have hl:([u1,u2,.ref a]++([]:List Value)).length=ps.length:=FN.len _ _ _ _ sp
 refine wpAny_call (codeAny_mono (FN.run X.A X.stack s3 H3 ⟨[u1,u2,.ref a],[]⟩ [u1,u2,.ref a] [v1,v2,.ref a] _ E0 hr e0 (hb s3 [u1,u2,.ref a] I3.kIn hl) r3 sp) fun r s' hq=>?_)
 cases r with
 |error e=>exact rY pc Y H3 s3 e s' I3 hq
 |ok fl=>
  cases fl with
  |next=>exact elim hq
  |brk=>exact elim hq
  |cont=>exact elim hq
  |ret u=>
   obtain⟨v,H',J,rv,F4,g4,dv⟩:=I3.after hq
   simp only[bC]at dv
   subst dv
   refine⟨_,H',J,rv,q1 _ F2 H' ((g1.trans g2).trans ⟨fun b u n e=>g4.same b u n (sx b u n e),fun b n=>g4.more b (mr b n),fun t=>⟨(g4.tk t3).1,t.2⟩,bF.refl _,sF23.trans (g4.fs.trans g4.sub),fun _ h _=>h⟩) (by simp only[bC])⟩
end
structure bQ0(K:W.Frag)(mg:Str->Option Value)(fd:FuncData)(lpos:Pos)(lq:Str):Prop where
 ex:∃c Pt,fd.code= .ref c/\(Pt,lpos,lq)∈dF.L/\ ∀base:Heap,K.In base->W.CodeHd base c Pt/\base.BuiltinsAt mg Pt
theorem dC2{st:Stmt}{f:Addr}{g:MS}(F:fU K x qual st f fd)(S:kY N ps (cR st))
 (hbody:∀(cdv:Value) (A:Around) (outer:List Env) (s:Shared) (H:Hp) (E:XK),fd.code=cdv->dH k (A.deeper (envOfC qual (cR st) s.heap.objs.size f cdv))->
   kM (rX dA P w K mg base N qual (cR st) f cdv A outer s H E).nox (kD st) g):cS P w K mg base dA (k+1) f fd ps (kF K (cH ps.length N.length g)):=by
 obtain⟨oc,od,kV,doc,pm,an,cd,ct,osl,rfl,lk,hcd⟩:=F.ex
 refine⟨fun vs H Q E h=>?_,fun A outer s H args us vs Q E hr e0 hb r hsp=>?_⟩
 ·obtain⟨F,ds,_,_,r,q⟩:=h
  unfold cH at q
  split at q
  ·rename_i e;rw[<-r.length];exact e
  ·exact q.elim
 ·have key:cS P w K mg base dA (k+1) f (W.fnOf x qual (zS st) (kD st) (cR st) .none kV doc pm an cd ct) ps (kF K (cH ps.length N.length g)):=by
   refine cU7 lk hcd S (fun vs H Q E h=>?_) fun A outer s H vs Q E hr hsp=>?_
   ·obtain⟨F,ds,_,_,r,q⟩:=h
    unfold cH at q
    split at q
    ·rename_i e;rw[<-r.length];exact e
    ·exact q.elim
   ·obtain⟨F,ds,ti,s',r,q⟩:=hsp
    refine⟨_,(hbody cd A outer s H E rfl hr F H).nox,mY N.length ds,F,⟨.refl s',env0 ti s' r,fun i es a e=>?_,qD.none cC2⟩,?_⟩
    ·exfalso
     unfold mY at e
     have hm:=mem_of_getElem? e
     rcases List.mem_append.mp hm with h|h
     ·obtain⟨d,_,h⟩:=List.mem_map.mp h;cases h
     ·have:=eq_of_mem_replicate h;cases this
    ·unfold cH at q
     split at q
     ·revert q
      cases g (mY N.length ds)with
      |ok fl=>
       intro q
       cases fl with
       |nx O=>exact fun Y F' H' S'=>q .non F' H' S'.gr (by simp only[bC])
       |rt d=>exact fun v F' H' g' r'=>q v F' H' g' r'
       |bk O=>exact q.elim
       |ct O=>exact q.elim
       |rr _ _=>exact q.elim
      |ex _=>exact fun q=>q
      |bad=>exact fun q=>q
     ·exact q.elim
  exact key.run A outer s H args us vs Q E hr e0 hb r hsp
def xX(m:List D->bA D):List D->bA D
 | []=>.ok (.bl true)
 |x::r=>(m [x]).bind fun d=>(lA d).bind fun b=>if b=true then xX m r else .ok (.bl false)
def hU(m:List D->bA D):List D->bA D
 | [.tup xs,.int most]=>if most<(xs.length:Int)then .ok (.bl false)else xX m xs
 | [.tup _,_]=>.bad
 | [_,.int _]=>.ok (.bl false)
 |_=>.bad
end
section
instance (priority:=low) pd0:Pd:=⟨0,0,0⟩
variable [dF] [Pd]
noncomputable def mZ(b:Addr):Bool:=dF.L.any fun t=>t.1==b
theorem fT2{t:Addr×Pos×Str}(h:t∈dF.L):mZ t.1=true:=List.any_eq_true.mpr ⟨t,h,beq_self_eq_true _⟩
theorem fT3{b:Addr}(h:mZ b=true):∃t∈dF.L,t.1=b:=by
 obtain⟨t,h1,h2⟩:=List.any_eq_true.mp h
 exact⟨t,h1,eq_of_beq h2⟩
theorem fT4{mb:Str->Option Value}{fa:Addr}{s₁:Shared}{vs:List Value}{ns:List Int}
 (KX:K.In s₁.heap) (hns:s₁.heap.Ns mainGlobals mg) (hb:s₁.heap.Ns builtinsNs mb) (hbb:∀x:Str,x≠ "__name__" ->mb x=bootBuiltins x) (hlim:s₁.heap.NoLimit) (hg:s₁.gens= #[])
 (hT:∀t∈dF.L,(∃c,s₁.heap.TableAt c t.1 #[])/\K.lookup t.1=none)
 (ha:s₁.heap.get? a=some {cls:=.type "list",data:=.seq vs.toArray}) (hi:IntsAre vs ns) (hl:ns.length<=63) (hr:dH k callerA)
 (F:∀base:Heap,K.In base->base.Ns mainGlobals mg->cS P w K mg base dA k fa fd [x] (bP6 K)) (hbind:∀(s:Shared) (u:Value),BindsTo s fd ⟨[u],[]⟩ [(x,u)]):
 codeAny (model P w) callerA (.call (.ref fa) ⟨[.ref a],[]⟩) (fun r s'=>r= .ok (.ret (.bool true))/\OldK s₁.heap s'.heap/\s'.os=s₁.os/\AllBare s'.gens) s₁:=by
 have rv:=cV8 hi
 have lenV:=hi.length
 have hl':ns.length<=sizeLine:=Nat.le_of_lt (cV9 bD)
 have tab:∀b,mZ b=true->s₁.heap.get? b=some (W.tabObj #[])/\K.lookup b=none/\ ∃c,s₁.heap.TableAt c b #[]:=fun b h=>by
  obtain⟨t,h1,rfl⟩:=fT3 h
  obtain⟨⟨c,h2⟩,h3⟩:=hT t h1
  exact⟨h2.2,h3,c,h2⟩
 have core:∀Fa:Hp,(∀b,Fa b=none\/(b=a/\K.lookup a=none/\Fa b=some (.frz {cls:=.type "list",data:=.seq vs.toArray} (.lst (ns.map V.int)))))->dO K Fa a (ns.map V.int)->
  codeAny (model P w) callerA (.call (.ref fa) ⟨[.ref a],[]⟩) (fun r s'=>r= .ok (.ret (.bool true))/\OldK s₁.heap s'.heap/\s'.os=s₁.os/\AllBare s'.gens) s₁:=by
  intro Fa hF hS
  have naT:mZ a=false:=by
   cases z:mZ a with
   |false=>rfl
   |true=>have:=(tab a z).1;rw[ha]at this;cases this
  let H:Hp:=fun b=>if mZ b=true then some (.tbl #[])else Fa b
  have HT:∀b,mZ b=true->H b=some (.tbl #[]):=fun b h=>if_pos h
  have HF:∀b,mZ b=false->H b=Fa b:=fun b h=>if_neg (by rw[h];exact Bool.false_ne_true)
  have hsub:bF Fa H:=fun b u e=>by
   rcases hF b with z|⟨z,_,z2⟩
   ·rw[z]at e;cases e
   ·subst z;rw[HF _ naT];exact e
  have hcase:∀b u,H b=some u->(mZ b=true/\u= .tbl #[])\/(b=a/\K.lookup a=none/\mZ b=false/\u= .frz {cls:=.type "list",data:=.seq vs.toArray} (.lst (ns.map V.int))):=fun b u e=>by
   cases z:mZ b with
   |true=>rw[HT b z]at e;cases e;exact .inl ⟨rfl,rfl⟩
   |false=>
    rw[HF b z]at e
    rcases hF b with y|⟨y1,y2,y3⟩
    ·rw[y]at e;cases e
    ·rw[y3]at e;cases e;exact .inr ⟨y1,y2,rfl,rfl⟩
  have hok:jE P w H s₁.heap:=fun b u e=>by
   rcases hcase b u e with⟨z,rfl⟩|⟨rfl,_,_,rfl⟩
   ·exact(tab b z).1
   ·exact⟨ha,by rw[length_map];exact hl',vs,_,rv,ha⟩
  have tbf:mE Fa H:=by
   refine⟨fun t ht=>⟨#[],HT _ (fT2 ht),trivial,.inl rfl⟩,fun b ps e=>?_⟩
   rcases hF b with z|⟨_,_,z⟩
   ·rw[z]at e;cases e
   ·rw[z]at e;cases e
  have base_of:∀{b:Addr} {o:Obj},s₁.heap.get? b=some o->H b=none->(rR s₁.heap H).get? b=some o:=fun e n=>cQ6 e n
  have noA:∀{b:Addr} {o:Obj} {es:Array DictEntry} {ep:Nat},s₁.heap.get? b=some o->o.data= .dict es ep->H b=none:=fun{b o es ep} e d=>by
   cases q:H b with
   |none=>rfl
   |some u=>
    rcases hcase b u q with⟨z,_⟩|⟨z,_,_,_⟩
    ·rw[(tab b z).1]at e;cases e;cases d
    ·subst z;rw[ha]at e;cases e;cases d
  have nsK:∀{b:Addr} {m:Str->Option Value},s₁.heap.Ns b m->(rR s₁.heap H).Ns b m:=fun{b m} ⟨o,es,ep,e,d,r⟩=>⟨o,es,ep,base_of e (noA e d),d,r⟩
  have hKb:K.In (rR s₁.heap H):=fun b o e=>base_of (KX b o e) (by
   cases q:H b with
   |none=>rfl
   |some u=>
    rcases hcase b u q with⟨z,_⟩|⟨z,z2,_,_⟩
    ·rw[(tab b z).2.1]at e;cases e
    ·subst z;rw[z2]at e;cases e)
  have hM:Mod K mg (rR s₁.heap H):=⟨hKb,nsK hns,⟨mb,nsK hb,hbb⟩,let ⟨mc,h1,h2⟩:=hlim;⟨mc,nsK h1,h2⟩⟩
  have e0:vX P w K mg (rR s₁.heap H) callerA [] s₁ H:=⟨rfl,hM,fun b o e=>cQ7 e,Nat.le_of_eq (cQ5 _ _),trivial,fun b hb=>absurd (show b∈([]:List Addr)from hb) (by simp),hok,.of_eq hg⟩
  refine codeAny_mono ((F _ hKb (nsK hns)).run callerA [] s₁ H ⟨[.ref a],[]⟩ [.ref a] [.ref a] (fun v _=>v= .bl true) (fun _ _ _=>False) hr e0 (hbind s₁ (.ref a)) (.cons rfl .nil) ⟨a,ns,Fa,rfl,tbf,hsub,hS,hl,fun _=>rfl⟩) fun r s' h=>?_
  cases r with
  |error e=>exact(show False from h).elim
  |ok fl=>
   cases fl with
   |next=>exact elim h
   |brk=>exact elim h
   |cont=>exact elim h
   |ret u=>
    obtain⟨v,H',os,bare,un,hok',r',q⟩:=h
    have q':v= .bl true:=q
    subst q'
    obtain rfl:u=Value.bool true:=r'
    have nofr:∀b:Addr,b∉lI []:=fun b z=>absurd (show b∈([]:List Addr)from z) (by simp)
    have tabN:∀b,mZ b=true->∃more,s'.heap.get? b=some (W.tabObj (#[]++more)):=fun b z=>by
     obtain⟨more,e⟩:=un.tbls b _ (HT b z)
     exact⟨more,hok' b _ e⟩
    have scr:∀b o,s₁.heap.get? b=some o->mZ b=false->s'.heap.get? b=some o:=fun b o e z=>by
     cases q:H b with
     |none=>exact un.keep b o e q (nofr b) (by simp)
     |some u=>
      rcases hcase b u q with⟨z2,_⟩|⟨_,_,_,rfl⟩
      ·rw[z]at z2;cases z2
      ·obtain⟨e1,_⟩:=hok b _ q
       obtain⟨e2,_⟩:=hok' b _ (un.frzs b _ _ q)
       rw[e]at e1;cases e1
       exact e2
    refine⟨rfl,⟨fun b o e=>?_,fun b o e=>?_⟩,os,bare⟩
    ·cases z:mZ b with
     |false=>exact .inl (scr b o e z)
     |true=>
      obtain⟨more,e2⟩:=tabN b z
      have e1:=(tab b z).1
      rw[e]at e1
      cases e1
      obtain⟨c,tc⟩:=(tab b z).2.2
      exact .inr (.inl ⟨tc.isCodeTable,rfl, #[],more,rfl,e2⟩)
    ·cases z:mZ b with
     |false=>exact⟨o,scr b o e z⟩
     |true=>obtain⟨more,e2⟩:=tabN b z;exact⟨_,e2⟩
 cases hk:K.lookup a with
 |some o=>
  have e:=KX a o hk
  rw[ha]at e
  cases e
  exact core (fun _=>none) (fun _=>.inl rfl) (.inr ⟨_,vs.toArray,_,hk,rfl,rfl,rfl,by rw[size_toArray,lenV];exact hl',by simpa using rv⟩)
 |none=>
  refine core (fun b=>if b=a then some (.frz {cls:=.type "list",data:=.seq vs.toArray} (.lst (ns.map V.int)))else none) (fun b=>?_) (.inl (.inr ⟨{cls:=.type "list",data:=.seq vs.toArray},if_pos rfl⟩))
  by_cases hb:b=a
  ·exact .inr ⟨hb,hk,if_pos hb⟩
  ·exact .inl (if_neg hb)
end
section
noncomputable def sO(Ps:List Addr)(b:Addr):Bool:=Ps.any fun P=>P==b
def mJ(K:W.Frag)(Ps:List Addr)(bm:Addr)(ob:Obj):W.Frag:=(bm,ob)::K.filter fun p=> !sO Ps p.1
theorem bQ1{b:Addr}(hb:sO Ps b=false):∀K:W.Frag,(K.filter fun p=> !sO Ps p.1).lookup b=K.lookup b
 | []=>rfl
 | (a,o)::r=>by
  rw[List.filter_cons]
  by_cases z:b=a
  ·subst z
   simp only[hb,Bool.not_false,if_true,lookup_cons,beq_self_eq_true]
  ·have e:(b==a)=false:=beq_eq_false_iff_ne.mpr z
   split
   ·rw[lookup_cons,lookup_cons,e,bQ1 hb r]
   ·rw[lookup_cons,e,bQ1 hb r]
theorem bQ2{b:Addr}(hb:sO Ps b=true):∀K:W.Frag,(K.filter fun p=> !sO Ps p.1).lookup b=none
 | []=>rfl
 | (a,o)::r=>by
  rw[List.filter_cons]
  split
  ·rename_i h
   have z:(b==a)=false:=by
    refine beq_eq_false_iff_ne.mpr fun e=>?_
    subst e
    rw[hb]at h;cases h
   rw[lookup_cons,z]
   exact bQ2 hb r
  ·exact bQ2 hb r
section
variable{bm:Addr}{ob:Obj}
structure kR(K:W.Frag)(Ps:List Addr)(bm:Addr)(ob:Obj)(h:Heap):Prop where
 hk:K.In h
 hb:h.get? bm=some ob
 hp:ob.data= .plain
 ht:∀P∈Ps,h.get? P=some (W.tabObj #[])
theorem fT5{b:Addr}(h:sO Ps b=true):b∈Ps:=by
 obtain⟨P,h1,h2⟩:=List.any_eq_true.mp h
 rw[<-eq_of_beq h2];exact h1
theorem fT6{b:Addr}(h:b∈Ps):sO Ps b=true:=List.any_eq_true.mpr ⟨b,h,beq_self_eq_true _⟩
theorem kR.ne(U:kR K Ps bm ob h){P:Addr}(hP:P∈Ps):bm≠P:=fun z=>by
 have e:=U.ht P hP
 rw[<-z,U.hb]at e
 have e2:ob=W.tabObj #[]:=Option.some.inj e
 have e3:=U.hp
 rw[e2]at e3;cases e3
theorem kR.isIn(U:kR K Ps bm ob h):(mJ K Ps bm ob).In h:=fun a o e=>by
 unfold mJ at e
 rw[lookup_cons]at e
 split at e
 ·rename_i z
  rw[eq_of_beq z,U.hb];exact e
 ·cases q:sO Ps a with
  |true=>rw[bQ2 q]at e;cases e
  |false=>rw[bQ1 q]at e;exact U.hk _ _ e
theorem kR.no(U:kR K Ps bm ob h){P:Addr}(hP:P∈Ps):(mJ K Ps bm ob).lookup P=none:=by
 unfold mJ
 rw[lookup_cons,beq_eq_false_iff_ne.mpr (U.ne hP).symm]
 exact bQ2 (fT6 hP) K
theorem kR.at'(U:kR K Ps bm ob h):(mJ K Ps bm ob).lookup bm=some ob:=by
 unfold mJ
 rw[lookup_cons,beq_self_eq_true]
theorem kR.up(U:kR K Ps bm ob h){b:Addr}{o:Obj}(e:K.lookup b=some o)(n:o.data≠ .fields #[]):(mJ K Ps bm ob).lookup b=some o:=by
 have hn:sO Ps b=false:=by
  cases z:sO Ps b with
  |false=>rfl
  |true=>have e2:=U.hk _ _ e;rw[U.ht b (fT5 z)]at e2;cases e2;exact absurd rfl n
 unfold mJ
 rw[lookup_cons]
 split
 ·rename_i z
  have hbb:b=bm:=eq_of_beq z
  subst hbb
  rw[<-U.hb,U.hk _ _ e]
 ·rw[bQ1 hn];exact e
theorem kR.code(U:kR K Ps bm ob h){cd:Value}(e:W.codeIn K cd q=true):W.codeIn (mJ K Ps bm ob) cd q=true:=by
 unfold W.codeIn at e ⊢
 split at e
 ·rename_i c
  split at e
  ·rename_i vs _ ho
   have hne:vs≠ #[]:=fun z=>by subst z;cases e
   have e2:=U.up ho (fun z=>hne (by injection z))
   simp only[e2]
   exact e
  ·cases e
 ·cases e
theorem kR.fn(U:kR K Ps bm ob h){st:Stmt}{f:Addr}(F:fU K x qual st f fd):fU (mJ K Ps bm ob) x qual st f fd:=by
 obtain⟨oc,od,kV,doc,pm,an,cdv,ct,osl,e1,e2,e3⟩:=F.ex
 have e4:=U.up e2 (fun z=>by cases z)
 refine⟨⟨oc,od,kV,doc,pm,an,cdv,ct,osl,e1,e4,U.code e3⟩,?_⟩
 unfold keepIn
 simp only[e4]
theorem kR.hd(U:kR K Ps bm ob h){c P:Addr}{oc:Value}{vs:Array Value}{file:Str}{tf:Tok}{flags:Int}{tg:Tok}{inF:Bool}{text:Int}{tt:Tok}(hP:P∈Ps)(lc:K.lookup c=some ⟨.type "code",od,.fields vs,sl⟩)
 (q11:vs[11]? =some (.ref P)) (q18:vs.getD 18 .none= .str file tf) (q7:vs.getD 7 .none= .int flags tg) (q9:vs.getD 9 .none= .bool inF) (q10:vs.getD 10 .none= .int text tt) (hb:(mJ K Ps bm ob).In base):W.CodeHd base c P:=by
 have hne:vs≠ #[]:=fun z=>by subst z;cases q11
 refine⟨_,vs,file,tf,flags,tg,inF,text,tt,hb _ _ (U.up lc fun z=>hne (by injection z)),rfl,rfl,q11,?_,q18,q7,q9,q10,fun z=>?_⟩
 ·rw[Array.getD_eq_getD_getElem?,q11];rfl
 ·subst z;have e2:=U.hk _ _ lc;rw[U.ht _ hP]at e2;cases e2
end
theorem walk_ofU{l:W.OpenLaw}{q:Program}{loose:List Str}{d:DefRec}{K:Params->W.Frag}{ts:List Addr}
 (hn:l.most=some 63) (hdf:d.params.defaults= []) (hr:dH k callerA) (hY:∀(w:World) (h:Heap),YP w h->(K w.params).In h) (hZ:∀(w:World) (h:Heap),YP w h->∀P∈ts,h.get? P=some (W.tabObj #[]))
 (F:∀(w:World) (mg:Str->Option Value) (fa:Addr) (h:Heap),(K w.params).In h->h.Ns mainGlobals mg->mg d.name=some (.ref fa)->(∀P∈ts,h.get? P=some (W.tabObj #[]))->
   (∃bm ob,mg "__builtins__" =some (.ref bm)/\bm≠builtinsNs/\h.get? bm=some ob/\ob.cls= .type "module" /\ob.dict=some builtinsNs/\ob.data= .plain)->
   ∃(T:dF) (K':W.Frag) (fd:FuncData),K'.In h/\(∀t∈T.L,(∃c,h.TableAt c t.1 #[])/\K'.lookup t.1=none)/\(∀(s:Shared) (u:Value),BindsTo s fd ⟨[u],[]⟩ [(x,u)])/\
    ∀base:Heap,K'.In base->base.Ns mainGlobals mg->cS l.prog w K' mg base dA k fa fd [x] (bP6 K')):
 W.WalkO q loose XP YP l.row.toRowW d [] (fun f vs=>PySem.call f vs):=by
 refine Att.attach_call hn hdf fun w s₀ s₁ mg mb fa o pm cd doc a vs ns G Ya ho hd hcd hmg hobj hints hlen hg=>?_
 obtain⟨T,K',fd,h1,h2,h3,h4⟩:=F w mg fa _ (hY w _ Ya) G.T.g hmg (hZ w _ Ya) G.T.bmain
 exact fT4 h1 G.T.g G.T.b G.T.builtins G.T.nolimit hg h2 hobj hints hlen hr h4 h3
end
section
variable [dF] [Pd]
def qZ(w:World)(K:W.Frag):List DictEntry->List (Str×D)->Prop
 | [],[]=>True
 |e::es,(x,d)::r=>e.hash=hashStr w x/\(∃t,e.key= .str x t)/\(∃v,cG v e.val/\ ∀F,bC K F d v)/\qZ w K es r
 |_,_=>False
structure wG(w:World)(K:W.Frag)(mg:Str->Option Value)(x:Str)(tbl:List (Str×D)):Prop where
 ex:∃p es ep,mg x=some (.ref p)/\(p==sysModules)=false/\K.lookup p=some ⟨.type "dict",none,.dict es ep, #[]⟩/\qZ w K es.toList tbl
section
theorem dC3:∀{es:List DictEntry} {tbl:List (Str×D)},qZ w K es tbl->∀e∈es,∃k,(lZ P w).is k e.key=true/\e.hash=(lZ P w).hash k
 | [],_,_,e,h=>by cases h
 |e::es,[],h,_,_=>h.elim
 |e::es,(x,d)::r,⟨h1,⟨t,h2⟩,_,h4⟩,e',he=>by
  rcases List.mem_cons.mp he with rfl|he
  ·exact⟨.inr x,by rw[h2];exact zJ P w x t,h1⟩
  ·exact dC3 h4 e' he
theorem cE3(z:Str):∀{es:List DictEntry} {tbl:List (Str×D)},qZ w K es tbl->
 (tbl.lookup z=none/\(es.find? fun e=>(lZ P w).is (.inr z) e.key).map (·.val)=none)\/ ∃d v u,tbl.lookup z=some d/\(es.find? fun e=>(lZ P w).is (.inr z) e.key).map (·.val)=some u/\cG v u/\ ∀F,bC K F d v
 | [],[],_=>.inl ⟨rfl,rfl⟩
 | [],_::_,h=>h.elim
 |e::es,[],h=>h.elim
 |e::es,(x,d)::r,⟨h1,⟨t,h2⟩,⟨v,h3,h3'⟩,h4⟩=>by
  by_cases hx:z=x
  ·subst hx
   refine .inr ⟨d,v,e.val,by rw[lookup_cons,beq_self_eq_true],?_,h3,h3'⟩
   rw[List.find?_cons,h2,zJ]
   rfl
  ·have e1:(z==x)=false:=beq_eq_false_iff_ne.mpr hx
   have e2:(lZ P w).is (.inr z) e.key=false:=by
    rw[h2]
    have:=KeyKind.is_eq_decide (knd:=lZ P w) (k:=.inr x) (v:=.str x t) (zJ P w x t) (.inr z)
    rw[this]
    exact decide_eq_false fun q=>hx (by injection q)
   rw[lookup_cons,e1,List.find?_cons,e2]
   exact cE3 z h4
end
noncomputable def sP(tbl:List (Str×D))(neg:Bool):D->bA D
 | .str z=>.ok (.bl ((tbl.lookup z).isSome != neg))
 |_=>.bad
noncomputable def kS(tbl:List (Str×D)):D->bA D
 | .str z=>match tbl.lookup z with
  |some d=>.ok d
  |none=>.bad
 |_=>.bad
section
variable{a b:Expr}{tbl:List (Str×D)}
theorem cE4{q:Addr}{es:Array DictEntry}(I:bE X pc Y H s)(hk:X.K.lookup q=some ⟨.type "dict",none,.dict es ep, #[]⟩)(he:qZ X.w X.K es.toList tbl):
 s.heap.MapOf (lZ X.prog X.w) q (fun k=>findBy (lZ X.prog X.w).is es k):=
 ⟨_,es,ep,I.kIn _ _ hk,⟨rfl,rfl,rfl⟩,rfl,fun e he'=>dC3 he e (by simpa using he'),fun _=>rfl⟩
noncomputable def bH6(K:W.Frag)(w:World)(tbl:List (Str×D))(neg:Bool):R2:=fun x y H Q=>∃z p es ep,x= .str z/\y= .ref p/\(p==sysModules)=false/\K.lookup p=some ⟨.type "dict",none,.dict es ep, #[]⟩/\qZ w K es.toList tbl/\Q (.bl ((tbl.lookup z).isSome != neg)) H
theorem dC4{es:Array DictEntry}(he:qZ w K es.toList tbl)(z:Str):(findBy (lZ P w).is es (.inr z)).isSome=(tbl.lookup z).isSome:=by
 rcases cE3 (P:=P) z he with⟨h1,h2⟩|⟨d,v,u,h1,h2,_⟩
 ·rw[h1]
  show((es.find? _).map _).isSome=_
  rw[<-Array.find?_toList,h2]
  rfl
 ·rw[h1]
  show((es.find? _).map _).isSome=_
  rw[<-Array.find?_toList,h2]
  rfl
theorem dC5:cQ X (compareOp .In) (bH6 X.K X.w tbl false):=by
 intro pc s Y H x y v u Q I rx ry h
 obtain⟨z,p,es,ep,rfl,rfl,hs,hk,he,q⟩:=h
 obtain⟨t,rfl⟩:=rx
 cases(show u=Value.ref p from ry)
 refine wpAny_in_of (knd:=lZ X.prog X.w) (k:=.inr z) (zJ _ _ z t) hs (cE4 I hk he) ?_
 rw[dC4 he]
 rw[Bool.bne_false]at q
 exact⟨.bl _,H,I.tok _,rfl,q⟩
theorem dC6:cQ X (compareOp .NotIn) (bH6 X.K X.w tbl true):=by
 intro pc s Y H x y v u Q I rx ry h
 obtain⟨z,p,es,ep,rfl,rfl,hs,hk,he,q⟩:=h
 obtain⟨t,rfl⟩:=rx
 cases(show u=Value.ref p from ry)
 refine wpAny_notIn_of (knd:=lZ X.prog X.w) (k:=.inr z) (zJ _ _ z t) hs (cE4 I hk he) ?_
 rw[dC4 he]
 rw[Bool.bne_true]at q
 exact⟨.bl _,H,I.tok _,rfl,q⟩
noncomputable def dC7(K:W.Frag)(w:World)(tbl:List (Str×D)):R2:=fun x y H Q=>∃z p es ep,x= .ref p/\y= .str z/\K.lookup p=some ⟨.type "dict",none,.dict es ep, #[]⟩/\qZ w K es.toList tbl/\ ∃d,tbl.lookup z=some d/\ ∀v,(∀F,bC K F d v)->Q v H
theorem fT7:xH X (dC7 X.K X.w tbl):=by
 intro value slice pc s Y H x y v u Q I rx ry h hs
 obtain⟨z,p,es,ep,rfl,rfl,hk,he,d,hd,q⟩:=h
 cases(show v=Value.ref p from rx)
 obtain⟨t,rfl⟩:=ry
 have hm:=cE4 I hk he
 rcases cE3 (P:=X.prog) z he with⟨h1,_⟩|⟨d',v',u',h1,h2,h3,h4⟩
 ·rw[hd]at h1;cases h1
 ·rw[hd]at h1;cases h1
  have hf:(fun k=>findBy (lZ X.prog X.w).is es k) (.inr z)=some u':=by
   show(es.find? _).map _=_
   rw[<-Array.find?_toList,h2]
  exact subscriptTail_builtinR (x:=u') hm.typeIs slot_dict_getitem.lookup (wpAny_getItem_of (Q:=fun r s'=>r=u'/\EP X pc Y Q r s') (zJ _ _ z t) hm hf ⟨rfl,v',H,I.tok _,h3,q v' h4⟩) hs
theorem tD1{r:V->Hp->VK->Prop}{m:D->bA D}(hd:Op1 X r m){Q:VK}(q:tD X (m1 m f) Y H Q):tD X f Y H fun v H1=>r v H1 Q:=by
 obtain⟨O,F,E,q⟩:=q
 refine⟨O,F,E,?_⟩
 have q1:=jF (R1:=bC X.K) q
 revert q1
 cases f O with
 |ok d=>
  intro q1 v F1 H1 g1 d1
  obtain⟨F2,d',g2,d2,q2⟩:=q1 v F1 H1 g1 d1
  exact hd F2 H1 d' v Q g2.sub d2 q2
 |ex _=>exact fun q1=>q1
 |bad=>exact fun q1=>q1
theorem dC8{p:Addr}{es:Array DictEntry}(hs:(p==sysModules)=false)(hk:X.K.lookup p=some ⟨.type "dict",none,.dict es ep, #[]⟩)(he:qZ X.w X.K es.toList tbl):Op1 X (fun x H Q=>bH6 X.K X.w tbl neg x (.ref p) H Q) (sP tbl neg):=fun F H d v Q s h q=>by
 cases d with
 |str z=>
  simp only[bC]at h
  exact⟨z,p,es,ep,h.1,rfl,hs,hk,he,cL q s (by simp only[bC])⟩
 |_=>exact q.elim
theorem fT8{p:Addr}{es:Array DictEntry}(hk:X.K.lookup p=some ⟨.type "dict",none,.dict es ep, #[]⟩)(he:qZ X.w X.K es.toList tbl):Op1 X (fun y H Q=>dC7 X.K X.w tbl (.ref p) y H Q) (kS tbl):=fun F H d v Q s h q=>by
 cases d with
 |str z=>
  simp only[bC]at h
  unfold kS at q
  cases hl:tbl.lookup z with
  |none=>simp only[hl]at q;exact q.elim
  |some d=>
   simp only[hl]at q
   exact⟨z,p,es,ep,rfl,h.1,hk,he,d,hl,fun v' hv=>cL q s (hv F)⟩
 |_=>exact q.elim
theorem dC9(hop:(op= .In/\neg=false)\/(op= .NotIn/\neg=true))(C:wG X.w X.K X.mg x tbl)(hg:X.env.scope.names.lookup x=some .globalImplicit)(hd:(x==("__debug__" :Str))=false)(hm:behindInMarks op (.Name x p)=false)(ha:IE X a f):
 IE X (.Compare a [op] [.Name x p] pos) (m1 (sP tbl neg) f):=by
 obtain⟨q,es,ep,h1,h2,h3,h4⟩:=C.ex
 have ho:cQ X (compareOp op) (bH6 X.K X.w tbl neg):=by
  rcases hop with⟨rfl,rfl⟩|⟨rfl,rfl⟩
  ·exact dC5
  ·exact dC6
 exact fL (cS5 ho ha (bF5 (v:=.ref q) hg h1 rfl hd) hm) fun Y H Q z=>tD1 (dC8 h2 h3 h4) z
theorem dD0(hop:(op= .In/\neg=false)\/(op= .NotIn/\neg=true))(C:wG X.w X.K X.mg x tbl)(hg:X.env.scope.names.lookup x=some .globalImplicit)(hd:(x==("__debug__" :Str))=false)(hm:behindInMarks op (.Name x p)=false)(ha:IE X a f):
 IT X (.Compare a [op] [.Name x p] pos) (mB (m1 (sP tbl neg) f)):=by
 obtain⟨q,es,ep,h1,h2,h3,h4⟩:=C.ex
 have ho:cQ X (compareOp op) (bH6 X.K X.w tbl neg):=by
  rcases hop with⟨rfl,rfl⟩|⟨rfl,rfl⟩
  ·exact dC5
  ·exact dC6
 exact bG4 (cS7 ho ha (bF5 (v:=.ref q) hg h1 rfl hd) hm) fun Y H Q z=>cC0 (f:=m1 (sP tbl neg) f) (fun _ _ _ z=>tD1 (dC8 h2 h3 h4) z) z
theorem fT9(C:wG X.w X.K X.mg x tbl)(hg:X.env.scope.names.lookup x=some .globalImplicit)(hd:(x==("__debug__" :Str))=false)(hs:bP7 b=true)(ha:IE X b f):IE X (.Subscript (.Name x p) b pos) (m1 (kS tbl) f):=by
 obtain⟨q,es,ep,h1,h2,h3,h4⟩:=C.ex
 exact fL (cV2 fT7 (bF5 (v:=.ref q) hg h1 rfl hd) ha (dB5 hs)) fun Y H Q z=>tD1 (fT8 h3 h4) z
end
theorem fU0{f:Addr}{sp:Sp}(F:cS P w K mg base dA j f fd ps sp)(h:j<=k):cS P w K mg base dA k f fd ps sp:=
 ⟨F.len,fun A outer s H args us vs Q E hr=>F.run A outer s H args us vs Q E (hr.mono h)⟩
theorem bQ3(C:sL P w K mg base n x m):∃a,mg x=some (.ref a)/\qI P w K mg base n (.ref a) [] m:=by
 obtain⟨f,fd,ps,F,hm,hk,hb⟩:=C.ex
 exact⟨f,hm,⟨⟨f,fd,ps,rfl,.inr hk,F.imp fun vs H Q E h=>fS2 h,hb⟩⟩⟩
section
variable{e1 e2:Expr}{f1 f2:ME}{xr xn:Str}{pn:Pos}
theorem bQ4{fR fN:Addr}{fdR:FuncData}{M:List D->bA D}(FR:cS X.prog X.w X.K X.mg X.base dA k fR fdR ps (qJ X.K (.ref fN) [] M))(hr:dH k X.A)(hmR:X.mg xr=some (.ref fR))(hkR:keepIn X.K (.ref fR)=true)(hbR:jK X.K fdR ps [])
 (hmN:X.mg xn=some (.ref fN)) (hg:X.env.scope.names.lookup xr=some .globalImplicit) (hgN:X.env.scope.names.lookup xn=some .globalImplicit) (hn:cX [e1,e2]=true) (hd:(xr==("__debug__" :Str))=false) (hdN:(xn==("__debug__" :Str))=false) (he1:IE X e1 f1) (he2:IE X e2 f2):
 IE X (.Call (.Name xr p) [e1,e2,.Name xn pn] [] pos) (mA M (aC f1 (aC f2 bP))):=by
 have hs:fF e1=false/\fF e2=false:=by
  simp only[cX,all_cons,and_eq_true]at hn
  exact⟨by simpa using hn.1,by simpa using hn.2.1⟩
 have nN:cX [.Name xn pn]=true:=rfl
 refine fL (cB0 FR hr hg hmR hkR hbR .nil rY (lM he1 (lM he2 (lM (bF5 (v:=.ref fN) hgN hmN rfl hdN) qA (dN rfl)) (dN hs.2)) (dN hs.1)) hd (dN hs.1) (kP (by simp[cX,hs.2];rfl))) fun Y H Q q=>?_
 obtain⟨O,F,E,q⟩:=q
 unfold mA aC at q
 cases h1:f1 O with
 |ok d1=>
  cases h2:f2 O with
  |ok d2=>
   have q':dB (bC X.K) F H (M [d1,d2]) Q:=by
    rw[h1]at q
    have:(aC f2 bP O)= .ok [d2]:=by unfold aC;rw[h2];rfl
    simpa[bA.bind,h2,bP]using q
   refine⟨O,F,E,?_⟩
   rw[h1]
   intro v1 F1 H1 g1 r1
   refine⟨O,F1,E.grow g1,?_⟩
   rw[h2]
   intro v2 F2 H2 g2 r2
   refine⟨F2,[d1,d2],[v1,v2],rfl,g2.tk (g1.tk E.tb),g2.sub,(fun p hp=>nomatch hp),DatL.cons (r1.mono g2.fs) (DatL.cons r2 DatL.nil),?_⟩
   exact(q'.grow g1).grow g2
  |ex _=>rw[h1]at q;simp[bA.bind,h2]at q;exact q.elim
  |bad=>rw[h1]at q;simp[bA.bind,h2]at q;exact q.elim
 |ex _=>rw[h1]at q;exact q.elim
 |bad=>rw[h1]at q;exact q.elim
end
end
section
def kA(tp:Bool)(h:Heap)(it l:Addr)(k:Nat):Prop:=match tp with
 |true=>h.IsTupleIter it l k
 |false=>h.IsListIter it l k
def mK(tp:Bool)(h:Heap)(l:Addr)(ys:Array Value):Prop:=match tp with
 |true=>h.IsTuple l ys
 |false=>h.IsList l ys
section
theorem kA.at_{it:Addr}(x:kA tp h it l k)(f:∀o,h.get? it=some o->h'.get? it=some o):kA tp h' it l k:=by
 cases tp
 ·exact Heap.IsListIter.at x f
 ·exact Heap.IsTupleIter.at x f
theorem mK.at_(x:mK tp h l ys)(f:∀o,h.get? l=some o->h'.get? l=some o):mK tp h' l ys:=by
 cases tp
 ·exact Heap.IsList.at x f
 ·exact Heap.IsTuple.at x f
theorem kA.obj{it:Addr}(x:kA tp h it l k):∃o,h.get? it=some o/\(o.cls= .type "tuple_iterator" \/o.cls= .type "list_iterator")/\o.data= .fields #[.ref l,.int k 0]:=by
 cases tp
 ·obtain⟨o,h1,h2,h3⟩:=x;exact⟨o,h1,.inr h2,h3⟩
 ·obtain⟨o,h1,h2,h3⟩:=x;exact⟨o,h1,.inl h2,h3⟩
theorem fU1{it:Addr}{x:Value}(hit:s.heap.IsTupleIter it l i)(hl:s.heap.IsTuple l ys)(hx:ys[i]? =some x)
 (hQ:∀h',h'.IsTupleIter it l (i+1)->Heap.SameBut it s.heap h'->Q x {s with heap:=h'}):wpAny (model prog w) A (nextOf (.ref it)) Q E s:=by
 obtain⟨o,ho,hc,hd⟩:=id hit;obtain⟨ol,hol,_,nl,hdl⟩:=hl;unfold nextOf
 refine wpAny_bind (wpAny_callSpecial?_slot (name:=ofString "__next__") hit.typeIs F.slot_tuple_iterator_next (wpAny_call_entry F.slot_tuple_iterator_next hit.typeIs F.entry_tuple_iterator_next ?_ (F.args_tuple_iterator_next_1 _)))
 show wpAny _ _ (field (.ref it) 0>>=_) _ _ s;refine wpAny_bind (wpAny_field ho hd (x:=.ref l) rfl ?_)
 show wpAny _ _ (if(Value.ref l==Value.none)=true then _ else _) _ _ s;rw[if_neg (show ¬ ((Value.ref l==Value.none)=true)from Bool.false_ne_true)]
 show wpAny _ _ (field (.ref it) 1>>=_) _ _ s;refine wpAny_bind (wpAny_field ho hd (x:=.int i 0) rfl ?_)
 show wpAny _ _ (seqItems? (.ref l)>>=_) _ _ s;refine wpAny_bind (wpAny_seqItems hol hdl ?_);simp only[Int.toNat_natCast,hx]
 refine wpAny_bind (wpAny_setField ho hd (by simp) (wpAny_pure ⟨x,rfl,wpAny_pure (hQ _ ⟨_,Heap.get?_update_self _ ho (Obj.isFreed_of_fields (Obj.data_mapFields hd _)),(Obj.cls_mapFields ..).trans hc,by rw[Obj.data_mapFields hd];simp[rawInt]⟩ (Heap.SameBut.update ..))⟩))
theorem fU2{it:Addr}(hh:A.handled=none)(hit:s.heap.IsTupleIter it l i)(hl:s.heap.IsTuple l ys)(hx:ys[i]? =none)
 (hE:∀h' e,Heap.ExtBut it s.heap h'->(∃o,h'.get? e=some o/\o.cls= .type "StopIteration")->E (.ref e) {s with heap:=h'}):wpAny (model prog w) A (nextOf (.ref it)) Q E s:=by
 obtain⟨o,ho,hc,hd⟩:=id hit;obtain⟨ol,hol,_,nl,hdl⟩:=hl;unfold nextOf
 refine wpAny_bind (wpAny_callSpecial?_slot (name:=ofString "__next__") hit.typeIs F.slot_tuple_iterator_next (wpAny_call_entry F.slot_tuple_iterator_next hit.typeIs F.entry_tuple_iterator_next ?_ (F.args_tuple_iterator_next_1 _)))
 show wpAny _ _ (field (.ref it) 0>>=_) _ _ s;refine wpAny_bind (wpAny_field ho hd (x:=.ref l) rfl ?_)
 show wpAny _ _ (if(Value.ref l==Value.none)=true then _ else _) _ _ s;rw[if_neg (show ¬ ((Value.ref l==Value.none)=true)from Bool.false_ne_true)]
 show wpAny _ _ (field (.ref it) 1>>=_) _ _ s;refine wpAny_bind (wpAny_field ho hd (x:=.int i 0) rfl ?_)
 show wpAny _ _ (seqItems? (.ref l)>>=_) _ _ s;refine wpAny_bind (wpAny_seqItems hol hdl ?_);simp only[Int.toNat_natCast,hx]
 refine wpAny_bind (wpAny_rule (wpAny_bind (wpAny_setField ho hd (by simp) ?_)));show wpAny _ _ (newExc (.type "StopIteration") []>>=_) _ _ _
 refine wpAny_bind ?_;simp only[newExc,newTuple];refine wpAny_bind (wpAny_newObj_type ?_ (by size_fits))
 refine wpAny_bind (m:=firstArgMember _ _) (wpAny_of_eq (a:=Value.none) (by first|rfl| (simp only[firstArgMember];rfl)) ?_);refine wpAny_newObj_type ?_ (by size_fits)
 simp only[raiseNew];refine wpAny_bind (wpAny_handled ?_);first|rw[show A.in1.handled=none from hh]|rw[hh]
 refine wpAny_bind (wpAny_pure (wpAny_throw ?_));exact hE _ _ (((Heap.SameBut.update ..).extBut.push _).push _) ⟨_,get?_push_size _ rfl,rfl⟩
theorem cE6{it:Addr}{x:Value}(hit:kA tp s.heap it l i)(hl:mK tp s.heap l ys)(hx:ys[i]? =some x)
 (hQ:∀h',kA tp h' it l (i+1)->Heap.SameBut it s.heap h'->Q x {s with heap:=h'}):wpAny (model prog w) A (nextOf (.ref it)) Q E s:=by
 cases tp
 ·exact wpAny_nextOf_list_item hit hl hx hQ
 ·exact fU1 hit hl hx hQ
theorem dD1{it:Addr}(hh:A.handled=none)(hit:kA tp s.heap it l i)(hl:mK tp s.heap l ys)(hx:ys[i]? =none)
 (hE:∀h' e,Heap.ExtBut it s.heap h'->(∃o,h'.get? e=some o/\o.cls= .type "StopIteration")->E (.ref e) {s with heap:=h'}):wpAny (model prog w) A (nextOf (.ref it)) Q E s:=by
 cases tp
 ·exact wpAny_nextOf_list_end hh hit hl hx hE
 ·exact fU2 hh hit hl hx hE
end
end
section
section
theorem fU3{z TI TO i1 i2 l1 l2:Addr}{k1 k2:Nat}{xs:Array Value}{x y a b:Value}{Q:Option Value->Shared->Prop}(D:ZipApart z TI TO i1 i2 l1 l2)
 (hz:IsZip s.heap z TI TO .none) (hTI:IsPair s.heap TI (.ref i1) (.ref i2)) (hTO:IsPair s.heap TO a b) (h1:kA t1 s.heap i1 l1 k1) (h2:kA t2 s.heap i2 l2 k2) (hl1:mK t1 s.heap l1 xs) (hl2:mK t2 s.heap l2 ys) (hx:xs[k1]? =some x) (hy:ys[k2]? =some y)
 (hQ:∀h',IsZip h' z TI TO (rawInt s.heap.objs.size)->IsPair h' TO x y->kA t1 h' i1 l1 (k1+1)->kA t2 h' i2 l2 (k2+1)->IsPair h' s.heap.objs.size x y->h'.objs.size=s.heap.objs.size+1->
   (∀c o,c≠z->c≠TO->c≠i1->c≠i2->s.heap.get? c=some o->h'.get? c=some o)->Q (some (.ref s.heap.objs.size)) {s with heap:=h'}):wpAny (model prog w) A (pyNext (.ref z)) Q E s:=by
 have hT:s.TypeIs (.ref z) "zip" :=⟨_,hz,rfl⟩
 unfold pyNext
 refine wpAny_bind (wpAny_attempt (wpAny_callSpecial?_slot (name:=ofString "__next__") hT F.slot_zip_next (wpAny_call_entry F.slot_zip_next hT F.entry_zip_next (wpAny_mono (Q:=fun cZ s'=>∃v,cZ= .done (.ret v)/\Q (some v) s') ?_ (fun cZ s' h=>?_) fun _ _ e=>e) (F.args_zip_next_1 _))))
 ·show wpAny _ _ (field (.ref z) 2>>=_) _ _ _;refine wpAny_bind (wpAny_field hz rfl (x:=.bool false) rfl ?_)
  show wpAny _ _ (field (.ref z) 3>>=_) _ _ _;refine wpAny_bind (wpAny_field hz rfl (x:=.ref TI) rfl ?_);refine wpAny_bind (wpAny_seqItems hTI rfl ?_)
  show wpAny _ _ (ownedTupleIsFree (.ref z)>>=_) _ _ _;refine wpAny_bind ?_;unfold ownedTupleIsFree
  refine wpAny_bind (wpAny_field hz rfl (x:=.none) rfl (wpAny_pure ?_));simp only[if_true]
  refine wpAny_bind (wpAny_rule (wpAny_bind (wpAny_field hz rfl (x:=.ref TO) rfl (wpAny_bind (wpAny_setField_rec hz (by simp) fun h₁ hz₁ hs₁=>?_)))))
  replace hz₁:IsZip h₁ z TI TO .ellipsis:=hz₁;refine wpAny_bind ?_;simp only[List.zipIdx_cons,List.zipIdx_nil,List.forIn_cons,List.forIn_nil]
  refine wpAny_bind (wpAny_bind (wpAny_onRaise ?_));show wpAny _ _ (nextOf (.ref i1)>>=_) _ _ _
  refine wpAny_bind (cE6 (h1.at_ fun o e=>hs₁.extBut _ _ D.i1z e) (hl1.at_ fun o e=>hs₁.extBut _ _ D.l1z e) hx fun h₂ h1₂ hs₂=>wpAny_pure ?_)
  have q2:IsPair h₂ TO a b:=hs₂.extBut _ _ D.TOi1 (hs₁.extBut _ _ D.TOz hTO)
  refine wpAny_bind (wpAny_seqItems q2 rfl (wpAny_bind (wpAny_updateSeq_pair q2 fun h₃ q3 hs₃=>?_)));replace q3:IsPair h₃ TO x b:=q3
  refine wpAny_bind (wpAny_letGo (wpAny_pure (wpAny_bind (wpAny_bind (wpAny_onRaise ?_)))));show wpAny _ _ (nextOf (.ref i2)>>=_) _ _ _
  have up3:∀c o,c≠z->c≠i1->c≠TO->s.heap.get? c=some o->h₃.get? c=some o:=fun c o c1 c2 c3 e=>hs₃.extBut _ _ c3 (hs₂.extBut _ _ c2 (hs₁.extBut _ _ c1 e))
  refine wpAny_bind (cE6 (h2.at_ fun o e=>up3 _ o D.i2z D.i12.symm D.TOi2.symm e) (hl2.at_ fun o e=>up3 _ o D.l2z D.l2i1 D.l2TO e) hy fun h₄ h2₄ hs₄=>wpAny_pure ?_)
  have q4:IsPair h₄ TO x b:=hs₄.extBut _ _ D.TOi2 q3
  refine wpAny_bind (wpAny_seqItems q4 rfl (wpAny_bind (wpAny_updateSeq_pair q4 fun h₅ q5 hs₅=>?_)));replace q5:IsPair h₅ TO x y:=q5
  refine wpAny_bind (wpAny_letGo (wpAny_pure (wpAny_pure (wpAny_bind (wpAny_seqItems q5 rfl (wpAny_bind (wpAny_newTuple ?_)))))))
  have hsz:h₅.objs.size=s.heap.objs.size:=by rw[hs₅.1,hs₄.1,hs₃.1,hs₂.1,hs₁.1]
  have z5:IsZip h₅ z TI TO .ellipsis:=hs₅.extBut _ _ D.TOz.symm (hs₄.extBut _ _ D.i2z.symm (hs₃.extBut _ _ D.TOz.symm (hs₂.extBut _ _ D.i1z.symm hz₁)))
  have up5:∀c o,c≠z->c≠TO->c≠i1->c≠i2->s.heap.get? c=some o->h₅.get? c=some o:=fun c o c1 c2 c3 c4 e=>hs₅.extBut _ _ c2 (hs₄.extBut _ _ c4 (up3 c o c1 c3 c2 e))
  have a1:kA t1 h₅ i1 l1 (k1+1):=h1₂.at_ fun o e=>hs₅.extBut _ _ D.TOi1.symm (hs₄.extBut _ _ D.i12 (hs₃.extBut _ _ D.TOi1.symm e))
  have a2:kA t2 h₅ i2 l2 (k2+1):=h2₄.at_ fun o e=>hs₅.extBut _ _ D.TOi2.symm e
  have ltz:z<h₅.objs.size:=lt_size z5
  show wpAny _ _ (Builtin.SmallTypes.ownedTupleHandOut (.ref z) (.ref h₅.objs.size)>>=_) _ _ _;refine wpAny_bind ?_;unfold Builtin.SmallTypes.ownedTupleHandOut
  have z6:IsZip (h₅.push {cls:=.type "tuple",data:=.seq #[x,y]}) z TI TO .ellipsis:=get?_push_of_some _ z5
  refine wpAny_bind (wpAny_setField_rec z6 (by simp) fun h₇ z7 hs₇=>?_);replace z7:IsZip h₇ z TI TO (rawInt h₅.objs.size):=z7
  refine wpAny_setField_rec z7 (by simp) fun h₈ z8 hs₈=>?_;replace z8:IsZip h₈ z TI TO (rawInt h₅.objs.size):=z8
  have up:∀c o,c≠z->h₅.get? c=some o->h₈.get? c=some o:=fun c o c1 e=>hs₈.extBut _ _ c1 (hs₇.extBut _ _ c1 (get?_push_of_some _ e))
  have p8:IsPair h₈ h₅.objs.size x y:=hs₈.extBut _ _ (ne_of_gt ltz) (hs₇.extBut _ _ (ne_of_gt ltz) (get?_push_size _ rfl))
  have s8:h₈.objs.size=h₅.objs.size+1:=by rw[hs₈.1,hs₇.1,size_push]
  rw[hsz]at z8 p8 s8
  refine wpAny_pure ⟨_,rfl,?_⟩;show Q (some (.ref h₅.objs.size)) _;rw[hsz]
  exact hQ h₈ z8 (up _ _ D.TOz q5) (a1.at_ fun o e=>up _ o D.i1z e) (a2.at_ fun o e=>up _ o D.i2z e) p8 s8 fun c o c1 c2 c3 c4 e=>up c o c1 (up5 c o c1 c2 c3 c4 e)
 ·obtain⟨v,rfl,h⟩:=h
  exact⟨v,rfl,wpAny_pure h⟩
theorem fU4{z TI TO i1 i2 l1 l2:Addr}{k1 k2:Nat}{xs:Array Value}{a b:Value}{Q:Option Value->Shared->Prop}(hh:A.handled=none)(D:ZipApart z TI TO i1 i2 l1 l2)
 (hz:IsZip s.heap z TI TO .none) (hTI:IsPair s.heap TI (.ref i1) (.ref i2)) (hTO:IsPair s.heap TO a b) (h1:kA t1 s.heap i1 l1 k1) (h2:kA t2 s.heap i2 l2 k2) (hl1:mK t1 s.heap l1 xs) (hl2:mK t2 s.heap l2 ys) (hend:xs[k1]? =none\/ys[k2]? =none)
 (hQ:∀h',(∀c o,c≠z->c≠TO->c≠i1->c≠i2->s.heap.get? c=some o->h'.get? c=some o)->Q none {s with heap:=h'}):wpAny (model prog w) A (pyNext (.ref z)) Q E s:=by
 have hT:s.TypeIs (.ref z) "zip" :=⟨_,hz,rfl⟩
 unfold pyNext
 have cZ:∀h' e,(∀c o,c≠z->c≠TO->c≠i1->c≠i2->s.heap.get? c=some o->h'.get? c=some o)->(∃o,h'.get? e=some o/\o.cls= .type "StopIteration")->
  wpAny (model prog w) A (do if(<-isInstance (.ref e) (.type "StopIteration"))=true then pure none else throw (.ref e)) Q E {s with heap:=h'}:=fun h' e hk he=>by
  obtain⟨o,ho,hc⟩:=he
  exact wpAny_bind (wpAny_isInstance (T:="StopIteration") (b:=true) ⟨o,ho,hc⟩ isSubtype_stop (wpAny_pure (hQ _ hk)))
 refine wpAny_bind (wpAny_attempt (wpAny_callSpecial?_slot (name:=ofString "__next__") hT F.slot_zip_next (wpAny_call_entry F.slot_zip_next hT F.entry_zip_next ?_ (F.args_zip_next_1 _))))
 show wpAny _ _ (field (.ref z) 2>>=_) _ _ _;refine wpAny_bind (wpAny_field hz rfl (x:=.bool false) rfl ?_)
 show wpAny _ _ (field (.ref z) 3>>=_) _ _ _;refine wpAny_bind (wpAny_field hz rfl (x:=.ref TI) rfl ?_);refine wpAny_bind (wpAny_seqItems hTI rfl ?_)
 show wpAny _ _ (ownedTupleIsFree (.ref z)>>=_) _ _ _;refine wpAny_bind ?_;unfold ownedTupleIsFree
 refine wpAny_bind (wpAny_field hz rfl (x:=.none) rfl (wpAny_pure ?_));simp only[if_true]
 refine wpAny_bind (wpAny_rule (wpAny_bind (wpAny_field hz rfl (x:=.ref TO) rfl (wpAny_bind (wpAny_setField_rec hz (by simp) fun h₁ hz₁ hs₁=>?_)))))
 replace hz₁:IsZip h₁ z TI TO .ellipsis:=hz₁;refine wpAny_bind ?_;simp only[List.zipIdx_cons,List.zipIdx_nil,List.forIn_cons,List.forIn_nil]
 refine wpAny_bind (wpAny_bind (wpAny_onRaise ?_));show wpAny _ _ (nextOf (.ref i1)>>=_) _ _ _
 cases hx:xs[k1]? with
 |none=>
  refine wpAny_bind (dD1 hh (h1.at_ fun o e=>hs₁.extBut _ _ D.i1z e) (hl1.at_ fun o e=>hs₁.extBut _ _ D.l1z e) hx fun h₂ e hs₂ he=>?_)
  obtain⟨oe,hoe,hce⟩:=he;have z2:IsZip h₂ z TI TO .ellipsis:=hs₂ _ _ D.i1z.symm hz₁
  have hez:e≠z:=fun x=>by subst x;rw[z2]at hoe;cases hoe;simp at hce
  refine wpAny_setField_rec z2 (by simp) fun h₃ _ hs₃=>cZ h₃ e (fun c o c1 _ c3 _ x=>hs₃.extBut _ _ c1 (hs₂ _ _ c3 (hs₁.extBut _ _ c1 x))) ⟨oe,hs₃.extBut _ _ hez hoe,hce⟩
 |some x=>
  have hy:ys[k2]? =none:=by rcases hend with h|h;rw[hx]at h;cases h;exact h
  refine wpAny_bind (cE6 (h1.at_ fun o e=>hs₁.extBut _ _ D.i1z e) (hl1.at_ fun o e=>hs₁.extBut _ _ D.l1z e) hx fun h₂ h1₂ hs₂=>wpAny_pure ?_)
  have q2:IsPair h₂ TO a b:=hs₂.extBut _ _ D.TOi1 (hs₁.extBut _ _ D.TOz hTO)
  refine wpAny_bind (wpAny_seqItems q2 rfl (wpAny_bind (wpAny_updateSeq_pair q2 fun h₃ q3 hs₃=>?_)))
  refine wpAny_bind (wpAny_letGo (wpAny_pure (wpAny_bind (wpAny_bind (wpAny_onRaise ?_)))));show wpAny _ _ (nextOf (.ref i2)>>=_) _ _ _
  have up3:∀c o,c≠z->c≠i1->c≠TO->s.heap.get? c=some o->h₃.get? c=some o:=fun c o c1 c2 c3 e=>hs₃.extBut _ _ c3 (hs₂.extBut _ _ c2 (hs₁.extBut _ _ c1 e))
  refine wpAny_bind (dD1 hh (h2.at_ fun o e=>up3 _ o D.i2z D.i12.symm D.TOi2.symm e) (hl2.at_ fun o e=>up3 _ o D.l2z D.l2i1 D.l2TO e) hy fun h₄ e hs₄ he=>?_)
  obtain⟨oe,hoe,hce⟩:=he;have z4:IsZip h₄ z TI TO .ellipsis:=hs₄ _ _ D.i2z.symm (hs₃.extBut _ _ D.TOz.symm (hs₂.extBut _ _ D.i1z.symm hz₁))
  have hez:e≠z:=fun x=>by subst x;rw[z4]at hoe;cases hoe;simp at hce
  refine wpAny_setField_rec z4 (by simp) fun h₅ _ hs₅=>cZ h₅ e (fun c o c1 c2 c3 c4 x=>hs₅.extBut _ _ c1 (hs₄ _ _ c4 (up3 c o c1 c3 c2 x))) ⟨oe,hs₅.extBut _ _ hez hoe,hce⟩
end
end
section
noncomputable def bA6(tp:Bool)(l:Addr):Obj:=match tp with
 |true=>{cls:=.type "tuple_iterator",data:=.fields #[.ref l,.int 0 0]}
 |false=>{cls:=.type "list_iterator",data:=.fields #[.ref l,.int 0 0]}
abbrev zA(t1:Bool)(h:Heap)(l1:Addr):Heap:=h.push (bA6 t1 l1)
abbrev zB(t1 t2:Bool)(h:Heap)(l1 l2:Addr):Heap:=(zA t1 h l1).push (bA6 t2 l2)
abbrev zC(t1 t2:Bool)(h:Heap)(l1 l2:Addr):Heap:=(zB t1 t2 h l1 l2).push {cls:=.type "tuple",data:=.seq #[.ref h.objs.size,.ref (zA t1 h l1).objs.size]}
abbrev zD(t1 t2:Bool)(h:Heap)(l1 l2:Addr):Heap:=(zC t1 t2 h l1 l2).push {cls:=.type "tuple",data:=.seq #[.none,.none]}
abbrev zE(t1 t2:Bool)(h:Heap)(l1 l2:Addr):Heap:=(zD t1 t2 h l1 l2).push {cls:=.type "zip",data:=.fields #[.none,.bool false,.bool false,.ref (zB t1 t2 h l1 l2).objs.size,.ref (zC t1 t2 h l1 l2).objs.size]}
theorem fU5(t1 t2:Bool)(l1 l2:Addr)(xs ys:Array Value):Meets (Builtin.«zip.__new__» ⟨[.type "zip",.ref l1,.ref l2],[]⟩) (fun _ R s=>mK t1 s.heap l1 xs/\mK t2 s.heap l2 ys/\R (.ok (.ret (.ref (zD t1 t2 s.heap l1 l2).objs.size))) {s with heap:=zE t1 t2 s.heap l1 l2}):=
 .of_wp fun prog w A R s h=>by
  obtain⟨hp,g,d,tk,os⟩:=s;obtain⟨hl1,hl2,h⟩:=h
  have hsub:=sub_zip
  cases t1<;>cases t2
  ·have hL1:Heap.IsList (Shared.heap ⟨hp,g,d,tk,os⟩) l1 xs:=hl1
   have hL2:Heap.IsList (Shared.heap ⟨hp.push {cls:=.type "list_iterator",data:=.fields #[.ref l1,.int 0 0]},g,d,tk,os⟩) l2 ys:=Heap.IsList.push hl2 _
   wp_walk using wpAny_pyIter_list hL1,wpAny_pyIter_list hL2
   exact⟨_,rfl,h⟩
  ·have hL1:Heap.IsList (Shared.heap ⟨hp,g,d,tk,os⟩) l1 xs:=hl1
   have hL2:Heap.IsTuple (Shared.heap ⟨hp.push {cls:=.type "list_iterator",data:=.fields #[.ref l1,.int 0 0]},g,d,tk,os⟩) l2 ys:=Heap.IsTuple.push hl2 _
   wp_walk using wpAny_pyIter_list hL1,wpAny_pyIter_tuple hL2
   exact⟨_,rfl,h⟩
  ·have hL1:Heap.IsTuple (Shared.heap ⟨hp,g,d,tk,os⟩) l1 xs:=hl1
   have hL2:Heap.IsList (Shared.heap ⟨hp.push {cls:=.type "tuple_iterator",data:=.fields #[.ref l1,.int 0 0]},g,d,tk,os⟩) l2 ys:=Heap.IsList.push hl2 _
   wp_walk using wpAny_pyIter_tuple hL1,wpAny_pyIter_list hL2
   exact⟨_,rfl,h⟩
  ·have hL1:Heap.IsTuple (Shared.heap ⟨hp,g,d,tk,os⟩) l1 xs:=hl1
   have hL2:Heap.IsTuple (Shared.heap ⟨hp.push {cls:=.type "tuple_iterator",data:=.fields #[.ref l1,.int 0 0]},g,d,tk,os⟩) l2 ys:=Heap.IsTuple.push hl2 _
   wp_walk using wpAny_pyIter_tuple hL1,wpAny_pyIter_tuple hL2
   exact⟨_,rfl,h⟩
theorem dD2(e:h.get? a=some (bA6 tp l)):kA tp h a l 0:=by
 cases tp
 ·exact⟨_,e,rfl,rfl⟩
 ·exact⟨_,e,rfl,rfl⟩
section
theorem fU6{l1 l2:Addr}{xs:Array Value}(hl1:mK t1 s.heap l1 xs)(hl2:mK t2 s.heap l2 ys)
 (h:∀h',IsZip h' (s.heap.objs.size+4) (s.heap.objs.size+2) (s.heap.objs.size+3) .none->IsPair h' (s.heap.objs.size+2) (.ref s.heap.objs.size) (.ref (s.heap.objs.size+1))->
   IsPair h' (s.heap.objs.size+3) .none .none->kA t1 h' s.heap.objs.size l1 0->kA t2 h' (s.heap.objs.size+1) l2 0->h'.objs.size=s.heap.objs.size+5->
   (∀c o,s.heap.get? c=some o->h'.get? c=some o)->Q (.ref (s.heap.objs.size+4)) {s with heap:=h'}):wpAny (model prog w) A (call (.type "zip") [.ref l1,.ref l2]) Q E s:=by
 refine callType_new F.called_zip (by decide) (F.typeCall_zip_2 _ _) (F.newCall_zip_2 _ _) (fun obj=>F.args_object_init_3 obj _ _) F.entry_zip_new (fU5 t1 t2 l1 l2 xs ys) ⟨hl1,hl2,?_⟩
 have n1:(zA t1 s.heap l1).objs.size=s.heap.objs.size+1:=size_push ..
 have n2:(zB t1 t2 s.heap l1 l2).objs.size=s.heap.objs.size+2:=by rw[size_push,n1]
 have n3:(zC t1 t2 s.heap l1 l2).objs.size=s.heap.objs.size+3:=by rw[size_push,n2]
 have n4:(zD t1 t2 s.heap l1 l2).objs.size=s.heap.objs.size+4:=by rw[size_push,n3]
 have n5:(zE t1 t2 s.heap l1 l2).objs.size=s.heap.objs.size+5:=by rw[size_push,n4]
 have g5:(zE t1 t2 s.heap l1 l2).get? (zD t1 t2 s.heap l1 l2).objs.size=some _:=get?_push_size _ rfl
 have g4:(zE t1 t2 s.heap l1 l2).get? (zC t1 t2 s.heap l1 l2).objs.size=some _:=get?_push_of_some _ (get?_push_size _ rfl)
 have g3:(zE t1 t2 s.heap l1 l2).get? (zB t1 t2 s.heap l1 l2).objs.size=some _:=get?_push_of_some _ (get?_push_of_some _ (get?_push_size _ rfl))
 have itf:∀tp l,(bA6 tp l).isFreed=false:=fun tp l=>by cases tp<;>rfl
 have g2:(zE t1 t2 s.heap l1 l2).get? (zA t1 s.heap l1).objs.size=some (bA6 t2 l2):=get?_push_of_some _ (get?_push_of_some _ (get?_push_of_some _ (get?_push_size _ (itf t2 l2))))
 have g1:(zE t1 t2 s.heap l1 l2).get? s.heap.objs.size=some (bA6 t1 l1):=get?_push_of_some _ (get?_push_of_some _ (get?_push_of_some _ (get?_push_of_some _ (get?_push_size _ (itf t1 l1)))))
 show _/\_
 rw[n2,n3,n4]at g5
 rw[n1,n2]at g3
 rw[n3]at g4
 rw[n1]at g2
 rw[n4]
 exact⟨⟨_,g5,rfl⟩,h _ g5 g3 g4 (dD2 g1) (dD2 g2) n5 fun c o x=>get?_push_of_some _ (get?_push_of_some _ (get?_push_of_some _ (get?_push_of_some _ (get?_push_of_some _ x))))⟩
end
end
section
def Sq(tp:Bool)(K:W.Frag)(H:Hp)(a:Addr)(xs:List V):Prop:=match tp with
 |true=>gL K H a xs
 |false=>dO K H a xs
section
theorem xY(I:bE X pc Y H s)(h:Sq tp X.K H a xs):∃its:List Value,bV xs its/\mK tp s.heap a its.toArray/\xs.length<=sizeLine:=by
 cases tp
 ·obtain⟨its,r,p,z⟩:=I.list h;exact⟨its,r,p.isList,z⟩
 ·obtain⟨its,r,p,z⟩:=I.tuple h;exact⟨its,r,p,z⟩
theorem dD3(I:bE X pc Y H s){ys:List V}(h:Sq tp X.K H a xs)(h2:Sq tp X.K H a ys):xs=ys:=by
 cases tp
 ·exact I.list_inj h h2
 ·exact I.tuple_inj h h2
theorem dD4{b:Addr}{u:HO}(h:Rd H a u)(hb:H b=none):a≠b:=fun z=>by
 subst z
 rcases h with h|⟨o,h⟩
 ·rw[hb]at h;cases h
 ·rw[hb]at h;cases h
theorem bQ5(I:bE X pc Y H s){b:Addr}(h:Sq tp X.K H a xs)(f:jP X pc H b):a≠b:=by
 have fromK:∀o,X.K.lookup a=some o->a≠b:=fun o e z=>by
  subst z
  have e1:=I.ok.mod.kin _ _ e
  rcases f.2.2.2.1 with q|q
  ·exact I.ok.noex _ _ e1 q
  ·exact absurd (lt_of_lt_of_le (lt_size (I.ok.bs _ _ e1).1) q) (lt_irrefl _)
 cases tp
 ·rcases h with h|⟨o,_,_,h,_⟩
  ·exact dD4 h f.1
  ·exact fromK o h
 ·rcases h with h|⟨o,_,_,h,_⟩
  ·exact dD4 h f.1
  ·exact fromK o h
theorem Sq.same(sm:bF F F')(h:Sq tp K F a xs):Sq tp K F' a xs:=by
 cases tp
 ·exact bF.seq sm h
 ·exact bF.seqT sm h
theorem bQ6{t':Nat}(I:bE X pc Y H s)(hf:∀b∈ch,jP X pc H b)(k:∀b o,b∉ch->s.heap.get? b=some o->h'.get? b=some o):bE X pc Y H {s with heap:=h',toks:=t'}:=by
 have nit:∀b u,H b=some u->b∉ch:=fun b u e z=>by have:=(hf b z).1;rw[e]at this;cases this
 refine I.step (g':=s.gens) (d':=s.drawn) (ch:=ch) (fun b hb=>?_) (fun b o _ _ hc e _=>k b o hc e) (fun b o _ _ hc e _=>⟨o.slots,k b o hc e⟩) (fun _ _ _ _ n=>n) (fun b o hc e=>⟨o,k b o hc e⟩) (fun _ _ e=>e) (fun _ _ _ e=>e) (fun b ps e=>⟨#[],by rw[e];simp⟩) (fun m hm=>?_) (fun b u e=>?_) I.bare
 ·obtain⟨_,f1,_,f3,f4,f5⟩:=hf b hb;exact⟨f3,f1,f4,f5⟩
 ·obtain⟨o,es,ep,ho,r⟩:=hm
  exact⟨o,es,ep,k _ o (fun z=>(hf _ z).2.1 rfl) ho,r⟩
 ·refine(I.hok b u e).stay (fun c v hc q=>k c v ?_ q) (fun _ q=>q) fun _ _ q=>q
  rcases hc with z|z
  ·rw[z];exact nit b u e
  ·exact nit c _ z
theorem dD5{t':Nat}{x y:V}{u v:Value}(I:bE X pc Y H s)(hf:∀b∈ch,jP X pc H b)(k:∀b o,b∉ch->s.heap.get? b=some o->h'.get? b=some o)(rx:cG x u)(ry:cG y v)(hp:IsPair h' s.heap.objs.size u v):
 bE X pc Y (upd H s.heap.objs.size (.tup [x,y])) {s with heap:=h',toks:=t'}:=by
 have hfr:H s.heap.objs.size=none:=I.hok.fresh (le_refl _)
 have nit:∀b u,H b=some u->b∉ch:=fun b u e z=>by have:=(hf b z).1;rw[e]at this;cases this
 have sm:bF H (upd H s.heap.objs.size (.tup [x,y])):=fun b o e=>by rw[cK (fun z=>by rw[z,hfr]at e;cases e)];exact e
 refine I.step (g':=s.gens) (d':=s.drawn) (ch:=ch) (fun b hb=>?_) (fun b o _ _ hc e _=>k b o hc e) (fun b o _ _ hc e _=>⟨o.slots,k b o hc e⟩) (fun b o _ e n=>?_) (fun b o hc e=>⟨o,k b o hc e⟩) (fun _ _ e=>sm _ _ e) (fun _ _ _ e=>sm _ _ e) (fun b ps e=>⟨#[],by rw[sm _ _ e];simp⟩) (fun m hm=>?_) (fun b u e=>?_) I.bare
 ·obtain⟨_,f1,_,f3,f4,f5⟩:=hf b hb;exact⟨f3,f1,f4,f5⟩
 ·rw[cK (ne_of_lt (lt_size e))];exact n
 ·obtain⟨o,es,ep,ho,r⟩:=hm
  exact⟨o,es,ep,k _ o (fun z=>(hf _ z).2.1 rfl) ho,r⟩
 ·by_cases z:b=s.heap.objs.size
  ·subst z
   rw[dY]at e;cases e
   exact⟨by show 2<=sizeLine;decide,_,.cons rx (.cons ry .nil),_,hp,rfl,_,rfl⟩
  ·rw[cK z]at e
   refine(I.hok b u e).stay (fun c v hc q=>k c v ?_ q) (fun _ q=>sm _ _ q) fun _ _ q=>sm _ _ q
   rcases hc with z|z
   ·rw[z];exact nit b u e
   ·exact nit c _ z
end
def Itz(t1 t2:Bool)(K:W.Frag)(a b:Addr):It:=
 ⟨fun i H=>∃xs ys x y,Sq t1 K H a xs/\Sq t2 K H b ys/\xs[i]? =some x/\ys[i]? =some y,
  fun i H v H'=>∃p x y,H p=none/\v= .ref p/\H'=upd H p (.tup [x,y])/\ ∀xs ys,Sq t1 K H a xs->Sq t2 K H b ys->xs[i]? =some x/\ys[i]? =some y,
  fun i H=>∃xs ys,Sq t1 K H a xs/\Sq t2 K H b ys/\(xs.length<=i\/ys.length<=i)⟩
def fU7(t1 t2:Bool)(z TI TO i1 i2 a b:Addr)(i:Nat)(h:Heap):Prop:=IsZip h z TI TO .none/\IsPair h TI (.ref i1) (.ref i2)/\(∃u v,IsPair h TO u v)/\kA t1 h i1 a i/\kA t2 h i2 b i
structure fU8(z TI TO i1 i2:Addr):Prop where
 d1:TI≠z
 d2:TO≠z
 d3:i1≠z
 d4:i2≠z
 d5:TI≠TO
 d6:TI≠i1
 d7:TI≠i2
 d8:TO≠i1
 d9:TO≠i2
 d10:i1≠i2
theorem fU9{kk:Nat}{z TI TO i1 i2 b:Addr}(V:fU8 z TI TO i1 i2):
 rS P w K (.Tuple elts kk pos) (Itz t1 t2 K a b) [z,TI,TO,i1,i2] z (fU7 t1 t2 z TI TO i1 i2 a b)where
 mem:=by simp
 obj:=fun i h st c hc=>by
  obtain⟨h1,h2,⟨u,v,h3⟩,h4,h5⟩:=st
  have hc':c=z\/c=TI\/c=TO\/c=i1\/c=i2:=by simpa using hc
  rcases hc' with rfl|rfl|rfl|rfl|rfl
  ·exact⟨_,h1,fun v q=>by cases(show Data.fields _=Data.cell v from q)⟩
  ·exact⟨_,h2,fun v q=>by cases(show Data.seq _ _=Data.cell v from q)⟩
  ·exact⟨_,h3,fun v q=>by cases(show Data.seq _ _=Data.cell v from q)⟩
  ·obtain⟨o,e,_,d⟩:=h4.obj;exact⟨o,e,fun v q=>by rw[d]at q;cases q⟩
  ·obtain⟨o,e,_,d⟩:=h5.obj;exact⟨o,e,fun v q=>by rw[d]at q;cases q⟩
 keep:=fun i h h' st k=>by
  obtain⟨h1,h2,⟨u,v,h3⟩,h4,h5⟩:=st
  exact⟨k z (by simp) _ h1,k TI (by simp) _ h2,⟨u,v,k TO (by simp) _ h3⟩,h4.at_ fun o e=>k i1 (by simp) o e,h5.at_ fun o e=>k i2 (by simp) o e⟩
 item:=by
  intro X hP hw hK hc i pc s Y H E I hf st hg
  subst hP hw hK
  obtain⟨xs,ys,x,y,hq1,hq2,hx,hy⟩:=hg
  obtain⟨its1,r1,p1,z1⟩:=xY I hq1
  obtain⟨its2,r2,p2,z2⟩:=xY I hq2
  obtain⟨u,hu,ru⟩:=r1.get hx
  obtain⟨v,hv,rv⟩:=r2.get hy
  obtain⟨h1,h2,⟨u0,v0,h3⟩,h4,h5⟩:=st
  have ne1:∀c∈ [z,TI,TO,i1,i2],a≠c:=fun c hc=>bQ5 I hq1 (hf c hc)
  have ne2:∀c∈ [z,TI,TO,i1,i2],b≠c:=fun c hc=>bQ5 I hq2 (hf c hc)
  have D:ZipApart z TI TO i1 i2 a b:=⟨V.d1,V.d2,V.d3,V.d4,V.d5,V.d6,V.d7,V.d8,V.d9,V.d10,ne1 z (by simp),ne1 TO (by simp),ne1 i1 (by simp),ne1 i2 (by simp),ne2 z (by simp),ne2 TO (by simp),ne2 i1 (by simp),ne2 i2 (by simp)⟩
  refine fU3 (xs:=its1.toArray) (ys:=its2.toArray) D h1 h2 h3 h4 h5 p1 p2 (x:=u) (y:=v) (by simpa using hu) (by simpa using hv) fun h' a1 a2 a3 a4 a5 a6 a7=>?_
  have hch:∀c∈ [z,TO,i1,i2],c∈ [z,TI,TO,i1,i2]:=fun c hc=>by simp at hc ⊢;rcases hc with rfl|rfl|rfl|rfl<;>simp
  have I1:=dD5 (t':=s.toks) (h':=h') (ch:=[z,TO,i1,i2]) I (fun c hc=>hf c (hch c hc)) (fun c o hc e=>a7 c o (fun q=>hc (by simp[q])) (fun q=>hc (by simp[q])) (fun q=>hc (by simp[q])) (fun q=>hc (by simp[q])) e) ru rv a5
  have lt:∀c∈ [z,TI,TO,i1,i2],c≠s.heap.objs.size:=fun c hc=>by
   have hc':c=z\/c=TI\/c=TO\/c=i1\/c=i2:=by simpa using hc
   rcases hc' with rfl|rfl|rfl|rfl|rfl
   ·exact ne_of_lt (lt_size h1)
   ·exact ne_of_lt (lt_size h2)
   ·exact ne_of_lt (lt_size h3)
   ·obtain⟨o,e,_⟩:=h4.obj;exact ne_of_lt (lt_size e)
   ·obtain⟨o,e,_⟩:=h5.obj;exact ne_of_lt (lt_size e)
  have f1:∀c∈ [z,TI,TO,i1,i2],jP X pc (upd H s.heap.objs.size (.tup [x,y])) c:=fun c hc=>⟨by rw[cK (lt c hc)];exact(hf c hc).1,(hf c hc).2⟩
  refine⟨_,rfl,wpAny_letOwnedTupleGo_zip (s:={s with heap:=h'}) a1 fun h'' b1 b2=>?_⟩
  have I2:bE X pc Y (upd H s.heap.objs.size (.tup [x,y])) {s with heap:=h''}:=bQ6 (s:={s with heap:=h'}) (t':=s.toks) (ch:=[z]) I1 (fun c hc=>f1 c (by rw[List.mem_singleton.mp hc];simp)) fun c o hc e=>b2.extBut _ _ (fun q=>hc (by simp[q])) e
  refine⟨.ref s.heap.objs.size,upd H s.heap.objs.size (.tup [x,y]),I2,rfl,⟨_,x,y,I.hok.fresh (le_refl _),rfl,rfl,fun xs' ys' q1 q2=>?_⟩,⟨b1,?_,⟨u,v,?_⟩,?_,?_⟩,fun c hc=>(f1 c hc).1⟩
  ·rw[dD3 I q1 hq1,dD3 I q2 hq2];exact⟨hx,hy⟩
  ·exact b2.extBut _ _ V.d1 (a7 _ _ V.d1 V.d5 V.d6 V.d7 h2)
  ·exact b2.extBut _ _ V.d2 a2
  ·exact a3.at_ fun o e=>b2.extBut _ _ V.d3 e
  ·exact a4.at_ fun o e=>b2.extBut _ _ V.d4 e
 done:=by
  intro X hP hw hK hc i pc s Y H E I hf st hg
  subst hP hw hK
  obtain⟨xs,ys,hq1,hq2,hx⟩:=hg
  obtain⟨its1,r1,p1,z1⟩:=xY I hq1
  obtain⟨its2,r2,p2,z2⟩:=xY I hq2
  obtain⟨h1,h2,⟨u0,v0,h3⟩,h4,h5⟩:=st
  have ne1:∀c∈ [z,TI,TO,i1,i2],a≠c:=fun c hc=>bQ5 I hq1 (hf c hc)
  have ne2:∀c∈ [z,TI,TO,i1,i2],b≠c:=fun c hc=>bQ5 I hq2 (hf c hc)
  have D:ZipApart z TI TO i1 i2 a b:=⟨V.d1,V.d2,V.d3,V.d4,V.d5,V.d6,V.d7,V.d8,V.d9,V.d10,ne1 z (by simp),ne1 TO (by simp),ne1 i1 (by simp),ne1 i2 (by simp),ne2 z (by simp),ne2 TO (by simp),ne2 i1 (by simp),ne2 i2 (by simp)⟩
  have hch:∀c∈ [z,TO,i1,i2],c∈ [z,TI,TO,i1,i2]:=fun c hc=>by simp at hc ⊢;rcases hc with rfl|rfl|rfl|rfl<;>simp
  have l1:=r1.length
  have l2:=r2.length
  refine fU4 (xs:=its1.toArray) (ys:=its2.toArray) (I.ok.hd hc) D h1 h2 h3 h4 h5 p1 p2 (by
   rcases hx with hx|hx
   ·exact .inl (by simp;omega)
   ·exact .inr (by simp;omega)) fun h' k=>⟨rfl,bQ6 (t':=s.toks) (ch:=[z,TO,i1,i2]) I (fun c hc=>hf c (hch c hc)) fun c o hc e=>k c o (fun q=>hc (by simp[q])) (fun q=>hc (by simp[q])) (fun q=>hc (by simp[q])) (fun q=>hc (by simp[q])) e⟩
 self:=fun _ _ _ _ _ st h=>wpAny_pyIter_zip st.1 h
end
section
variable [dF] [Pd]
noncomputable def pairD(ds es:List D):List D:=List.zipWith (fun d e=>D.tup [d,e]) ds es
theorem fV0{b:Addr}{ys:List V}{es:List D}(h1:Sq t1 K F a xs)(h2:Sq t2 K F b ys)(l1:DatL K F ds xs)(l2:DatL K F es ys):kN K F (Itz t1 t2 K a b) (pairD ds es):=fun n F2 H2 s1 s2=>by
 have q1:Sq t1 K H2 a xs:=(h1.same s1).same s2
 have q2:Sq t2 K H2 b ys:=(h2.same s1).same s2
 have e1:=l1.length
 have e2:=l2.length
 refine⟨fun d hd=>?_,fun hn=>?_⟩
 ·unfold pairD at hd
  rw[List.getElem?_zipWith]at hd
  cases hd1:ds[n]? with
  |none=>rw[hd1]at hd;cases hd
  |some d1=>
   cases hd2:es[n]? with
   |none=>rw[hd1,hd2]at hd;cases hd
   |some d2=>
    rw[hd1,hd2]at hd
    have hd':D.tup [d1,d2]=d:=Option.some.inj hd
    subst hd'
    obtain⟨x,hx,dx⟩:=pM l1.paired hd1
    obtain⟨y,hy,dy⟩:=pM l2.paired hd2
    refine⟨⟨xs,ys,x,y,q1,q2,hx,hy⟩,fun v H' yl=>?_⟩
    obtain⟨p,x',y',hp,rfl,rfl,hh⟩:=yl
    obtain⟨ex,ey⟩:=hh xs ys q1 q2
    rw[hx]at ex;cases ex
    rw[hy]at ey;cases ey
    refine⟨upd F2 p (.tup [x,y]),bQ.laid s2 hp _,?_⟩
    have fp:F2 p=none:=by
     cases z:F2 p with
     |none=>rfl
     |some u=>rw[s2 _ _ z]at hp;cases hp
    simp only[bC]
    exact⟨p,[x,y],rfl,gL.of dY,DatL.cons ((dx.mono s1).mono (jY fp _)) (DatL.cons ((dy.mono s1).mono (jY fp _)) DatL.nil)⟩
 ·refine⟨xs,ys,q1,q2,?_⟩
  unfold pairD at hn
  rw[List.length_zipWith]at hn
  omega
def xZ:D->D->bA (List D)
 | .tup ds,.tup es=>.ok (pairD ds es)
 | .tup ds,.lst es=>.ok (pairD ds es)
 | .lst ds,.tup es=>.ok (pairD ds es)
 | .lst ds,.lst es=>.ok (pairD ds es)
 |_,_=>.bad
def bA7(f g:ME):ML:=fun O=>(f O).bind fun d=>(g O).bind fun e=>xZ d e
theorem cE7{d:D}(h:bC K F d v):(∀ds,d≠ .tup ds/\d≠ .lst ds)\/ ∃t a xs ds,v= .ref a/\Sq t K F a xs/\DatL K F ds xs/\(d= .tup ds\/d= .lst ds):=by
 cases d with
 |tup ds=>simp only[bC]at h;obtain⟨a,xs,rfl,q,l⟩:=h;exact .inr ⟨true,a,xs,ds,rfl,q,l,.inl rfl⟩
 |lst ds=>simp only[bC]at h;obtain⟨a,xs,rfl,q,l⟩:=h;exact .inr ⟨false,a,xs,ds,rfl,q,l,.inr rfl⟩
 |_=>exact .inl fun ds=>⟨by simp,by simp⟩
theorem fV1{d e:D}{ps:List D}(h:xZ d e= .ok ps):∃ds es,(d= .tup ds\/d= .lst ds)/\(e= .tup es\/e= .lst es)/\ps=pairD ds es:=by
 cases d<;>cases e<;>first
  | (cases h;exact⟨_,_,.inl rfl,.inl rfl,rfl⟩)
  | (cases h;exact⟨_,_,.inl rfl,.inr rfl,rfl⟩)
  | (cases h;exact⟨_,_,.inr rfl,.inl rfl,rfl⟩)
  | (cases h;exact⟨_,_,.inr rfl,.inr rfl,rfl⟩)
  |cases h
section
variable{a b:Expr}{g:ME}
theorem fV2(hgl:X.env.scope.names.lookup ("zip" :Str)=some .globalImplicit)(hm:X.mg "zip" =none)(hn:cX [a,b]=true)(hf:IE X a f)(hg:IE X b g):II X (.Tuple elts k pt) (.Call (.Name "zip" p) [a,b] [] pos) (bA7 f g):=by
 intro pc s Y H R I ⟨O,F,E,q⟩
 have hs:fF a=false/\fF b=false:=by
  simp only[cX,all_cons,and_eq_true]at hn
  exact⟨by simpa using hn.1,by simpa using hn.2.1⟩
 have ha:IA X [a,b] (aC f (aC g bP)):=bO6 hf (bO6 hg kZ (dN hs.2)) (dN hs.1)
 unfold bA7 at q
 cases h1:f O with
 |ok d=>
  cases h2:g O with
  |ok e=>
   rw[h1,h2]at q
   cases h3:xZ d e with
   |ok ps=>
    have q':∀J F' H',bQ F H F' H'->kN X.K F' J ps->R J H':=by
     have q0:(match xZ d e with
      | .ok ds=>∀J F' H',bQ F H F' H'->kN X.K F' J ds->R J H'
      | .ex _=>False
      | .bad=>False):=q
     rw[h3]at q0;exact q0
    have hA:xK X (aC f (aC g bP)) Y H fun vs H1=>∃F1,bQ F H F1 H1/\DatL X.K F1 [d,e] vs:=by
     refine⟨O,F,E,?_⟩
     have e0:aC f (aC g bP) O= .ok [d,e]:=by simp[aC,bP,h1,h2,bA.bind]
     rw[e0]
     exact fun vs F1 H1 g1 dl=>⟨F1,g1,dl⟩
    refine Call_ (zK I hgl hm boot_zip (PyProof.Rows.callWith_type1 (bX (ha pos pc s Y H _ I hA) fun us s1 ⟨vs,H1,I1,r1,F1,g1,dl⟩=>?_) (dN hs.1) (kP (by simp[cX,hs.2]))))
    simp only[DatL]at dl
    obtain⟨v1,_,rfl,dd1,v2,_,rfl,dd2,rfl⟩:=dl
    obtain⟨ds,es,hd,he,rfl⟩:=fV1 h3
    rcases cE7 dd1 with n1|⟨t1,a1,xs,ds',rfl,s1q,l1,hd'⟩
    ·rcases hd with rfl|rfl
     ·exact absurd rfl (n1 ds).1
     ·exact absurd rfl (n1 ds).2
    rcases cE7 dd2 with n2|⟨t2,a2,ys,es',rfl,s2q,l2,he'⟩
    ·rcases he with rfl|rfl
     ·exact absurd rfl (n2 es).1
     ·exact absurd rfl (n2 es).2
    have eds:ds'=ds:=by rcases hd with rfl|rfl<;>rcases hd' with z|z<;>cases z<;>rfl
    have ees:es'=es:=by rcases he with rfl|rfl<;>rcases he' with z|z<;>cases z<;>rfl
    subst eds ees
    cases r1 with
    |cons r1 rr=>
     cases rr with
     |cons r2 rr=>
      cases rr
      cases r1
      cases r2
      obtain⟨its1,rv1,p1,z1⟩:=xY I1 (s1q.same g1.sub)
      obtain⟨its2,rv2,p2,z2⟩:=xY I1 (s2q.same g1.sub)
      refine fU6 p1 p2 fun h' b1 b2 b3 b4 b5 b6 b7=>?_
      refine wpAny_pyIter_zip (s:={s1 with heap:=h'}) b1 ?_
      refine⟨s1.heap.objs.size+4,[s1.heap.objs.size+4,s1.heap.objs.size+2,s1.heap.objs.size+3,s1.heap.objs.size,s1.heap.objs.size+1],_,_,H1,rfl,I1.kept (t':=s1.toks) b7,fU9 (t1:=t1) (t2:=t2) (a:=a1) (b:=a2) ⟨?_,?_,?_,?_,?_,?_,?_,?_,?_,?_⟩,⟨b1,b2,⟨_,_,b3⟩,b4,b5⟩,fun c hc=>?_,q' _ F1 H1 g1 (fV0 s1q s2q l1 l2)⟩
      all_goals first
       | (show(_:Nat)≠_;omega)
       |skip
      have hc':s1.heap.objs.size<=c:=by
       have hc2:c=s1.heap.objs.size+4\/c=s1.heap.objs.size+2\/c=s1.heap.objs.size+3\/c=s1.heap.objs.size\/c=s1.heap.objs.size+1:=by simpa using hc
       rcases hc2 with rfl|rfl|rfl|rfl|rfl
       ·exact le_add_right _ _
       ·exact le_add_right _ _
       ·exact le_add_right _ _
       ·exact le_refl _
       ·exact le_add_right _ _
      exact I1.fpOk hc' (I1.hok.fresh hc')
   |ex _=>
    have q0:(match xZ d e with
     | .ok ds=>∀J F' H',bQ F H F' H'->kN X.K F' J ds->R J H'
     | .ex _=>False
     | .bad=>False):=q
    rw[h3]at q0;exact q0.elim
   |bad=>
    have q0:(match xZ d e with
     | .ok ds=>∀J F' H',bQ F H F' H'->kN X.K F' J ds->R J H'
     | .ex _=>False
     | .bad=>False):=q
    rw[h3]at q0;exact q0.elim
  |ex _=>rw[h1,h2]at q;exact q.elim
  |bad=>rw[h1,h2]at q;exact q.elim
 |ex _=>rw[h1]at q;exact q.elim
 |bad=>rw[h1]at q;exact q.elim
end
def nV(i j:Nat)(body:MS):List D->MS
 | [],O=>.ok (.nx O)
 |d::ds,O=>match d with
  | .tup [x,y]=>(body ((O.set i (.val x)).set j (.val y))).bind fun fl=>match fl with
   | .nx ρ'=>nV i j body ds ρ'
   | .ct ρ'=>nV i j body ds ρ'
   | .bk ρ'=>.ok (.nx ρ')
   | .rt d=>.ok (.rt d)
   | .rr d ρ'=>.ok (.rr d ρ')
  |_=>.bad
def bH7(i j:Nat)(fl:ML)(body:MS):MS:=fun O=>(fl O).bind fun ds=>nV i j body ds O
section
theorem fV3{E:pZ}{bd:MS}{x y:D}(q:gD X Fa Ha (nV i j bd (.tup [x,y]::ds) O) E){N:St->Hp->Prop}(hN:∀ρ' Y F H,SR X.K Fa Ha F H ρ' Y->gD X Fa Ha (nV i j bd ds ρ') E->N Y H):
 gD X Fa Ha (bd ((O.set i (.val x)).set j (.val y))) {E with nx:=N,ct:=N,bk:=E.nx}:=by
 unfold nV at q
 revert q
 show gD X Fa Ha ((bd ((O.set i (.val x)).set j (.val y))).bind _) E->_
 cases bd ((O.set i (.val x)).set j (.val y))with
 |ok fl=>
  intro q
  cases fl with
  |nx ρ'=>exact fun Y F H S=>hN ρ' Y F H S q
  |ct ρ'=>exact fun Y F H S=>hN ρ' Y F H S q
  |bk ρ'=>exact q
  |rt d=>exact q
  |rr _ _=>exact q
 |ex _=>exact fun q=>q
 |bad=>exact fun q=>q
theorem fV4{E:pZ}{bd:MS}{d:D}(q:gD X Fa Ha (nV i j bd (d::ds) O) E):∃x y,d= .tup [x,y]:=by
 unfold nV at q
 split at q
 ·exact⟨_,_,rfl⟩
 ·exact q.elim
theorem fV5(hc:X.calm=true)(hp:PassesOwn (model X.prog X.w) X.A X.env X.xe)(hi:II X tg iter fl)(hg:PG X tg (zM X.K 2 (qW (mC i) (qW (mC j) zL))))(hb:kM X body u)(hs:∀x,foldedSetIterable iter X.env x=pure x):
 IS X (.For tg iter body [] pos) (bH7 i j fl u):=fun Fa Ha=>kE (cS2 hp hc hi hg (cW9 (Ha:=Ha) hb) hs) fun E Y H ⟨O,F,S,q⟩=>by
 refine⟨O,F,S.env,?_⟩
 unfold bH7 at q
 revert q
 cases fl O with
 |ok ds=>
  intro q J F1 H1 g1 it
  have S1:=S.grow g1
  refine⟨fun n m σ' H'=>m=ds.length-n/\n<=ds.length/\ ∃ρ' F',SR X.K F1 Ha F' H' ρ' σ'/\gD X F1 Ha (nV i j u (ds.drop n) ρ') E,⟨_,rfl,zero_le _,O,F1,S1.here,gD.here S1.gr q⟩,?_⟩
  rintro n m σ' H' ⟨rfl,hn,ρ',F',S',q'⟩
  obtain⟨h1,h2⟩:=it n F' H' S'.gr.fs S'.env.sub
  by_cases hlt:n<ds.length
  ·have hd:ds[n]? =some ds[n]:=getElem?_eq_getElem hlt
   obtain⟨go,yl⟩:=h1 _ hd
   refine .inr ⟨go,fun Y H=>∃O F',SR X.K F1 Ha F' H O Y/\gD X F1 Ha (nV i j u (ds.drop (n+1)) O) E,fun σ2 H2 h=>⟨ds.length-(n+1),by omega,rfl,hlt,h⟩,fun x H2 y=>?_⟩
   obtain⟨F2,g2,dx⟩:=yl x H2 y
   rw[List.drop_eq_getElem_cons hlt]at q'
   obtain⟨x1,y1,exy⟩:=fV4 q'
   rw[exy]at q' dx
   simp only[bC]at dx
   obtain⟨p,xs,rfl,sq,l1⟩:=dx
   simp only[DatL]at l1
   obtain⟨v1,_,rfl,dv1,v2,_,rfl,dv2,rfl⟩:=l1
   exact⟨p,_,rfl,bF.seqT g2.sub sq,rfl,v1,_,rfl,v2,_,rfl,rfl,F1,(ρ'.set i (.val x1)).set j (.val y1),F2,((S'.grow g2).set i dv1).set j dv2,fV3 q' fun ρ3 σ3 F3 H3 S3 q3=>⟨ρ3,F3,S3,q3⟩⟩
  ·have e:n=ds.length:=by omega
   subst e
   rw[List.drop_eq_nil_of_le (le_refl _)]at q'
   exact .inl ⟨h2 rfl,q' σ' F' H' S'⟩
 |ex _=>exact fun q=>q
 |bad=>exact fun q=>q
theorem dD7(hc:X.calm=true)(hN:X.N.Nodup)(hi:X.N[i]? =some x)(hx:Loc X.env.scope x)(hj:X.N[j]? =some y)(hy:Loc X.env.scope y)(hf:X.fn x=true\/X.env.scope.names.lookup x=some .local)(hf':X.fn y=true\/X.env.scope.names.lookup y=some .local):
 PG X (.Tuple [.Name x px,.Name y py] k pt) (zM X.K 2 (qW (mC i) (qW (mC j) zL))):=
 cR8 hc (bN5 (xD hN hi hx hf) (bN5 (xD hN hj hy hf') cR7 rfl) rfl) rfl rfl
end
noncomputable def kG{α:Type}(p:cU->bA α):cU->bA α
 | .val (.tup [a,b])::r=>p (.val a:: .val b::r)
 |_=>.bad
noncomputable def sp2:D->Option (List D)
 | .tup [a,b]=>some [a,b]
 |_=>none
theorem dD8{d:D}{es:List D}(h:sp2 d=some es):∃a b,d= .tup [a,b]/\es= [a,b]:=by
 unfold sp2 at h
 split at h
 ·cases h;exact⟨_,_,rfl,rfl⟩
 ·cases h
section
variable{x2:Str}{px2 spos:Pos}{kt:Nat}{p:MT}{g:ME}
theorem fV6(S:nS X scope [x,x2] caps js)(hc:X.calm=true):Tgt X scope (.Tuple [.Name x px,.Name x2 px2] kt pt) [x,x2] caps sp2 (zM X.K 2 (qW (mC 0) (qW (mC 1) zL))) (kG p) (kG g) p g where
 pg:=fun _ _ _ _ _=>
  have l1:=lookup_relabel_local (S.loc x mem_cons_self)
  have l2:=lookup_relabel_local (S.loc x2 (mem_cons_of_mem _ mem_cons_self))
  dD7 (i:=0) (j:=1) hc S.nd rfl (.inl l1) rfl (.inl l2) (.inr l1) (.inr l2)
 ok:=fun{d es v F H as σr} e dv sm la=>by
  obtain⟨a,b,rfl,rfl⟩:=dD8 e
  simp only[bC]at dv
  obtain⟨q,xs,rfl,sq,l⟩:=dv
  have l':=l
  simp only[DatL]at l
  obtain⟨v1,_,rfl,dv1,v2,_,rfl,dv2,rfl⟩:=l
  match as,la with
  | [o,o2],_=>exact⟨[v1,v2],rfl,l',q,_,rfl,bF.seqT sm sq,rfl,v1,_,rfl,v2,_,rfl,rfl,rfl,rfl⟩
 hp:=fun{d r b} h=>by
  unfold kG at h
  split at h
  ·rename_i e;cases e;exact⟨_,rfl⟩
  ·cases h
 eq:=fun r e=>by obtain⟨a,b,rfl,rfl⟩:=dD8 e;exact⟨rfl,rfl⟩
end
theorem jT{s t:Slot}(e:(O.set i s)[j]? =some t):(i=j/\t=s/\i<O.length)\/(i≠j/\O[j]? =some t):=by
 by_cases q:i=j
 ·subst q
  by_cases hl:i<O.length
  ·rw[getElem?_set_self hl]at e;cases e;exact .inl ⟨rfl,rfl,hl⟩
  ·rw[List.getElem?_eq_none (by rw[length_set];omega)]at e;cases e
 ·rw[getElem?_set_ne q]at e;exact .inr ⟨q,e⟩
section
variable{lp ap:Pos}{v:MS}
theorem dD9(S:SR X.K Fa Ha F H O Y)(hl:H l=none)(dl:DatL X.K F ds xs)(i:Nat):SR X.K Fa Ha F (upd H l (.lst xs)) (O.set i (.own ds)) (Y.set i (some (.ref l))):=by
 have g1:=bQ.laidN S.env.sub hl (.lst xs)
 have E1:=S.env.grow g1
 have fl:F l=none:=bF.free S.env.sub hl
 refine⟨S.gr.trans g1,⟨E1.tb,E1.sub,by rw[length_set,length_set];exact E1.len,fun j t e=>?_,fun j k ds es a n e1 e2 e3 e4=>?_⟩,fun j ds a e1 e2=>?_,?_⟩
 ·rcases jT e with⟨rfl,rfl,hl'⟩|⟨n,e⟩
  ·exact⟨some (.ref l),getElem?_set_self (by rw[<-E1.len];exact hl'),l,xs,rfl,dY,fl,dl⟩
  ·rw[getElem?_set_ne n];exact E1.at_ j t e
 ·rcases jT e1 with⟨rfl,z1,hl1⟩|⟨n1,e1⟩
  ·rcases jT e2 with⟨rfl,_,_⟩|⟨n2,e2⟩
   ·exact n rfl
   ·rw[getElem?_set_self (by rw[<-E1.len];exact hl1)]at e3
    cases e3
    rw[getElem?_set_ne n2]at e4
    obtain⟨o,h1,a',xs,rfl,h2,_⟩:=S.env.at_ k _ e2
    rw[e4]at h1;cases h1
    rw[hl]at h2;cases h2
  ·rcases jT e2 with⟨rfl,_,hl2⟩|⟨n2,e2⟩
   ·rw[getElem?_set_self (by rw[<-E1.len];exact hl2)]at e4
    cases e4
    rw[getElem?_set_ne n1]at e3
    obtain⟨o,h1,a',xs,rfl,h2,_⟩:=S.env.at_ j _ e1
    rw[e3]at h1;cases h1
    rw[hl]at h2;cases h2
   ·rw[getElem?_set_ne n1]at e3
    rw[getElem?_set_ne n2]at e4
    exact E1.apart j k ds es a n e1 e2 e3 e4
 ·rcases jT e1 with⟨rfl,_,hl1⟩|⟨n1,e1⟩
  ·rw[getElem?_set_self (by rw[<-E1.len];exact hl1)]at e2
   cases e2
   cases z:Ha l with
   |none=>rfl
   |some u=>exact absurd hl (S.gr.more l (by rw[z];simp))
  ·rw[getElem?_set_ne n1]at e2
   exact S.frh j ds a e1 e2
 ·exact S.rw.set i rfl _
theorem cE9{ds':List D}{xs':List V}(S:SR X.K Fa Ha F H O Y)(hi:O[i]? =some (.own ds))(h1:Y[i]? =some (some (.ref a)))(ha:H a=some (.lst xs))(fa:F a=none)(dl:DatL X.K F ds' xs'):SR X.K Fa Ha F (upd H a (.lst xs')) (O.set i (.own ds')) Y:=by
 have h0:Ha a=none:=S.frh i ds a hi h1
 refine⟨⟨fun b o nt z=>by rw[cK (pL z h0)];exact S.gr.same b o nt z,cB8 S.gr.more _ _,fun ti=>⟨(S.gr.tk ti).1.updL ha _,(S.gr.tk ti).2⟩,S.gr.fs,xJ S.gr.sub fa _,S.gr.new⟩,
  ⟨⟨S.env.tb.1.updL ha _,S.env.tb.2⟩,xJ S.env.sub fa _,by rw[length_set];exact S.env.len,fun j t e=>?_,fun j k ds2 es a' n e1 e2 e3 e4=>?_⟩,fun j ds2 a' e1 e2=>?_,S.rw.setL i rfl⟩
 ·rcases jT e with⟨rfl,rfl,_⟩|⟨n,e⟩
  ·exact⟨some (.ref a),h1,a,xs',rfl,dY,fa,dl⟩
  ·obtain⟨o,z1,z2⟩:=S.env.at_ j t e
   refine⟨o,z1,?_⟩
   cases t with
   |no=>trivial
   |val d'=>exact z2
   |is v' c=>exact z2
   |own es=>
    obtain⟨a',ys,rfl,y1,y2,y3⟩:=z2
    have na:a'≠a:=fun y=>by
     subst y
     exact S.env.apart i j ds es a' n hi e h1 z1
    exact⟨a',ys,rfl,by rw[cK na];exact y1,y2,y3⟩
   |row p ws k=>
    obtain⟨a',dx,l,rfl,hp,y⟩:=z2
    exact⟨a',dx,l,rfl,hp,by rw[cK (wZ y.o ha (fun z=>nomatch z))];exact y.o,y.n,y.w⟩
 ·have f1:∀(j:Nat) es,(O.set i (.own ds'))[j]? =some (.own es)->∃es',O[j]? =some (.own es'):=fun j es z=>by
   rcases jT z with⟨rfl,_,_⟩|⟨_,z⟩
   ·exact⟨ds,hi⟩
   ·exact⟨es,z⟩
  obtain⟨_,f2⟩:=f1 j _ e1
  obtain⟨_,f3⟩:=f1 k _ e2
  exact S.env.apart j k _ _ a' n f2 f3 e3 e4
 ·rcases jT e1 with⟨rfl,_,_⟩|⟨_,e1⟩
  ·exact S.frh i ds a' hi e2
  ·exact S.frh j ds2 a' e1 e2
noncomputable def hV(i:Nat):MS:=fun O=>.ok (.nx (O.set i (.own [])))
theorem fV7(hN:X.N.Nodup)(hi:X.N[i]? =some x)(hx:Loc X.env.scope x)(hf:X.fn x=true\/X.env.scope.names.lookup x=some .local):IS X (.Assign [.Name x p] (.List [] lp) pos) (hV i):=fun Fa Ha=>
 kE (zN (i:=i) hN hi hx (cA9 qA) (sN rfl) hf) fun E Y H ⟨O,F,S,q⟩=>⟨zero_le _,fun l hl=>q _ F _ (dD9 S hl DatL.nil i)⟩
def qK(i:Nat)(f:ME):MS:=fun O=>(f O).bind fun d=>match O[i]? with
 |some (.own ds)=>if ds.length<sizeLine then .ok (.nx (O.set i (.own (ds++ [d]))))else .bad
 |_=>.bad
theorem fV8(hv:hJ X.N X.env.scope i x)(hs:fF e=false)(hl:(ap.endLine==cp.line)=true)(hb:attributeBase (.Name x p) "append" X.env (eval (.Name x p) X.env)=eval (.Name x p) X.env)(he:IE X e f):
 IS X (.Expr (.Call (.Attribute (.Name x p) "append" ap) [e] [] cp) pos) (qK i f):=fun Fa Ha=>
 kE (bF6 (bN9 PySem.F.plainAttrs_list PySem.F.slot_list_append PySem.F.type_list_append bO0 (nK hv.n hv.v hv.d hv.c) (lM he qA (dN hs)) hb (by rw[bA4 (show cX [e]=true by simp[cX,hs])];rfl) hl (dN hs) (kP rfl)) (sN rfl)) fun E Y H ⟨O,F,S,q⟩=>by
 unfold qK at q
 cases hf:f O with
 |ok d=>
  rw[hf]at q
  have q0:gD X Fa Ha (match O[i]? with
   |some (.own ds)=>if ds.length<sizeLine then .ok (.nx (O.set i (.own (ds++ [d]))))else .bad
   |_=>.bad) E:=q
  split at q0
  ·rename_i ds hi
   split at q0
   ·rename_i hz
    obtain⟨o,h1,a,xs,rfl,h2,h3,h4⟩:=S.env.at_ i _ hi
    have q1:∀Y F H,SR X.K Fa Ha F H (O.set i (.own (ds++ [d]))) Y->E.nx Y H:=q0
    refine⟨.ref a,h1,.inl ⟨rfl,xs,dO.of h2⟩,O,F,S.env,?_⟩
    rw[hf]
    intro w F1 H1 g1 dw
    have ha:H1 a=some (.lst xs):=g1.same _ _ rfl h2
    have fa:F1 a=none:=g1.new _ h3 (by rw[h2];simp)
    have ln:=h4.length
    refine⟨a,xs,w,rfl,rfl,ha,by omega,?_⟩
    exact q1 Y F1 _ (cE9 (S.grow g1) hi h1 ha fa (DatL.of (sA (h4.mono g1.fs).paired (.cons dw .nil))))
   ·exact q0.elim
  ·exact q0.elim
 |ex _=>rw[hf]at q;exact q.elim
 |bad=>rw[hf]at q;exact q.elim
noncomputable def kB(i:Nat):MS:=fun O=>match O[i]? with
 |some (.own ds)=>.ok (.nx (O.set i (.val (.lst ds))))
 |_=>.bad
theorem fV9(h:kM X rest v):kM X rest (bB (kB i) v):=fun Fa Ha=>cB9 (h Fa Ha) fun E Y H ⟨O,F,S,q⟩=>by
 unfold bB kB at q
 split at q
 ·rename_i ds hi
  obtain⟨o,h1,a,xs,rfl,h2,h3,h4⟩:=S.env.at_ i _ hi
  have h0:Ha a=none:=S.frh i ds a hi h1
  have sF:bF F (upd F a (.lst xs)):=jY h3 _
  have hil:i<O.length:=(List.getElem?_eq_some_iff.mp hi).1
  have sH:bF (upd F a (.lst xs)) H:=fun b o e=>by
   by_cases z:b=a
   ·subst z;rw[dY]at e;cases e;exact h2
   ·rw[cK z]at e;exact S.env.sub b o e
  refine⟨O.set i (.val (.lst ds)),upd F a (.lst xs),⟨⟨S.gr.same,S.gr.more,fun t=>⟨(S.gr.tk t).1,(S.gr.tk t).2.upd a rfl⟩,S.gr.fs.trans sF,sH,fun b hb hn=>?_⟩,⟨⟨S.env.tb.1,S.env.tb.2.upd a rfl⟩,sH,by rw[length_set];exact S.env.len,fun j t e=>?_,fun j k ds' es a' n e1 e2 e3 e4=>?_⟩,fun j ds' a' e1 e2=>?_,S.rw.setL i rfl⟩,q⟩
  ·rw[cK (fun z=>hn (by rw[z];exact h0))];exact S.gr.new b hb hn
  ·rcases jT e with⟨rfl,rfl,_⟩|⟨n,e⟩
   ·refine⟨some (.ref a),h1,.ref a,rfl,?_⟩
    simp only[bC]
    exact⟨a,xs,rfl,dO.of dY,h4.mono sF⟩
   ·obtain⟨o,z1,z2⟩:=S.env.at_ j t e
    refine⟨o,z1,?_⟩
    cases t with
    |no=>trivial
    |val d'=>obtain⟨v',y1,y2⟩:=z2;exact⟨v',y1,y2.mono sF⟩
    |is v' c=>exact⟨z2.1,fun p hp=>sF _ _ (z2.2 p hp)⟩
    |own es=>
     obtain⟨a',ys,rfl,y1,y2,y3⟩:=z2
     have na:a'≠a:=fun y=>by
      subst y
      exact S.env.apart i j ds es a' n hi e h1 z1
     exact⟨a',ys,rfl,y1,by rw[cK na];exact y2,y3.mono sF⟩
    |row p ws k=>
     obtain⟨a',dx,l,rfl,hp,y⟩:=z2
     exact⟨a',dx,l,rfl,hp,y.o,by rw[cK (wZ y.o h2 (fun z=>nomatch z))];exact y.n,y.w.mono sF⟩
  ·rcases jT e1 with⟨_,z,_⟩|⟨_,e1⟩
   ·cases z
   ·rcases jT e2 with⟨_,z,_⟩|⟨_,e2⟩
    ·cases z
    ·exact S.env.apart j k ds' es a' n e1 e2 e3 e4
  ·rcases jT e1 with⟨_,z,_⟩|⟨_,e1⟩
   ·cases z
   ·exact S.frh j ds' a' e1 e2
 ·exact q.elim
end
end
section
def Ite(K:W.Frag)(a:Addr):It:=
 ⟨fun i H=>∃xs x,dO K H a xs/\xs[i]? =some x,
  fun i H v H'=>∃p x,H p=none/\v= .ref p/\H'=upd H p (.tup [.int (i:Int),x])/\ ∀xs,dO K H a xs->xs[i]? =some x,
  fun i H=>∃xs,dO K H a xs/\xs.length<=i⟩
def fW0(e it a:Addr)(i:Nat)(h:Heap):Prop:=(∃old,IsEnum h e it (i:Int) old)/\h.IsListIter it a i
theorem fW1{kk:Nat}{e it:Addr}(V:e≠it):rS P w K (.Tuple elts kk pos) (Ite K a) [e,it] e (fW0 e it a)where
 mem:=by simp
 obj:=fun i h st c hc=>by
  obtain⟨⟨old,h1⟩,o,h2,_,d⟩:=st
  have hc':c=e\/c=it:=by simpa using hc
  rcases hc' with rfl|rfl
  ·exact⟨_,h1,fun v q=>by cases(show Data.fields _=Data.cell v from q)⟩
  ·exact⟨o,h2,fun v q=>by rw[d]at q;cases q⟩
 keep:=fun i h h' st k=>⟨let ⟨old,h1⟩:=st.1;⟨old,k e (by simp) _ h1⟩,Heap.IsListIter.at st.2 fun o q=>k it (by simp) o q⟩
 item:=by
  intro X hP hw hK hc i pc s Y H E I hf st hg
  subst hP hw hK
  obtain⟨xs,x,hq,hx⟩:=hg
  obtain⟨its,rv,p,z⟩:=I.list hq
  obtain⟨u,hu,ru⟩:=rv.get hx
  obtain⟨⟨old,h1⟩,h2⟩:=st
  refine wpAny_pyNext_enum_item (items:=its.toArray) (x:=u) h1 h2 p.isList (by simpa using hu) V fun h' a1 a2 a3 a4 a5=>?_
  have I1:=dD5 (t':=s.toks+1) (h':=h') (ch:=[e,it]) (x:=.int (i:Int)) (y:=x) (u:=.int i s.toks) (v:=u) I hf (fun c o hc q=>a5 c o (fun z=>hc (by simp[z])) (fun z=>hc (by simp[z])) q) ⟨_,rfl⟩ ru a3
  have lt:∀c∈ [e,it],c≠s.heap.objs.size:=fun c hc=>by
   have hc':c=e\/c=it:=by simpa using hc
   rcases hc' with rfl|rfl
   ·exact ne_of_lt (lt_size h1)
   ·obtain⟨o,q,_⟩:=h2;exact ne_of_lt (lt_size q)
  have f1:∀c∈ [e,it],jP X pc (upd H s.heap.objs.size (.tup [.int (i:Int),x])) c:=fun c hc=>⟨by rw[cK (lt c hc)];exact(hf c hc).1,(hf c hc).2⟩
  refine⟨_,rfl,wpAny_letOwnedTupleGo_enum (s:={s with heap:=h',toks:=s.toks+1}) a1 fun h'' b1 b2=>?_⟩
  have I2:bE X pc Y (upd H s.heap.objs.size (.tup [.int (i:Int),x])) {s with heap:=h'',toks:=s.toks+1}:=bQ6 (s:={s with heap:=h',toks:=s.toks+1}) (t':=s.toks+1) (ch:=[e]) I1 (fun c hc=>f1 c (by rw[List.mem_singleton.mp hc];simp)) fun c o hc q=>b2.extBut _ _ (fun z=>hc (by simp[z])) q
  refine⟨.ref s.heap.objs.size,_,I2,rfl,⟨_,x,I.hok.fresh (le_refl _),rfl,rfl,fun xs' q=>by rw[I.list_inj q hq];exact hx⟩,⟨⟨u,by simpa using b1⟩,Heap.IsListIter.at a2 fun o q=>b2.extBut _ _ V.symm q⟩,fun c hc=>(f1 c hc).1⟩
 done:=by
  intro X hP hw hK hc i pc s Y H E I hf st hg
  subst hP hw hK
  obtain⟨xs,hq,hx⟩:=hg
  obtain⟨its,rv,p,z⟩:=I.list hq
  obtain⟨⟨old,h1⟩,h2⟩:=st
  have l1:=rv.length
  exact wpAny_pyNext_enum_end (items:=its.toArray) (I.ok.hd hc) h1 h2 p.isList (by simp;omega) fun h' k=>⟨rfl,bQ6 (t':=s.toks) (ch:=[it]) I (fun c hc=>hf c (by rw[List.mem_singleton.mp hc];simp)) fun c o hc q=>k c o (fun z=>hc (by simp[z])) q⟩
 self:=fun _ _ _ _ _ st h=>let ⟨_,h1⟩:=st.1;wpAny_pyIter_enum h1 h
variable [dF] [Pd]
def wH(ds:List D):List D:=pairD (upTo 0 ds.length) ds
theorem fW2(h:dO K F a xs)(l:DatL K F ds xs):kN K F (Ite K a) (wH ds):=fun n F2 H2 s1 s2=>by
 have q:dO K H2 a xs:=bF.seq s2 (bF.seq s1 h)
 have e1:=l.length
 have hl:(upTo 0 ds.length).length=ds.length:=by unfold upTo;rw[length_map,List.length_range]
 unfold wH pairD
 refine⟨fun d hd=>?_,fun hn=>⟨xs,q,by rw[List.length_zipWith,hl]at hn;omega⟩⟩
 rw[List.getElem?_zipWith]at hd
 cases hd2:ds[n]? with
 |none=>rw[hd2]at hd;revert hd;cases(upTo 0 ds.length)[n]? <;>intro hd<;>cases hd
 |some d2=>
  have hlt:n<ds.length:=(List.getElem?_eq_some_iff.mp hd2).1
  have hu:(upTo 0 ds.length)[n]? =some (.int (n:Int)):=by unfold upTo;rw[getElem?_map,List.getElem?_range hlt];simp
  rw[hd2,hu]at hd
  have hd':D.tup [.int (n:Int),d2]=d:=Option.some.inj hd
  subst hd'
  obtain⟨x,hx,dx⟩:=pM l.paired hd2
  refine⟨⟨xs,x,q,hx⟩,fun v H' yl=>?_⟩
  obtain⟨p,x',hp,rfl,rfl,hh⟩:=yl
  have ex:=hh xs q
  rw[hx]at ex;cases ex
  have fp:=bF.free s2 hp
  refine⟨upd F2 p (.tup [.int (n:Int),x]),bQ.laid s2 hp _,?_⟩
  simp only[bC]
  exact⟨p,_,rfl,gL.of dY,DatL.cons (by simp only[bC]) (DatL.cons ((dx.mono s1).mono (jY fp _)) DatL.nil)⟩
def fW3:D->bA (List D)
 | .lst ds=>.ok (wH ds)
 |_=>.bad
def bH8(f:ME):ML:=fun O=>(f O).bind fW3
section
variable{a:Expr}
theorem fW4(hgl:X.env.scope.names.lookup ("enumerate" :Str)=some .globalImplicit)(hm:X.mg "enumerate" =none)(hs:fF a=false)(hf:IE X a f):II X (.Tuple elts k pt) (.Call (.Name "enumerate" p) [a] [] pos) (bH8 f):=by
 intro pc s Y H R I ⟨O,F,E,q⟩
 have ha:IA X [a] (aC f bP):=bO6 hf kZ (dN hs)
 unfold bH8 at q
 cases h1:f O with
 |ok d=>
  rw[h1]at q
  cases d with
  |lst ds=>
   have q':∀J F' H',bQ F H F' H'->kN X.K F' J (wH ds)->R J H':=q
   have hA:xK X (aC f bP) Y H fun vs H1=>∃F1,bQ F H F1 H1/\DatL X.K F1 [.lst ds] vs:=by
    refine⟨O,F,E,?_⟩
    have e0:aC f bP O= .ok [.lst ds]:=by simp[aC,bP,h1,bA.bind]
    rw[e0]
    exact fun vs F1 H1 g1 dl=>⟨F1,g1,dl⟩
   refine Call_ (zK I hgl hm boot_enumerate (PyProof.Rows.callWith_type1 (bX (ha pos pc s Y H _ I hA) fun us s1 ⟨vs,H1,I1,r1,F1,g1,dl⟩=>?_) (dN hs) (kP rfl)))
   obtain⟨v,rfl,dv⟩:=lB dl
   simp only[bC]at dv
   obtain⟨b,xs,rfl,hq,hl⟩:=dv
   cases r1 with
   |cons r1 rr=>
    cases rr
    cases r1
    obtain⟨its,rv,p1,z1⟩:=I1.list (bF.seq g1.sub hq)
    refine call_enumerate_list p1.isList fun h' b1 b2 b3 b4=>?_
    refine wpAny_pyIter_enum (s:={s1 with heap:=h'}) b1 ?_
    refine⟨s1.heap.objs.size+1,[s1.heap.objs.size+1,s1.heap.objs.size],_,_,H1,rfl,I1.kept (t':=s1.toks) b4,fW1 (a:=b) (by show(_:Nat)≠_;omega),⟨⟨_,b1⟩,b2⟩,fun c hc=>?_,q' _ F1 H1 g1 (fW2 hq hl)⟩
    have hc':s1.heap.objs.size<=c:=by
     have hc2:c=s1.heap.objs.size+1\/c=s1.heap.objs.size:=by simpa using hc
     rcases hc2 with rfl|rfl
     ·exact le_add_right _ _
     ·exact le_refl _
    exact I1.fpOk hc' (I1.hok.fresh hc')
  |_=>exact q.elim
 |ex _=>rw[h1]at q;exact q.elim
 |bad=>rw[h1]at q;exact q.elim
noncomputable def bH9:List D->bA D
 | [.int i,.int j]=>.ok (.int (if j<i then j else i))
 |_=>.bad
noncomputable def bI0:List D->bA D
 | [.int i,.int j]=>.ok (.int (if j>i then j else i))
 |_=>.bad
theorem dE1{i j:Int}(h:DatL K F [.int i,.int j] xs):xs= [.int i,.int j]:=by
 simp only[DatL,bC]at h
 obtain⟨_,_,rfl,rfl,_,_,rfl,rfl,rfl⟩:=h
 rfl
theorem fW5(hc:X.calm=true):gM X (.builtin "min") (qE X bH9):=by
 intro pc s Y H xs us Q I r h
 obtain⟨F,ds,sb,hl,q⟩:=h
 unfold bH9 at q
 split at q
 ·cases dE1 hl
  exact fC3 hc pc s Y H _ us Q I r ⟨_,_,rfl,cL q sb (by simp only[bC])⟩
 ·exact q.elim
theorem fW6(hc:X.calm=true):gM X (.builtin "max") (qE X bI0):=by
 intro pc s Y H xs us Q I r h
 obtain⟨F,ds,sb,hl,q⟩:=h
 unfold bI0 at q
 split at q
 ·cases dE1 hl
  exact fC2 hc pc s Y H _ us Q I r ⟨_,_,rfl,cL q sb (by simp only[bC])⟩
 ·exact q.elim
end
section
variable{lp:Pos}
end
end
section
noncomputable def nA(Y:List Str)(k:Str):List Str:=if Y.any (· ==k)then Y else Y++ [k]
def kH(val:Nat->Str):Nat->List Str
 |0=>[]
 |i+1=>nA (kH val i) (val i)
theorem fW7(Y:List Str)(v k:Str):(nA Y v).any (· ==k)=(Y.any (· ==k)||decide (k=v)):=by
 unfold nA
 by_cases h:Y.any (· ==v)=true
 ·rw[if_pos h]
  by_cases e:k=v
  ·subst e;rw[h];simp
  ·simp[e]
 ·rw[if_neg h,List.any_append]
  by_cases e:k=v
  ·subst e;simp
  ·have hb:(v==k)=false:=beq_eq_false_iff_ne.mpr fun h'=>e h'.symm
   simp[hb,e]
theorem dE2(Y:List Str)(v:Str):(nA Y v).length=if Y.any (· ==v)then Y.length else Y.length+1:=by
 unfold nA;split<;>simp
theorem dE3(val:Nat->Str):∀i,(kH val i).length<=i
 |0=>le_refl _
 |i+1=>by
  rw[kH,dE2]
  have:=dE3 val i
  split<;>omega
theorem dE4{S S':Str->Bool}{n':Nat}(hS:h.SetOf (strKind prog w) a S n)(e:∀k,S k=S' k)(en:n=n'):h.SetOf (strKind prog w) a S' n':=by
 have z:S=S':=funext e
 subst z;subst en;exact hS
theorem cF0{S:Str->Bool}(hS:h.SetOf (strKind prog w) a S n)(k:∀o,h.get? a=some o->h'.get? a=some o):h'.SetOf (strKind prog w) a S n:=by
 obtain⟨o,es,ep,t,ho,r⟩:=hS
 exact⟨o,es,ep,t,k _ ho,r⟩
section
variable{R:Result->Shared->Prop}{I:Addr}{wr:List Addr}{P:Nat->Value->Prop}{St:Nat->Shared->Prop}
theorem dE5(W:WalksS prog w A.in1 I fp wr G n P St)(S:Addr)(hSf:S∉fp)(val:Nat->Str)(hval:∀i v,P i v->∃t,v= .str (val i) t)(hb:n+1<scanBound):∀(k i:Nat) (s:Shared),n-i=k->i<=n->St i s->
 s.heap.SetOf (strKind prog w) S (fun k'=>(kH val i).any (· ==k')) (kH val i).length->(∀s',Moved (S::wr) G s s'->s'.heap.SetOf (strKind prog w) S (fun k'=>(kH val n).any (· ==k')) (kH val n).length->R (.ok (.ret .none)) s')->
 codeAny (model prog w) A (.builtin "set.update.loop" ⟨[.ref S,.ref I],[]⟩) R s:=by
 have hSw:S∉wr:=fun h=>hSf (W.sub _ h)
 have hsub:∀b∈wr,b∈S::wr:=fun b hb=>mem_cons_of_mem _ hb
 intro k
 induction k with
 |zero=>
  intro i s hk hi hst hS hR
  obtain rfl:i=n:=by omega
  refine codeAny_builtin F.entry_set_update_loop ?_;rw[Around.under_plainId F.plain_set_update_loop _]
  show wpAny _ A.in1 (pyNext (.ref I)>>=_) _ _ s;refine wpAny_bind (W.done s _ _ hst fun s' hm=>?_)
  show wpAny _ A.in1 (ret Value.none) _ _ s';exact wpAny_pure (hR s' (hm.mono hsub) (cF0 hS fun o e=>hm.heap S _ hSw e))
 |succ k ih=>
  intro i s hk hi hst hS hR
  have hlt:i<n:=by omega
  refine codeAny_builtin F.entry_set_update_loop ?_;rw[Around.under_plainId F.plain_set_update_loop _]
  show wpAny _ A.in1 (pyNext (.ref I)>>=_) _ _ s;refine wpAny_bind (W.item i s _ _ hlt hst fun v s' hP hst' hm=>?_)
  obtain⟨t,rfl⟩:=hval i v hP
  have hS':=cF0 (h':=s'.heap) hS fun o e=>hm.heap S _ hSw e
  show wpAny _ A.in1 (holding [Value.str (val i) t] (setAdd S (.str (val i) t))>>=_) _ _ s'
  refine wpAny_bind (wpAny_holding ?_);unfold setAdd;refine wpAny_holding (wpAny_bind ((strKind prog w).pyHash (k:=val i) (strKind_is _ _ _ _) ?_))
  have hroom:(kH val i).length+1<scanBound:=by have:=dE3 val i;omega
  refine wpAny_setAddHashed_of (knd:=strKind prog w) (s:={s' with toks:=s'.toks+1}) (strKind_is _ _ _ _) rfl hS' hroom fun h' hsb hS2=>?_
  have hSi:h'.SetOf (strKind prog w) S (fun k'=>(kH val (i+1)).any (· ==k')) (kH val (i+1)).length:=dE4 hS2 (fun k'=>by rw[kH,fW7]) (by rw[kH,dE2])
  refine wpAny_pure ⟨plainId_quiet F.plain_set_update_loop _,ih (i+1) _ bD hlt (W.frame _ s' _ _ hst' (le_succ _) fun b hb o e=>?_) hSi fun s'' hm'' hS''=>?_⟩
  ·rw[hsb.2 b (fun z:b=S=>hSf (by rw[<-z];exact hb))];exact e
  ·refine hR s'' (Moved.trans W.gtrans ((hm.mono hsub).then_heap (le_succ _) fun b o hb e=>?_) hm'') hS''
   rw[hsb.2 b (fun z:b=S=>hb (by rw[z];exact mem_cons_self))];exact e
end
theorem fW8:isSubtype (.type "tuple") (.type "set")=pure false:=by rw[isSubtype_type];kernel_rfl
theorem fW9:isSubtype (.type "tuple") (.type "frozenset")=pure false:=by rw[isSubtype_type];kernel_rfl
theorem fX0:isSubtype (.type "list") (.type "set")=pure false:=by rw[isSubtype_type];kernel_rfl
theorem fX1:isSubtype (.type "list") (.type "frozenset")=pure false:=by rw[isSubtype_type];kernel_rfl
section
noncomputable abbrev vF(led:Bool):Obj:={cls:=.type "set",dict:=none,data:=.set #[] 0 (.fresh 0 0 led)}
theorem fX2{val:Nat->Str}(hh:A.handled=none)(hl:mK tp s.heap l items)(hval:∀(i:Nat) (v:Value),items[i]? =some v->∃t,v= .str (val i) t)(hb:items.size+1<scanBound)
 (h:∀(h':Heap) (tk:Nat),h'.SetOf (strKind prog w) s.heap.objs.size (fun k'=>(kH val items.size).any (· ==k')) (kH val items.size).length->(∀b o,s.heap.get? b=some o->h'.get? b=some o)->Q (.ref s.heap.objs.size) {s with heap:=h',toks:=tk}):
 wpAny (model prog w) A (call (.type "set") [.ref l]) Q E s:=by
 obtain⟨c,tl,hmro⟩:=F.called_set.mro
 have hmade:=F.called_set.made
 have hsub:=F.called_set.sub
 refine wpAny_call (codeAny_of_tree ?_);show wpAny _ _ (callAny (.type "set") _) _ _ _
 refine wpAny_pure ⟨Code.quiet_builtin _ dX,codeAny_builtin F.entry_type_call ?_⟩;rw[Around.under_plain (weight_type_call_type "set" [.ref l] []) rfl]
 have h1:=F.called_set.notType
 have h2:=F.called_set.canCreate
 have hct:=F.typeCall_set_1 (.ref l)
 repeat (any_goals (first|assumption|wp_step))
 refine codeAny_mono (code_set_new_1 (.ref l) (E:=E) (Q₁:=fun obj s₁=>∃led:Bool,obj= .ref s.heap.objs.size/\s₁={s with heap:=s.heap.push (vF led)}) fun led=>⟨led,rfl,rfl⟩) fun r s₁ hr=>?_
 cases r with
 |error e=>exact hr
 |ok fl=>
  cases fl with
  |ret obj=>
   obtain⟨led,rfl,rfl⟩:=hr
   have hS:(s.heap.push (vF led)).get? s.heap.objs.size=some (vF led):=get?_push_size _ rfl
   have hT:Shared.TypeIs {s with heap:=s.heap.push (vF led)} (.ref s.heap.objs.size) "set" :=⟨_,hS,rfl⟩
   have hli:=F.called_set.init.lookup
   have hbi:=F.called_set.init.bind (.ref s.heap.objs.size)
   repeat (any_goals (first|assumption|wp_step))
   refine codeAny_mono (codeAny_call_builtin (R:=wants (fun r s₂=>r= .none/\ ∃h' tk,s₂={s with heap:=h',toks:=tk}/\h'.SetOf (strKind prog w) s.heap.objs.size (fun k'=>(kH val items.size).any (· ==k')) (kH val items.size).length/\
    (∀b o,s.heap.get? b=some o->h'.get? b=some o)) E) F.called_set.init.plain F.entry_set_init (check_set_init_1 hT ?_)) fun r₂ s₂ hr₂=>?_
   ·have hlp:mK tp (s.heap.push (vF led)) l items:=hl.at_ fun o e=>get?_push_of_some _ e
    cases tp
    all_goals (
     obtain⟨ol,hol,hcl,nl,hdl⟩:=hl
     obtain⟨ocls,odict,odata,oslots⟩:=ol
     simp only at hcl hdl
     subst hcl;subst hdl
     have hol':=get?_push_of_some (vF led) hol
     have hsls:=fW8
     have hslf:=fW9
     have hsls':=fX0
     have hslf':=fX1
     have hne:(Value.type "tuple" ==Value.type "dict")=false:=by decide
     have hne':(Value.type "list" ==Value.type "dict")=false:=by decide
     unfold Builtin.«set.__init__» noKeywords Builtin.Frozenset.updateFrom
     generalize hPI:pyIter=PI
     wp_walk
     subst hPI
     first
      |refine wpAny_pyIter_tuple hlp (wpAny_bind (wpAny_runValue ?_))
      |refine wpAny_pyIter_list hlp (wpAny_bind (wpAny_runValue ?_))
     have hlS:l<s.heap.objs.size:=lt_size hol
     have hh3:A.in1.in1.in1.handled=none:=by simp[hh]
     have hneI:l≠(s.heap.push (vF led)).objs.size:=by rw[size_push];exact ne_of_lt (Nat.lt_succ_of_lt hlS)
     have hSf:s.heap.objs.size∉ [(s.heap.push (vF led)).objs.size,l]:=by
      rw[size_push];simp only[mem_cons,List.mem_singleton,not_mem_nil,or_false,not_or];exact⟨ne_of_lt (Nat.lt_succ_self _),ne_of_gt hlS⟩
     first
      |refine dE5 ((Walks.tuple hh3 _ l hneI items).toS) s.heap.objs.size hSf val hval hb (items.size-0) 0 _ bD (zero_le _) ⟨⟨_,get?_push_size _ rfl,rfl,rfl⟩,(Heap.IsTuple.push hlp _)⟩ ?hS0 ?hR
      |refine dE5 ((Walks.list hh3 _ l hneI items).toS) s.heap.objs.size hSf val hval hb (items.size-0) 0 _ bD (zero_le _) ⟨⟨_,get?_push_size _ rfl,rfl,rfl⟩,(Heap.IsList.push hlp _)⟩ ?hS0 ?hR
     case hS0=>exact dE4 ((PyProof.Rows.setObjOf_fresh (knd:=strKind prog w) led).setOf (get?_push_of_some _ hS) (by unfold scanBound;omega)) (fun _=>rfl) rfl
     case hR=>
      intro s' hm hS'
      obtain⟨h',g',d',tk',os'⟩:=s'
      have eg:g'=s.gens:=hm.gens
      have ed:d'=s.drawn:=hm.drawn
      have eo:os'=s.os:=hm.os
      subst eg;subst ed;subst eo
      show wpAny _ _ _ _ _ _;refine wpAny_pure ?_;show wpAny _ _ (ret Value.none) _ _ _
      refine wpAny_pure ⟨rfl,h',tk',rfl,hS',fun b o e=>?_⟩
      have hb:=lt_size e
      have hb1:b≠s.heap.objs.size:=ne_of_lt hb
      have hb2:b≠(s.heap.push (vF led)).objs.size:=by rw[size_push];exact ne_of_lt (Nat.lt_succ_of_lt hb)
      exact hm.heap b o (by simp only[mem_cons,List.mem_singleton,not_mem_nil,or_false,not_or];exact⟨hb1,hb2⟩) (get?_push_of_some _ (get?_push_of_some _ e)))
   ·cases r₂ with
    |error e=>exact hr₂
    |ok fl₂=>
     cases fl₂ with
     |ret r=>
      obtain⟨rfl,h',tk,rfl,hS',hk'⟩:=hr₂
      repeat (any_goals (first|assumption|wp_step))
      exact h _ _ hS' hk'
     |_=>exact hr₂.elim
  |_=>exact hr.elim
end
end
section
variable [dF] [Pd]
noncomputable def nW:List D->Option (List Str)
 | []=>some []
 | .str z::r=>(nW r).map (z:: ·)
 |_::_=>none
def sQ(zs:List Str):Nat:=(zs.foldl nA []).length
def bA8(ds:List D):bA D:=match nW ds with
 |some zs=>if zs.length<1000 then .ok (.int (sQ zs))else .bad
 |none=>.bad
def bA9:D->bA D
 | .tup ds=>bA8 ds
 | .lst ds=>bA8 ds
 |_=>.bad
theorem dE6(zs:List Str):∀i,i<=zs.length->kH (fun i=>zs.getD i "") i=(zs.take i).foldl nA []
 |0,_=>by simp[kH]
 |i+1,h=>by
  have hlt:i<zs.length:=by omega
  rw[kH,dE6 zs i bD,List.take_add_one,List.foldl_append,getElem?_eq_getElem hlt]
  simp[getD_eq_getElem?_getD,hlt]
theorem fX3(zs:List Str):kH (fun i=>zs.getD i "") zs.length=zs.foldl nA []:=by
 rw[dE6 zs zs.length (le_refl _),List.take_length]
theorem cF1:∀{ds:List D} {zs:List Str} {xs:List V},nW ds=some zs->DatL K F ds xs->xs=zs.map V.str
 | [],zs,xs,h,l=>by
  simp only[nW]at h;cases h
  simp only[DatL]at l;subst l;rfl
 |d::r,zs,xs,h,l=>by
  simp only[DatL]at l
  obtain⟨x,xr,rfl,h1,h2⟩:=l
  cases d with
  |str z=>
   simp only[nW]at h
   cases hr:nW r with
   |none=>rw[hr]at h;cases h
   |some zr=>
    rw[hr]at h;cases h
    simp only[bC]at h1
    rw[h1.1,cF1 hr h2];rfl
  |_=>cases h
abbrev cF2(X:Cx)(a:Addr)(zs:List Str):HO:=.ext fun h=>h.SetOf (strKind X.prog X.w) a (fun k'=>(zs.foldl nA []).any (· ==k')) (sQ zs)
section
variable{c1 c2:Pos}
theorem fX4(hc:X.calm=true):gM X (.type "set") (fun vs H Q=>∃t p zs,vs= [.ref p]/\Sq t X.K H p (zs.map V.str)/\zs.length<1000/\ ∀a,H a=none->Q (.ref a) (upd H a (cF2 X a zs))):=by
 intro pc s Y H xs us Q I r h
 obtain⟨t,p,zs,rfl,hq,hz,q⟩:=h
 obtain⟨u,rfl,rx⟩:=nL r
 cases rx
 obtain⟨its,rv,pl,_⟩:=xY I hq
 have ln:zs.length=its.length:=by have:=rv.length;rw[length_map]at this;exact this
 have hb:its.toArray.size+1<scanBound:=by rw[size_toArray];unfold scanBound;omega
 refine fX2 (val:=fun i=>zs.getD i "") (items:=its.toArray) (I.ok.hd hc) pl (fun i v hv=>?_) hb fun h' tk hS hk=>?_
 ·have hv':its[i]? =some v:=by simpa using hv
  have hi:i<zs.length:=by rw[ln];exact(List.getElem?_eq_some_iff.mp hv').1
  obtain⟨u,hu,ru⟩:=rv.get (i:=i) (x:=V.str zs[i]) (by rw[getElem?_map,getElem?_eq_getElem hi];rfl)
  rw[hv']at hu;cases hu
  obtain⟨t,rfl⟩:=ru
  exact⟨t,by rw[getD_eq_getElem?_getD,getElem?_eq_getElem hi];rfl⟩
 ·have hsz:its.toArray.size=zs.length:=by rw[size_toArray,ln]
  rw[hsz,fX3]at hS
  have hfr:=I.hok.fresh (le_refl s.heap.objs.size)
  obtain⟨o,es,ep,t,ho,r⟩:=id hS
  exact⟨.ref s.heap.objs.size,_,I.laid (o:=cF2 X s.heap.objs.size zs) (h':=h') (t':=tk) hk (le_refl _) (show _/\_ from⟨hS,⟨o,ho⟩,fun h1 h2 z k=>cF0 z k⟩),rfl,q _ hfr⟩
theorem fX5:gM X (.builtin "len") (fun vs H Q=>∃a zs,vs= [.ref a]/\H a=some (cF2 X a zs)/\zs.length<1000/\Q (.int (sQ zs)) H):=by
 intro pc s Y H xs us Q I r h
 obtain⟨a,zs,rfl,ha,hz,q⟩:=h
 obtain⟨u,rfl,rx⟩:=nL r
 cases rx
 obtain⟨⟨o,es,ep,t,h1,h2,h3,h4,h5,h6,h7,h8⟩,_⟩:=I.hok a _ ha
 have h6':es.size<4096:=h6
 exact call_len_set h1 h2 h3 h7 bD ⟨.int (sQ zs),H,I.tok _,⟨_,by rw[h8]⟩,q⟩
theorem fX6(hc:X.calm=true)(hs:fF e=false)(hg1:X.env.scope.names.lookup ("len" :Str)=some .globalImplicit)(hm1:X.mg "len" =none)(hg2:X.env.scope.names.lookup ("set" :Str)=some .globalImplicit)(hm2:X.mg "set" =none)(he:IE X e f):
 IE X (.Call (.Name "len" p1) [.Call (.Name "set" p2) [e] [] c2] [] c1) (m1 bA9 f):=by
 refine fL (cB1 fX5 hg1 hm1 boot_len (lM (cB2 (fX4 hc) hg2 hm2 boot_set (lM he qA (dN hs)) (by decide) (by decide) (dN hs) (kP rfl)) qA (dN rfl)) (by decide) (by decide) (dN rfl) (kP rfl)) fun Y H Q q=>?_
 obtain⟨O,F,E,q⟩:=q
 unfold m1 at q
 refine⟨O,F,E,?_⟩
 cases hf:f O with
 |ok d=>
  rw[hf]at q
  have q0:dB (bC X.K) F H (bA9 d) Q:=q
  intro v F1 H1 g1 d1
  rcases cE7 d1 with n1|⟨t,p,xs,ds,rfl,sq,l,hd⟩
  ·cases d<;>first
    |exact q0.elim
    |exact absurd rfl (n1 _).1
    |exact absurd rfl (n1 _).2
  have q1:dB (bC X.K) F H (bA8 ds) Q:=by rcases hd with rfl|rfl<;>exact q0
  unfold bA8 at q1
  split at q1
  ·rename_i zs hz
   split at q1
   ·rename_i hlt
    have ex:=cF1 hz l
    subst ex
    exact⟨t,p,zs,rfl,sq.same g1.sub,hlt,fun a ha=>⟨a,zs,rfl,dY,hlt,q1 _ F1 _ (g1.trans (bQ.laidN g1.sub ha _)) (by simp only[bC])⟩⟩
   ·exact q1.elim
  ·exact q1.elim
 |ex _=>rw[hf]at q;exact q.elim
 |bad=>rw[hf]at q;exact q.elim
end
noncomputable def dE7(b:List Stmt):Pos:=match b.getLast? with
 |some (.Return (some (.Call _ [_,_,.Lambda _ _ _ p] _ _)) _)=>p
 |_=>⟨0,0,0,0⟩
noncomputable def dE8(sc0:Scope)(b:List Stmt):Scope:=match b.getLast? with
 |some (.Return (some (.Call _ [_,_,.Lambda _ _ sc _] _ _)) _)=>sc
 |_=>sc0
theorem dE9(h1:scope.kind= .function)(h2:scope.isCoroutine=false)(h3:scope.isGenerator=false)(h4:(scope.names.all fun z=>decide (z.2≠ .cell))=true)(h5:scope.names.lookup x=some .local)(h6:scope.names.lookup y=some .free)
 (h7:(scope.names.all fun z=>decide (z.2= .free->z.1=y))=true):bH5 x y scope:=
 ⟨h1,h2,h3,fun z hz=>of_decide_eq_true (List.all_eq_true.mp h4 z hz),h5,h6,fun z hz=>of_decide_eq_true (List.all_eq_true.mp h7 (z,.free) (PySem.mem_of_lookup hz)) rfl⟩
theorem bQ7{cl:List (Addr×HO)}(C:qI P w K mg base j v cl m)(h:j<=k):qI P w K mg base k v cl m:=by
 obtain⟨a,fd,ps,h1,h2,h3,h4⟩:=C.ex
 exact⟨⟨a,fd,ps,h1,h2,fU0 h3 h,h4⟩⟩
theorem fX7(hN:X.N.Nodup)(hi:X.N[i]? =some x)(hx:Loc X.env.scope x)(hs:swapsWith e (some (.Name x p)) pos.line X.env=pure false)(hf:X.fn x=true\/X.env.scope.names.lookup x=some .local)(he:IE X e f):IS X (.Assign [.Name x p] e pos) (bU i f):=
 cW8 (fun t h=>zN (i:=i) hN hi hx h hs hf) he
abbrev MF:=cU->bA (List D)
def tF(X:Cx)(f:MF):TE:=fun Y H Q=>∃O F,gC X.K F H O Y/\match f O with
 | .ok ds=>∀F1 H1 l xs,bQ F H F1 H1->H1 l=none->DatL X.K F1 ds xs->Q (.ref l) (upd H1 l (.lst xs))
 | .ex _=>False
 | .bad=>False
def IEF(X:Cx)(e:Expr)(f:MF):Prop:=PE X e (tF X f)
def nB(fa:MA):MF:=fun O=>(fa O).bind fun ds=>if ds.length<=sizeLine then .ok ds else .bad
def bB0(f g:ME):MF:=fun O=>(f O).bind fun x=>(g O).bind fun y=>match x,y with
 | .lst xs,.lst ys=>if xs.length+ys.length<=sizeLine then .ok (xs++ys)else .bad
 |_,_=>.bad
section
variable{a b:Expr}{g:ME}{ap:Pos}{ff:MF}
theorem fX8(h:IA X es fa):IEF X (.List es pos) (nB fa):=fL (cA9 h) fun Y H Q ⟨O,F,E,q⟩=>⟨O,F,E,by
 unfold nB at q
 cases hf:fa O with
 |ok ds=>
  rw[hf]at q
  intro vs F1 H1 g1 dl
  by_cases hz:ds.length<=sizeLine
  ·have q':∀F1 H1 l xs,bQ F H F1 H1->H1 l=none->DatL X.K F1 ds xs->Q (.ref l) (upd H1 l (.lst xs)):=by
    have e:(bA.ok ds).bind (fun ds=>if ds.length<=sizeLine then .ok ds else .bad)=bA.ok ds:=if_pos hz
    rw[e]at q;exact q
   exact⟨by rw[<-dl.length];exact hz,fun p hp=>q' F1 H1 p vs g1 hp dl⟩
  ·have e:(bA.ok ds).bind (fun ds=>if ds.length<=sizeLine then .ok ds else .bad)=(bA.bad:bA (List D)):=if_neg hz
   rw[e]at q;exact q.elim
 |ex _=>rw[hf]at q;exact q.elim
 |bad=>rw[hf]at q;exact q.elim⟩
theorem fX9:cQ X (binaryOp .Add) (fun x y H Q=>∃l b xs ys,x= .ref l/\y= .ref b/\dO X.K H l xs/\dO X.K H b ys/\xs.length+ys.length<=sizeLine/\ ∀p,H p=none->Q (.ref p) (upd H p (.lst (xs++ys)))):=by
 intro pc s Y H x y v u Q I rx ry h
 obtain⟨p1,p2,vs,ws,rfl,rfl,hq1,hq2,z,q⟩:=h
 cases rx
 cases ry
 obtain⟨its,r1,⟨⟨cls,dd,data,sl⟩,n,ho,hc,hd,hs⟩,z1⟩:=I.list hq1
 obtain⟨its2,r2,⟨⟨cls2,dd2,data2,sl2⟩,n2,ho2,hc2,hd2,hs2⟩,z2⟩:=I.list hq2
 simp only at hc hd hc2 hd2 hs hs2
 subst hc hd hc2 hd2 hs hs2
 have k1:=r1.length
 have k2:=r2.length
 refine concat_meets ⟨_,ho,rfl⟩ ⟨_,ho2,rfl⟩ PySem.noFill_list_add PySem.seq_list_add PySem.F.slot_list_add PySem.F.entry_list_add (PySem.F.args_list_add_2 _ _)
  (list_addW p1 p2 _ _ n n2 none none sl sl2 (by simp only[size_toArray];omega)) ⟨ho,ho2,?_⟩
 have ea:its.toArray++its2.toArray=(its++its2).toArray:=by simp
 rw[ea]
 exact⟨.ref _,_,I.lnew (t':=s.toks) (r1.append r2) (by rw[length_append];omega),rfl,q _ I.fresh⟩
theorem fY0(ha:IE X a f)(hb:IE X b g):IEF X (.BinOp a .Add b pos) (bB0 f g):=fL (cS3 fX9 ha hb) fun Y H Q ⟨O,F,E,q⟩=>⟨O,F,E,by
 unfold bB0 at q
 cases hf:f O with
 |ok d=>
  intro v F1 H1 g1 d1
  refine⟨O,F1,E.grow g1,?_⟩
  cases hg:g O with
  |ok y=>
   intro v' F2 H2 g2 d2
   rw[hf,hg]at q
   cases d<;>cases y<;>try exact q.elim
   rename_i xs ys
   have q0:(match(if xs.length+ys.length<=sizeLine then .ok (xs++ys)else .bad:bA (List D))with
    | .ok ds=>∀F1 H1 l xs,bQ F H F1 H1->H1 l=none->DatL X.K F1 ds xs->Q (.ref l) (upd H1 l (.lst xs))
    | .ex _=>False
    | .bad=>False):=q
   simp only[bC]at d1 d2
   obtain⟨p1,vs,rfl,s1,l1⟩:=d1
   obtain⟨p2,ws,rfl,s2,l2⟩:=d2
   by_cases hz:xs.length+ys.length<=sizeLine
   ·rw[if_pos hz]at q0
    have e1:=l1.length
    have e2:=l2.length
    exact⟨p1,p2,vs,ws,rfl,rfl,bF.seq g2.sub (bF.seq g2.fs s1),bF.seq g2.sub s2,by omega,fun p hp=>q0 F2 H2 p _ (g1.trans g2) hp (DatL.of (sA (l1.mono g2.fs).paired l2.paired))⟩
   ·rw[if_neg hz]at q0;exact q0.elim
  |ex _=>rw[hf,hg]at q;exact q.elim
  |bad=>rw[hf,hg]at q;exact q.elim
 |ex _=>rw[hf]at q;exact q.elim
 |bad=>rw[hf]at q;exact q.elim⟩
def lD(i:Nat)(f:MF):MS:=fun O=>(f O).bind fun ds=>.ok (.nx (O.set i (.own ds)))
theorem fY1(hN:X.N.Nodup)(hi:X.N[i]? =some x)(hx:L2.Loc X.env.scope x)(hs:sM e=false)(hf:X.fn x=true\/X.env.scope.names.lookup x=some .local)(he:IEF X e ff):IS X (.Assign [.Name x p] e pos) (lD i ff):=fun Fa Ha=>
 kE (zN (i:=i) hN hi hx he (sN hs) hf) fun E Y H ⟨O,F,S,q⟩=>⟨O,F,S.env,by
 unfold lD at q
 cases hf:ff O with
 |ok ds=>
  rw[hf]at q
  have q1:∀Y F H,SR X.K Fa Ha F H (O.set i (.own ds)) Y->E.nx Y H:=q
  exact fun F1 H1 l xs g1 hl dl=>q1 _ _ _ (dD9 (S.grow g1) hl dl i)
 |ex _=>rw[hf]at q;exact q.elim
 |bad=>rw[hf]at q;exact q.elim⟩
end
theorem fY2(l:Addr)(items:Array Value)(n:Nat)(b:Addr)(items2:Array Value)(n2:Nat)(sl:Array (Option Value))(hc0: ¬(!items.isEmpty&&listTooLong (items.size+items2.size))=true)(hc1:items.size<=sizeLine)(hs2:items.size+items2.size<=sizeLine+1):
 Meets (Builtin.«list.extend» ⟨[.ref l,.ref b],[]⟩) (fun _ R s=>s.heap.get? l=some {cls:=.type "list",dict:=none,data:=.seq items n,slots:= #[]}/\s.heap.get? b=some {cls:=.type "list",dict:=none,data:=.seq items2 n2,slots:=sl}/\R (.ok (.ret Value.none)) {s with heap:=s.heap.update l (Obj.mapSeq fun x=>x++items2),toks:=s.toks}):=
 .of_wp fun prog w A R s h=>by
  obtain⟨hp,g,d,tk,os⟩:=s;obtain⟨hl,hb,h⟩:=h;have f1:=AutoSeq1.idx_int;have f2:=AutoSeq1.sub_tuple_tuple;have f3:=AutoSeq1.sub_list_list;have f4:=AutoSeq1.sub_tuple_list;have f5:=AutoSeq1.sub_list_tuple
  have hz':(items++items2).size<=sizeLine+1:=by rw[Array.size_append];exact hs2
  wp_walk using(wpAny_updateSeq hl rfl (hz:=hc1) (_hz':=hz')),AutoSeq1.wpAny_loadPart' hl,AutoSeq1.wpAny_loadPart' hb;exact⟨_,rfl,h⟩
section
variable{ap:Pos}
theorem fY3:MtM X "list.extend" (fun x vs H Q=>∃l b xs zs,x= .ref l/\vs= [.ref b]/\H l=some (.lst xs)/\dO X.K H b zs/\xs.length+zs.length<=sizeLine/\Q .non (upd H l (.lst (xs++zs)))):=by
 intro pc s Y H x vs v us Q I rx rv h
 obtain⟨l,b,xs,zs,rfl,rfl,hH,hB,hz,q⟩:=h
 cases rx
 obtain⟨u,rfl,ru⟩:=rv.one
 cases ru
 obtain⟨z,its,n,r,hl,e⟩:=I.lstM hH
 obtain⟨its2,r2,⟨⟨cls2,dd2,data2,sl2⟩,n2,ho2,hc2,hd2,hs2⟩,z2⟩:=I.list hB
 simp only at hc2 hd2 hs2
 subst hc2 hd2 hs2
 have hl2:=r2.length
 have hsz:its.toArray.size+its2.toArray.size<=sizeLine:=by rw[size_toArray,size_toArray];omega
 have hlong: ¬ (!its.toArray.isEmpty&&listTooLong (its.toArray.size+its2.toArray.size))=true:=by
  rw[fH8 hsz,Bool.and_false]
  exact Bool.false_ne_true
 refine call_meets F.slot_list_extend ⟨_,e,rfl⟩ F.entry_list_extend (F.args_list_extend_2 _ _)
  (fY2 l its.toArray n b its2.toArray n2 sl2 hlong (by rw[size_toArray];omega) bD) ⟨e,ho2,?_⟩
 refine⟨.non,_,I.lset (its':=its++its2) hH e (by simp) (r.append r2) ?_,rfl,q⟩
 rw[length_append]
 omega
noncomputable def bB1(i:Nat)(O:cU)(d:D):bA Fl:=match O[i]?,d with
 |some (.own ds),.lst es=>if ds.length+es.length<=sizeLine then .ok (.nx (O.set i (.own (ds++es))))else .bad
 |_,_=>.bad
def kT(i:Nat)(f:ME):MS:=fun O=>(f O).bind (bB1 i O)
theorem fY4(hv:hJ X.N X.env.scope i x)(hs:fF e=false)(hl:(ap.endLine==cp.line)=true)(he:IE X e f):IS X (.Expr (.Call (.Attribute (.Name x p) "extend" ap) [e] [] cp) pos) (kT i f):=fun Fa Ha=>
 kE (bF6 (bN9 PySem.F.plainAttrs_list PySem.F.slot_list_extend PySem.F.type_list_extend fY3 (nK hv.n hv.v hv.d hv.c) (lM he qA (dN hs)) rfl (by rw[bA4 (show cX [e]=true by simp[cX,hs])];rfl) hl (dN hs) (kP rfl)) (sN rfl)) fun E Y H ⟨O,F,S,q⟩=>by
 unfold kT at q
 cases hf:f O with
 |ok d=>
  rw[hf]at q
  have q0:gD X Fa Ha (bB1 i O d) E:=q
  unfold bB1 at q0
  split at q0
  ·rename_i ds es hi
   split at q0
   ·rename_i hz
    obtain⟨o,h1,a,xs,rfl,h2,h3,h4⟩:=S.env.at_ i _ hi
    have q1:∀Y F H,SR X.K Fa Ha F H (O.set i (.own (ds++es))) Y->E.nx Y H:=q0
    refine⟨.ref a,h1,.inl ⟨rfl,xs,dO.of h2⟩,O,F,S.env,?_⟩
    rw[hf]
    intro w F1 H1 g1 dw
    simp only[bC]at dw
    obtain⟨b,zs,rfl,sq,dl⟩:=dw
    have ha:H1 a=some (.lst xs):=g1.same _ _ rfl h2
    have fa:F1 a=none:=g1.new _ h3 (by rw[h2];simp)
    have e1:=h4.length
    have e2:=dl.length
    exact⟨a,b,xs,zs,rfl,rfl,ha,bF.seq g1.sub sq,by omega,q1 Y F1 _ (cE9 (S.grow g1) hi h1 ha fa (DatL.of (sA (h4.mono g1.fs).paired dl.paired)))⟩
   ·exact q0.elim
  ·exact q0.elim
 |ex _=>rw[hf]at q;exact q.elim
 |bad=>rw[hf]at q;exact q.elim
noncomputable def cF3(i:Nat)(O:cU)(d:D):bA Fl:=match O[i]?,d with
 |some (.val (.int a)),.int b=>.ok (.nx (O.set i (.val (.int (a+b)))))
 |_,_=>.bad
def bI1(i:Nat)(f:ME):MS:=fun O=>(f O).bind (cF3 i O)
theorem fY5(hN:X.N.Nodup)(hi:X.N[i]? =some x)(hx:L2.Loc X.env.scope x)(hf:X.fn x=true\/X.env.scope.names.lookup x=some .local)(he:IE X e f):IS X (.AugAssign (.Name x p) .Add e pos) (bI1 i f):=fun Fa Ha=>
 kE (dY2 (i:=i) hN hi hx he (show PIp X .Add _ from fA2) hf) fun E Y H ⟨O,F,S,q⟩=>by
 unfold bI1 at q
 cases hf:f O with
 |ok d=>
  rw[hf]at q
  have q0:gD X Fa Ha (cF3 i O d) E:=q
  unfold cF3 at q0
  split at q0
  ·rename_i a b hi
   obtain⟨o,h1,v,rfl,dv⟩:=S.env.at_ i _ hi
   simp only[bC]at dv
   subst dv
   have q1:∀Y F H,SR X.K Fa Ha F H (O.set i (.val (.int (a+b)))) Y->E.nx Y H:=q0
   refine⟨.int a,h1,O,F,S.env,?_⟩
   rw[hf]
   intro w F1 H1 g1 dw
   simp only[bC]at dw
   subst dw
   exact⟨a,b,rfl,rfl,q1 _ F1 _ ((S.grow g1).set i (by simp only[bC]))⟩
  ·exact q0.elim
 |ex _=>rw[hf]at q;exact q.elim
 |bad=>rw[hf]at q;exact q.elim
theorem dF0:∀{zs:List Str} {us:List Value},bV (zs.map V.str) us->∃l:List (Str×Tok),strValues l=us/\l.map (·.1)=zs
 | [],_,.nil=>⟨[],rfl,rfl⟩
 |z::r,_,.cons ru rr=>by
  obtain⟨t,rfl⟩:=ru
  obtain⟨l,e1,e2⟩:=dF0 rr
  exact⟨(z,t)::l,by rw[<-e1];rfl,by rw[map_cons,e2]⟩
def vG(z:Str):List D->bA D
 | [.lst ds]=>match nW ds with
  |some zs=>if JoinOk z zs=true/\(Txt.join z zs).length<=sizeLine then .ok (.str (Txt.join z zs))else .bad
  |none=>.bad
 |_=>.bad
theorem fY6:xI X "str.join" (rMe X vG):=by
 intro pc s Y H x xs v us Q I rx rs h
 obtain⟨F,z,ds,sb,rfl,hz,hl,q⟩:=h
 obtain⟨t,rfl⟩:=rx
 unfold vG at q
 split at q
 ·obtain⟨y,rfl,hy⟩:=lB hl
  simp only[bC]at hy
  obtain⟨a,ys,rfl,sq,dl⟩:=hy
  split at q
  ·rename_i zs hs
   split at q
   ·rename_i hj
    have ex:=cF1 hs dl
    subst ex
    obtain⟨u,rfl,ru⟩:=rs.one
    cases ru
    obtain⟨its,rv,pl,_⟩:=I.list (bF.seq sb sq)
    obtain⟨l,rfl,e2⟩:=dF0 rv
    exact SC.join pl.isList e2 hj.1 fun t' k=>⟨.str _,H,I.tok _,⟨_,rfl⟩,cL q sb (by simp only[bC];exact⟨trivial,hj.2⟩)⟩
   ·exact q.elim
  ·exact q.elim
 ·exact q.elim
end
noncomputable def ers(H:Hp)(a:Addr):Hp:=fun b=>if b=a then none else H b
section
variable{b:Addr}{k k':Int}
theorem kI(n:b≠a):ers H a b=H b:=if_neg n
theorem cF4:ers H a a=none:=if_pos rfl
theorem yA{u:HO}(e:ers H a b=some u):b≠a:=fun z=>by rw[z,cF4]at e;cases e
theorem sR{u:HO}(e:ers H a b=some u):H b=some u:=by rw[kI (yA e)]at e;exact e
theorem sT(h:ers H a b≠none):b≠a/\H b≠none:=by
 have n:b≠a:=fun z=>h (by rw[z,cF4])
 rw[kI n]at h
 exact⟨n,h⟩
theorem qB.ers{fs:List (Str×V)}(h:qB H)(e:H a=some (.ins C dx fs)):qB (ers H a):=fun t ht=>by
 obtain⟨ps,e1,o,q⟩:=h t ht
 refine⟨ps,by rw[kI (wZ e1 e (fun z=>nomatch z))];exact e1,o,?_⟩
 rcases q with q|⟨c',q1,q2⟩
 ·exact .inl q
 ·exact .inr ⟨c',q1,by rw[kI (wZ q2 e (fun z=>nomatch z))];exact q2⟩
theorem cF5(s:bF F H):bQ F (ers H a) F H where
 same:=fun b u _ q=>sR q
 more:=fun b h=>(sT h).2
 tk:=fun t=>⟨t.1.same fun b u q=>sR q,t.2⟩
 fs:=bF.refl _
 sub:=s
 new:=fun b h _=>h
theorem gW.grow(r:gW K F H a dx l ws k)(g:bQ F H F' H'):gW K F' H' a dx l ws k:=⟨g.same _ _ rfl r.o,g.new _ r.n (by rw[r.o];simp),r.w.mono g.fs⟩
theorem bQ.ers(g:bQ F H F' H')(r:gW K F H a dx l ws k):bQ F (R.ers H a) F' (R.ers H' a)where
 same:=fun b u n q=>by rw[kI (yA q)];exact g.same b u n (sR q)
 more:=fun b h=>by rw[kI (sT h).1];exact g.more b (sT h).2
 tk:=fun t=>let q:=g.tk ⟨t.1.same fun b u q=>sR q,t.2⟩;⟨q.1.ers (r.grow g).o,q.2⟩
 fs:=g.fs
 sub:=fun b u q=>by rw[kI (pL q (r.grow g).n)];exact g.sub b u q
 new:=fun b h n=>g.new b h (sT n).2
theorem fY7(s:bF F H)(r:gW K F H a dx l ws k):bQ F (ers H a) F (upd H a (cW1 dx l k'))where
 same:=fun b u _ q=>by rw[cK (yA q)];exact sR q
 more:=fun b h=>by rw[cK (sT h).1];exact(sT h).2
 tk:=fun t=>⟨t.1.same fun b u q=>by rw[cK (yA q)];exact sR q,t.2⟩
 fs:=bF.refl _
 sub:=xJ s r.n _
 new:=fun b h _=>h
theorem bQ.ersR(g:bQ F (R.ers H a) F' H')(r:gW K F' H' a dx l ws k):bQ F (R.ers H a) F' (R.ers H' a)where
 same:=fun b u n q=>by rw[kI (yA q)];exact g.same b u n q
 more:=fun b h=>by rw[kI (sT h).1];exact g.more b h
 tk:=fun t=>let q:=g.tk t;⟨q.1.ers r.o,q.2⟩
 fs:=g.fs
 sub:=fun b u q=>by rw[kI (pL q r.n)];exact g.sub b u q
 new:=fun b h n=>g.new b h n
theorem fY8(r:gW K F H a dx l ws k)(g:bQ F (ers H a) F' H')(r':gW K F' H' a dx l ws k):bQ F H F' H' where
 same:=fun b u n q=>by
  by_cases z:b=a
  ·subst z;rw[r.o]at q;cases q;exact r'.o
  ·exact g.same b u n (by rw[kI z];exact q)
 more:=fun b h=>by
  by_cases z:b=a
  ·subst z;rw[r'.o];simp
  ·exact g.more b (by rw[kI z];exact h)
 tk:=fun t=>g.tk ⟨t.1.ers r.o,t.2⟩
 fs:=g.fs
 sub:=g.sub
 new:=fun b h n=>by
  by_cases z:b=a
  ·subst z;exact r'.n
  ·exact g.new b h (by rw[kI z];exact n)
end
def pR(K:W.Frag)(F H:Hp)(a dx l:Addr)(ws:List D)(r:bA (D×Int))(Q:VK):Prop:=match r with
 | .ok r=>∀v F' H',bQ F (ers H a) F' H'->gW K F' H' a dx l ws r.2->bC K F' r.1 v->Q v H'
 | .ex _=>False
 | .bad=>False
def bB2(O:cU)(i:Nat):Prop:=∀j p ws k,O[j]? =some (.row p ws k)->j=i
abbrev MX:=cU->bA (D×Int)
noncomputable def tX(X:Cx)(i:Nat)(g:MX):TE:=fun Y H Q=>∃O F a dx l p ws k,gC X.K F H O Y/\bB2 O i/\O[i]? =some (.row p ws k)/\Y[i]? =some (some (.ref a))/\gW X.K F H a dx l ws k/\pR X.K F H a dx l ws (g O) Q
def IX(X:Cx)(i:Nat)(e:Expr)(g:MX):Prop:=PE X e (tX X i g)
section
variable{k k':Int}{p:Bool}
theorem gC.rstep(E:gC K F H O Y)(o:bB2 O i)(hi:O[i]? =some (.row p ws k))(h1:Y[i]? =some (some (.ref a)))(r:gW K F H a dx l ws k)(hp:p=true->a=Pd.a/\dx=Pd.dx/\l=Pd.l)(g:bQ F (ers H a) F' H')(r':gW K F' H' a dx l ws k'):gC K F' H' (O.set i (.row p ws k')) Y:=by
 have own:∀(j:Nat) es,(O.set i (.row p ws k'))[j]? =some (.own es)->O[j]? =some (.own es):=fun j es z=>by
  rcases jT z with⟨rfl,z,_⟩|⟨_,z⟩
  ·cases z
  ·exact z
 refine⟨g.tk ⟨E.tb.1.ers r.o,E.tb.2⟩,g.sub,by rw[length_set];exact E.len,fun j t e=>?_,fun j k ds es b n e1 e2 e3 e4=>E.apart j k ds es b n (own j ds e1) (own k es e2) e3 e4⟩
 rcases jT e with⟨rfl,rfl,_⟩|⟨n,e⟩
 ·exact⟨some (.ref a),h1,a,dx,l,rfl,hp,r'⟩
 ·obtain⟨o',z1,z2⟩:=E.at_ j t e
  refine⟨o',z1,?_⟩
  cases t with
  |no=>trivial
  |val d=>obtain⟨v,y1,y2⟩:=z2;exact⟨v,y1,y2.mono g.fs⟩
  |is v c=>exact⟨z2.1,fun r hr=>g.fs _ _ (z2.2 r hr)⟩
  |own es=>
   obtain⟨b,ys,rfl,y1,y2,y3⟩:=z2
   have nb:b≠a:=wZ y1 r.o (fun z=>nomatch z)
   exact⟨b,ys,rfl,g.same b _ rfl (by rw[kI nb];exact y1),g.new b y2 (by rw[kI nb,y1];simp),y3.mono g.fs⟩
  |row q vs m=>exact absurd (o j q vs m e).symm n
theorem gC.pd(E:gC K F H O Y)(hi:O[i]? =some (.row p ws k))(h1:Y[i]? =some (some (.ref a)))(r:gW K F H a dx l ws k):p=true->a=Pd.a/\dx=Pd.dx/\l=Pd.l:=by
 obtain⟨o,z1,a',dx',l',rfl,hp,r'⟩:=E.at_ i _ hi
 rw[h1]at z1;cases z1
 have e:=r.o.symm.trans r'.o
 cases e
 exact hp
theorem SR.only(S:SR K Fa Ha F H O Y)(hi:O[i]? =some (.row p ws k)):bB2 O i:=fun j q vs m e=>S.rw.2 j i q vs m p ws k e hi
theorem SR.rstep(S:SR K Fa Ha F H O Y)(hi:O[i]? =some (.row p ws k))(h1:Y[i]? =some (some (.ref a)))(r:gW K F H a dx l ws k)(hp:p=true->a=Pd.a/\dx=Pd.dx/\l=Pd.l)(g:bQ F (ers H a) F' H')(r':gW K F' H' a dx l ws k'):SR K Fa Ha F' H' (O.set i (.row p ws k')) Y:=by
 have h0:Ha a=none:=S.rw.1 i p ws k a hi h1
 have old:∀(j:Nat) q U m,(O.set i (.row p ws k'))[j]? =some (.row q U m)->j=i:=fun j q U m z=>by
  rcases jT z with⟨rfl,_,_⟩|⟨_,z⟩
  ·rfl
  ·exact S.only hi j q U m z
 refine⟨⟨fun b u nt z=>g.same b u nt (by rw[kI (pL z h0)];exact S.gr.same b u nt z),fun b h=>?_,fun t=>g.tk ⟨(S.gr.tk t).1.ers r.o,(S.gr.tk t).2⟩,S.gr.fs.trans g.fs,g.sub,fun b hb hn=>?_⟩,
  S.env.rstep (S.only hi) hi h1 r hp g r',fun j ds b e1 e2=>?_,fun j q U m b e1 e2=>?_,fun j m q U n q' U' n' e1 e2=>(old j _ _ _ e1).trans (old m _ _ _ e2).symm⟩
 ·have n:b≠a:=fun z=>h (by rw[z];exact h0)
  exact g.more b (by rw[kI n];exact S.gr.more b h)
 ·have n:b≠a:=fun z=>hn (by rw[z];exact h0)
  exact g.new b (S.gr.new b hb hn) (by rw[kI n];exact S.gr.more b hn)
 ·rcases jT e1 with⟨rfl,z,_⟩|⟨_,z⟩
  ·cases z
  ·exact S.frh j ds b z e2
 ·cases old j q U m e1
  rw[h1]at e2;cases e2;exact h0
end
def vH(i:Nat)(g:MX)(kk:D->MS):MS:=fun O=>match O[i]? with
 |some (.row p ws _)=>(g O).bind fun r=>kk r.1 (O.set i (.row p ws r.2))
 |_=>.bad
section
variable{g h:MX}{ap:Pos}{st:Stmt}{v:MS}
theorem tXS{E:pZ}{kk:D->MS}{T:V->Hp->Prop}(hT:∀O F H d v,SR X.K Fa Ha F H O Y->bC X.K F d v->gD X Fa Ha (kk d O) E->T v H)(q:tS X Fa Ha (vH i g kk) E Y H):tX X i g Y H T:=by
 obtain⟨O,F,S,q⟩:=q
 unfold vH at q
 split at q
 ·rename_i p ws k hi
  obtain⟨o,h1,a,dx,l,rfl,hp,r⟩:=S.env.at_ i _ hi
  refine⟨O,F,a,dx,l,p,ws,k,S.env,S.only hi,hi,h1,r,?_⟩
  revert q
  cases g O with
  |ok d=>exact fun q v F1 H1 g1 r1 d1=>hT _ F1 H1 _ v (S.rstep hi h1 r hp g1 r1) d1 q
  |ex _=>exact fun q=>q
  |bad=>exact fun q=>q
 ·exact q.elim
def fX(i:Nat)(g:MX):MS:=vH i g fun _ O=>.ok (.nx O)
def fB(i j:Nat)(g:MX):MS:=vH i g fun d O=>.ok (.nx (O.set j (.val d)))
def fM(i:Nat)(g:MX):MS:=vH i g fun d O=>.ok (.rr d O)
theorem dF1(hs:sM e=false)(he:IX X i e g):IS X (.Expr e pos) (fX i g):=fun Fa Ha=>kE (bF6 he (sN hs)) fun E Y H q=>tXS (kk:=fun _ O=>.ok (.nx O)) (fun O F H d v S _ q=>q Y F H S) q
theorem fY9(he:IX X i e g):IS X (.Return (some e) pos) (fM i g):=fun Fa Ha=>kE (cR5 he) fun E Y H q=>tXS (kk:=fun d O=>.ok (.rr d O)) (fun O F H d v S r q=>q v Y F H S r) q
theorem dF2(hN:X.N.Nodup)(hi:X.N[j]? =some x)(hx:Loc X.env.scope x)(hs:sM e=false)(hf:X.fn x=true\/X.env.scope.names.lookup x=some .local)(he:IX X i e g):IS X (.Assign [.Name x p] e pos) (fB i j g):=fun Fa Ha=>
 kE (zN (i:=j) hN hi hx he (sN hs) hf) fun E Y H q=>tXS (kk:=fun d O=>.ok (.nx (O.set j (.val d)))) (fun O F H d v S r q=>q _ F H (S.set j r)) q
def kU(i j:Nat)(g:MX):MS:=fun O=>match O[j]? with
 |some (.own _)=>vH i g (fun d O=>match O[j]? with
  |some (.own ds)=>if ds.length<sizeLine then .ok (.nx (O.set j (.own (ds++ [d]))))else .bad
  |_=>.bad) O
 |_=>.bad
theorem fZ0(hv:hJ X.N X.env.scope j x)(hs:fF e=false)(hl:(ap.endLine==py.line)=true)(hb:attributeBase (.Name x p) "append" X.env (eval (.Name x p) X.env)=eval (.Name x p) X.env)(he:IX X i e g):
 IS X (.Expr (.Call (.Attribute (.Name x p) "append" ap) [e] [] py) pos) (kU i j g):=fun Fa Ha=>
 kE (bF6 (bN9 PySem.F.plainAttrs_list PySem.F.slot_list_append PySem.F.type_list_append bO0 (nK hv.n hv.v hv.d hv.c) (lM he qA (dN hs)) hb (by rw[bA4 (show cX [e]=true by simp[cX,hs])];rfl) hl (dN hs) (kP rfl)) (sN rfl)) fun E Y H ⟨O,F,S,q⟩=>by
 unfold kU at q
 split at q
 ·rename_i ds0 hj
  obtain⟨o,h1,a,xs,rfl,h2,h3,h4⟩:=S.env.at_ j _ hj
  refine⟨.ref a,h1,.inl ⟨rfl,xs,dO.of h2⟩,?_⟩
  refine tXS (Fa:=Fa) (Ha:=Ha) (E:=E) (fun ρ1 F1 H1 d w S1 dw q1=>?_) ⟨O,F,S,q⟩
  split at q1
  ·rename_i ds hj1
   split at q1
   ·rename_i hz
    obtain⟨o,z1,a1,xs1,rfl,y2,y3,y4⟩:=S1.env.at_ j _ hj1
    rw[h1]at z1;cases z1
    have ln:=y4.length
    refine⟨a,xs1,w,rfl,rfl,y2,by omega,?_⟩
    exact q1 Y F1 _ (cE9 S1 hj1 h1 y2 y3 (DatL.of (sA y4.paired (.cons dw .nil))))
   ·exact q1.elim
  ·exact q1.elim
 ·exact q.elim
def xP(i:Nat)(f:ME):MX:=fun O=>(f O).bind fun d=>match O[i]? with
 |some (.row _ _ k)=>.ok (d,k)
 |_=>.bad
theorem fZ1(he:IE X e f):IX X i e (xP i f):=fL he fun Y H Q qz=>by obtain⟨O,F,a,dx,l,p,ws,k,E,o,hi,h1,r,q⟩:=qz;exact⟨O,F,E,by
 unfold xP at q
 rw[hi]at q
 revert q
 cases f O with
 |ok d=>exact fun q v F1 H1 g1 d1=>q v F1 H1 ((cF5 E.sub).trans g1) (r.grow g1) d1
 |ex _=>exact fun q=>q
 |bad=>exact fun q=>q⟩
def xIf(t:MT)(g h:MX):MX:=fun O=>(t O).bind fun c=>if c=true then g O else h O
theorem pR.grow{F1 H1:Hp}{k:Int}{r:bA (D×Int)}{Q:VK}(q:pR K F H a dx l ws r Q)(rw:gW K F H a dx l ws k)(g:bQ F H F1 H1):pR K F1 H1 a dx l ws r Q:=by
 cases r with
 |ok r=>exact fun v F' H' g'=>q v F' H' ((g.ers rw).trans g')
 |ex _=>exact q
 |bad=>exact q
theorem fZ2{c a b:Expr}{t:MT}(hc:IT X c t)(ha:IX X i a g)(hb:IX X i b h):IX X i (.IfExp c a b pos) (xIf t g h):=fL (cR1 hc ha hb) fun Y H Q qz=>by obtain⟨O,F,a,dx,l,p,ws,k,E,o,hi,h1,r,q⟩:=qz;exact⟨O,F,E,by
 unfold xIf at q
 revert q
 cases t O with
 |ok c=>
  intro q b F1 H1 g1 e1
  cases(show c=b from e1)
  cases c with
  |true=>exact rZ ⟨O,F1,a,dx,l,p,ws,k,E.grow g1,o,hi,h1,r.grow g1,pR.grow q r g1⟩
  |false=>exact tW ⟨O,F1,a,dx,l,p,ws,k,E.grow g1,o,hi,h1,r.grow g1,pR.grow q r g1⟩
 |ex _=>exact fun q=>q
 |bad=>exact fun q=>q⟩
noncomputable def yB:bA D->bA (D×Int)
 | .ok (.tup [d,.int k])=>.ok (d,k)
 |_=>.bad
def sU(K:W.Frag)(m:List D->bA D):Sp:=fun vs H Q _=>∃F a dx l ws k ds vs',vs= .ref a::vs'/\mE F H/\bF F H/\gW K F H a dx l ws k/\DatL K F ds vs'/\pR K F H a dx l ws (yB (m (.lst ws:: .int k::ds))) Q
structure cF6(P:Program)(w:World)(K:W.Frag)(mg:Str->Option Value)(base:Heap)(k:Nat)(x:Str)(m:List D->bA D):Prop where
 ex:∃(f:Addr) (fd:FuncData) (ps:List Str),cS P w K mg base dA k f fd ps (sU K m)/\mg x=some (.ref f)/\keepIn K (.ref f)=true/\jK K fd ps []
def bT(i:Nat)(m:List D->bA D)(fa:MA):MX:=fun O=>match O[i]? with
 |some (.row _ ws k)=>(fa O).bind fun ds=>yB (m (.lst ws:: .int k::ds))
 |_=>.bad
theorem cF7{Q:VK}(q:tX X i (bT i m fa) Y H Q):∃a,Y[i]? =some (some (.ref a))/\xK X fa Y H fun vs H1=>sU X.K m (.ref a::vs++ []) H1 Q E0:=by
 obtain⟨O,F,a,dx,l,p,ws,k,E,o,hi,h1,r,q⟩:=q
 refine⟨a,h1,O,F,E,?_⟩
 unfold bT at q
 rw[hi]at q
 revert q
 cases fa O with
 |ok ds=>
  intro q vs F1 H1 g1 d1
  refine⟨F1,a,dx,l,ws,k,ds,vs,by rw[append_nil],(E.grow g1).tb,g1.sub,r.grow g1,d1,pR.grow q r g1⟩
 |ex _=>exact fun q=>q
 |bad=>exact fun q=>q
theorem fZ3(C:cF6 X.prog X.w X.K X.mg X.base k x m)(hr:dH k X.A)(hg:X.env.scope.names.lookup x=some .globalImplicit)(hd:(x==("__debug__" :Str))=false)(hn:cX es=true)(hv:hJ X.N X.env.scope i y)(ha:IA X es fa):
 IX X i (.Call (.Name x p) (.Name y py::es) [] pos) (bT i m fa):=by
 obtain⟨f,fd,ps,F,hm,hk,hb⟩:=C.ex
 exact fL (cB0 (E:=E0) F hr hg hm hk hb .nil rY (lM (nK hv.n hv.v hv.d hv.c) ha (dN rfl)) hd (dN rfl) (kP hn)) fun Y H Q q=>let ⟨a,h1,h2⟩:=cF7 q;⟨.ref a,h1,h2⟩
structure sV(P:Program)(w:World)(K:W.Frag)(mg:Str->Option Value)(base:Heap)(k:Nat)(x:Str)(m:List D->bA D):Prop where
 c:mD K dF.rc
 ex:∃(f:Addr) (fd:FuncData) (ps:List Str),cS P w K mg base dA k f fd ps (sU K m)/\vW K dF.rc x f/\jK K fd ps []
 ne:(x==("words" :Str))=false/\(x==("place" :Str))=false
theorem sV.no(M:sV P w K mg base k x m)(l:Addr)(n:Int):List.lookup x [(("words" :Str),V.ref l),("place",.int n)]=none:=by
 rw[lookup_cons,M.ne.1,lookup_cons,M.ne.2];rfl
theorem cF8(hn:cX es=true)(hl:Nat.blt es.length 30=true)(hline:(ap.endLine==pos.line)=true):eval (.Call (.Attribute (.Name y py) x ap) es [] pos) env=(do
 let ov <-eval (.Name y py) env
 standAt ap.atName
 let (f,first) <-holding [ov] (getMethod ov x (do return (<-importBound (.Name y py) env).getD true))
 callWith pos f first (backTo pos (starEach es env)) (backToKw pos (keywordEach [] env))):=by
 have hf:methodCallForm (es.length+0) (backTo pos (starEach es env)) (backToKw pos (keywordEach [] env))=true:=by
  unfold methodCallForm
  rw[bA4 hn]
  have hl':es.length<30:=Nat.le_of_ble_eq_true hl
  show(true&&true&&decide (es.length+0+(if([]:List Keyword).isEmpty then 0 else 1)<30))=true
  simp only[List.isEmpty_nil,if_true,Bool.true_and]
  exact decide_eq_true bD
 rw[PySem.arm_eval_Call]
 show(do
  let ov <-eval (.Name y py) env
  standAt ap.atName
  methodCall (.Name y py) x ap pos env ov (es.length+0) _ _)=_
 unfold methodCall calleeOf methodCallPos
 rw[hf,hline]
 rfl
theorem fZ4(M:sV X.prog X.w X.K X.mg X.base k x m)(hr:dH k X.A)(hv:hJ X.N X.env.scope i y)(hline:(ap.endLine==pos.line)=true):IX X i (.Call (.Attribute (.Name y py) x ap) [] [] pos) (bT i m bP):=by
 obtain⟨f,fd,ps,F,hm,hb⟩:=M.ex
 refine fL (cU1 (E:=E0) (nK hv.n hv.v hv.d hv.c) M.c hm F hr hb .nil rY (cF8 rfl rfl hline)) fun Y H Q q=>?_
 have q':=q
 obtain⟨O,F,a,dx,l,p,ws,k,E,o,hi,h1,r,_⟩:=q'
 obtain⟨a',h1',h2⟩:=cF7 q
 rw[h1]at h1';cases h1'
 exact⟨.ref a,h1,a,dx,_,rfl,r.o,M.no l k,cL (h2.choose_spec.choose_spec.2) h2.choose_spec.choose_spec.1.sub DatL.nil⟩
theorem fZ5(M:sV X.prog X.w X.K X.mg X.base k x m)(hr:dH k X.A)(hv:hJ X.N X.env.scope i y)(hline:(ap.endLine==pos.line)=true)(hl:Nat.blt (e::es).length 30=true)(hn:cX (e::es)=true)(ha:IA X (e::es) fa):IX X i (.Call (.Attribute (.Name y py) x ap) (e::es) [] pos) (bT i m fa):=by
 obtain⟨f,fd,ps,F,hm,hb⟩:=M.ex
 have h1:fF e=false/\cX es=true:=by
  unfold cX at hn
  rw[all_cons,and_eq_true]at hn
  exact⟨by simpa using hn.1,hn.2⟩
 refine fL (fE8 (E:=E0) (nK hv.n hv.v hv.d hv.c) M.c hm F hr hb .nil rY ha (dN h1.1) (kP h1.2) (cF8 hn hl hline)) fun Y H Q q=>?_
 have q':=q
 obtain⟨O,F,a,dx,l,p,ws,k,E,o,hi,h1,r,_⟩:=q'
 obtain⟨a',h1',h2⟩:=cF7 q
 rw[h1]at h1';cases h1'
 exact⟨.ref a,h1,a,dx,_,rfl,r.o,M.no l k,h2⟩
end
section
variable{g h:MX}{ap tp:Pos}{st:Stmt}{v:MS}
structure yC(K:W.Frag):Prop where
 c:mD K dF.rc
 w:tV K dF.rc "words"
 p:tV K dF.rc "place"
noncomputable def yD(i:Nat):ME:=fun O=>match O[i]? with
 |some (.row _ ws _)=>.ok (.lst ws)
 |_=>.bad
noncomputable def yE(i:Nat):ME:=fun O=>match O[i]? with
 |some (.row _ _ k)=>.ok (.int k)
 |_=>.bad
theorem fZ6(C:yC X.K)(hv:hJ X.N X.env.scope i y):IE X (.Attribute (.Name y py) "words" pos) (yD i):=fL (cT6 (nK hv.n hv.v hv.d hv.c) rfl) fun Y H Q ⟨O,F,E,q⟩=>by
 unfold yD at q
 split at q
 ·rename_i p ws k hi
  obtain⟨o,h1,a,dx,l,rfl,hp,r⟩:=E.at_ i _ hi
  exact⟨.ref a,h1,a,_,dx,_,.ref l,rfl,r.o,C.c,C.w,rfl,cL q E.sub r.w⟩
 ·exact q.elim
theorem fZ7(C:yC X.K)(hv:hJ X.N X.env.scope i y):IE X (.Attribute (.Name y py) "place" pos) (yE i):=fL (cT6 (nK hv.n hv.v hv.d hv.c) rfl) fun Y H Q ⟨O,F,E,q⟩=>by
 unfold yE at q
 split at q
 ·rename_i p ws k hi
  obtain⟨o,h1,a,dx,l,rfl,hp,r⟩:=E.at_ i _ hi
  exact⟨.ref a,h1,a,_,dx,_,.int k,rfl,r.o,C.c,C.p,rfl,cL q E.sub (by simp only[bC])⟩
 ·exact q.elim
def hX(i:Nat)(m:List D->bA D):ME:=fun O=>match O[i]? with
 |some (.row _ ws k)=>(yB (m [.lst ws,.int k])).bind fun r=>if r.2=k then .ok r.1 else .bad
 |_=>.bad
theorem fZ8(M:sV X.prog X.w X.K X.mg X.base k x m)(hr:dH k X.A)(hv:hJ X.N X.env.scope i y)(hline:(ap.endLine==pos.line)=true):IE X (.Call (.Attribute (.Name y py) x ap) [] [] pos) (hX i m):=by
 obtain⟨f,fd,ps,F,hm,hb⟩:=M.ex
 refine fL (cU1 (E:=E0) (nK hv.n hv.v hv.d hv.c) M.c hm F hr hb .nil rY (cF8 rfl rfl hline)) fun Y H Q ⟨O,F,E,q⟩=>?_
 unfold hX at q
 split at q
 ·rename_i p ws k hi
  obtain⟨o,h1,a,dx,l,rfl,hp,r⟩:=E.at_ i _ hi
  refine⟨.ref a,h1,a,dx,_,rfl,r.o,M.no l k,F,a,dx,l,ws,k,[],[],rfl,E.tb,E.sub,r,DatL.nil,?_⟩
  revert q
  cases yB (m [.lst ws,.int k])with
  |ok z=>
   intro q
   have q':dB (bC X.K) F H (if z.2=k then .ok z.1 else .bad) Q:=q
   split at q'
   ·rename_i hk
    exact fun v F' H' g' r' d'=>q' v F' H' (fY8 r g' (hk▸r')) d'
   ·exact q'.elim
  |ex _=>exact fun q=>q
  |bad=>exact fun q=>q
 ·exact q.elim
noncomputable def bB4(i:Nat)(n:Int):MS:=fun O=>match O[i]? with
 |some (.row p ws k)=>.ok (.nx (O.set i (.row p ws (k+n))))
 |_=>.bad
theorem fZ9{n:Int}{c:Nat}(C:yC X.K)(hv:hJ X.N X.env.scope i y):IS X (.AugAssign (.Attribute (.Name y py) "place" tp) .Add (.Constant (.int n) c cp) pos) (bB4 i n):=fun Fa Ha=>
 kE (fD5 (nK hv.n hv.v hv.d hv.c) bZ7 fE0) fun E Y H ⟨O,F,S,q⟩=>by
 unfold bB4 at q
 split at q
 ·rename_i p ws k hi
  obtain⟨o,h1,a,dx,l,rfl,hp,r⟩:=S.env.at_ i _ hi
  refine⟨.ref a,h1,a,_,dx,_,.int k,rfl,r.o,C.c,C.p,rfl,k,n,rfl,rfl,dx,_,r.o,(by show 2<1000;decide),?_⟩
  exact q Y F _ (S.rstep hi h1 r hp (fY7 S.env.sub r) ⟨dY,r.n,r.w⟩)
 ·exact q.elim
def qL(t:MT)(u:MS):Nat->MS
 |0,_=>.bad
 |n+1,O=>(t O).bind fun c=>if c=true then(u O).bind fun fl=>match fl with
  | .nx ρ'=>qL t u n ρ'
  | .ct ρ'=>qL t u n ρ'
  | .bk ρ'=>.ok (.nx ρ')
  | .rt d=>.ok (.rt d)
  | .rr d ρ'=>.ok (.rr d ρ')
  else .ok (.nx O)
def nX(t:MT)(u:MS):MS:=fun O=>qL t u 33554432 O
theorem gA0{c:Expr}{t:MT}(hp:PassesOwn (model X.prog X.w) X.A X.env X.xe)(hc:IT X c t)(hb:kM X body u):IS X (.While c body [] pos) (nX t u):=fun Fa Ha=>
 kE (dY4 hp hc (hb Fa Ha)) fun E Y H ⟨O,F,S,q⟩=>by
 refine⟨fun n Y H=>∃O F,SR X.K Fa Ha F H O Y/\gD X Fa Ha (qL t u n O) E,⟨_,O,F,S,q⟩,?_⟩
 rintro n Y H ⟨O,F,S,q⟩
 cases n with
 |zero=>exact q.elim
 |succ n=>
  refine⟨O,F,S.env,?_⟩
  unfold qL at q
  revert q
  cases t O with
  |ok c=>
   intro q b F1 H1 g1 e1
   cases(show c=b from e1)
   cases c with
   |true=>
    refine rZ ⟨fun σ' H'=>∃O F,SR X.K Fa Ha F H' O σ'/\gD X Fa Ha (qL t u n O) E,fun σ' H' w=>⟨n,Nat.lt_succ_self n,w⟩,O,F1,S.grow g1,?_⟩
    revert q
    show gD X Fa Ha ((u O).bind _) E->_
    cases u O with
    |ok fl=>
     intro q
     cases fl with
     |nx ρ'=>exact fun Y F H S=>⟨ρ',F,S,q⟩
     |ct ρ'=>exact fun Y F H S=>⟨ρ',F,S,q⟩
     |bk ρ'=>exact q
     |rt d=>exact q
     |rr d ρ'=>exact q
    |ex _=>exact fun q=>q
    |bad=>exact fun q=>q
   |false=>exact tW (q Y F1 H1 (S.grow g1))
  |ex _=>exact fun q=>q
  |bad=>exact fun q=>q
abbrev mL:=cU->bA (List D×Int)
def bR0(K:W.Frag)(F H:Hp)(a dx l:Addr)(ws:List D)(r:bA (List D×Int))(Q:List V->Hp->Prop):Prop:=match r with
 | .ok r=>∀v F' H',bQ F (ers H a) F' H'->gW K F' H' a dx l ws r.2->DatL K F' r.1 v->Q v H'
 | .ex _=>False
 | .bad=>False
def wI(X:Cx)(i:Nat)(es:List Expr)(g:mL):Prop:=PA X es fun Y H Q=>∃O F a dx l p ws k,gC X.K F H O Y/\bB2 O i/\O[i]? =some (.row p ws k)/\Y[i]? =some (some (.ref a))/\gW X.K F H a dx l ws k/\bR0 X.K F H a dx l ws (g O) Q
def nD(g:MX):mL:=fun O=>(g O).bind fun r=>.ok ([r.1],r.2)
def nY(f:ME)(g:mL):mL:=fun O=>(f O).bind fun d=>(g O).bind fun r=>.ok (d::r.1,r.2)
theorem dF3(hs:fF e=false)(he:IX X i e g):wI X i [e] (nD g):=bG5 (lM he qA (dN hs)) fun Y H Q qz=>by obtain⟨O,F,a,dx,l,p,ws,k,E,o,hi,h1,r,q⟩:=qz;exact⟨O,F,a,dx,l,p,ws,k,E,o,hi,h1,r,by
 unfold nD at q
 revert q
 cases g O with
 |ok z=>exact fun q v F' H' g' r' d'=>q [v] F' H' g' r' (DatL.cons d' DatL.nil)
 |ex _=>exact fun q=>q
 |bad=>exact fun q=>q⟩
theorem gA1{ga:mL}(hs:fF e=false)(he:IE X e f)(hr:wI X i es ga):wI X i (e::es) (nY f ga):=bG5 (lM he hr (dN hs)) fun Y H Q qz=>by obtain⟨O,F,a,dx,l,p,ws,k,E,o,hi,h1,r,q⟩:=qz;exact⟨O,F,E,by
 unfold nY at q
 revert q
 cases f O with
 |ok d=>
  intro q v F1 H1 g1 d1
  refine⟨O,F1,a,dx,l,p,ws,k,E.grow g1,o,hi,h1,r.grow g1,?_⟩
  revert q
  show bR0 X.K F H a dx l ws ((ga O).bind _) Q->_
  cases ga O with
  |ok z=>exact fun q vs F2 H2 g2 r2 d2=>q (v::vs) F2 H2 ((g1.ers r).trans g2) r2 (DatL.cons (d1.mono g2.fs) d2)
  |ex _=>exact fun q=>q
  |bad=>exact fun q=>q
 |ex _=>exact fun q=>q
 |bad=>exact fun q=>q⟩
def bB5(i:Nat)(g:MX)(ga:mL):mL:=fun O=>match O[i]? with
 |some (.row p ws _)=>(g O).bind fun r=>(ga (O.set i (.row p ws r.2))).bind fun rs=>.ok (r.1::rs.1,rs.2)
 |_=>.bad
theorem gA2{ga:mL}(hs:fF e=false)(he:IX X i e g)(hr:wI X i es ga):wI X i (e::es) (bB5 i g ga):=bG5 (lM he hr (dN hs)) fun Y H Q qz=>by obtain⟨O,F,a,dx,l,p,ws,k,E,o,hi,h1,r,q⟩:=qz;exact⟨O,F,a,dx,l,p,ws,k,E,o,hi,h1,r,by
 have hpd:p=true->a=Pd.a/\dx=Pd.dx/\l=Pd.l:=E.pd hi h1 r
 unfold bB5 at q
 rw[hi]at q
 revert q
 show bR0 X.K F H a dx l ws ((g O).bind _) Q->_
 cases g O with
 |ok z=>
  intro q v F1 H1 g1 r1 d1
  have hl:i<O.length:=(List.getElem?_eq_some_iff.mp hi).1
  refine⟨_,F1,a,dx,l,p,ws,z.2,E.rstep o hi h1 r hpd g1 r1,fun j p' w' k' e=>?_,getElem?_set_self hl,h1,r1,?_⟩
  ·rcases jT e with⟨z,_,_⟩|⟨_,e⟩
   ·exact z.symm
   ·exact o j p' w' k' e
  ·revert q
   show bR0 X.K F H a dx l ws ((ga (O.set i (.row p ws z.2))).bind _) Q->_
   cases ga (O.set i (.row p ws z.2))with
   |ok y=>exact fun q vs F2 H2 g2 r2 d2=>q (v::vs) F2 H2 ((g1.ersR r1).trans g2) r2 (DatL.cons (d1.mono g2.fs) d2)
   |ex _=>exact fun q=>q
   |bad=>exact fun q=>q
 |ex _=>exact fun q=>q
 |bad=>exact fun q=>q⟩
def qM(ga:mL):MX:=fun O=>(ga O).bind fun r=>if r.1.length<=sizeLine then .ok (.tup r.1,r.2)else .bad
theorem ix_tup{ga:mL}{c}(ha:wI X i es ga):IX X i (.Tuple es c pos) (qM ga):=fL (cT9 ha) fun Y H Q qz=>by obtain⟨O,F,a,dx,l,p,ws,k,E,o,hi,h1,r,q⟩:=qz;exact⟨O,F,a,dx,l,p,ws,k,E,o,hi,h1,r,by
 unfold qM at q
 revert q
 cases ga O with
 |ok z=>
  intro q vs F' H' g' r' d'
  have q':pR X.K F H a dx l ws (if z.1.length<=sizeLine then .ok (.tup z.1,z.2)else .bad) Q:=q
  split at q'
  ·rename_i hz
   refine⟨by rw[<-d'.length];exact hz,fun b hb=>?_⟩
   have g2:=bQ.laid g'.sub hb (.tup vs)
   refine q' _ _ _ (g'.trans g2) (r'.grow g2) ?_
   simp only[bC]
   exact⟨b,vs,rfl,gL.of dY,d'.mono (jY (bF.free g'.sub hb) _)⟩
  ·exact q'.elim
 |ex _=>exact fun q=>q
 |bad=>exact fun q=>q⟩
def xTy(m:List D->bA D)(ga:mL):MX:=fun O=>(ga O).bind fun r=>(m r.1).bind fun d=>.ok (d,r.2)
theorem gA3{id:String}{ga:mL}(hc:gM X (.type id) (qE X m))(hg:X.env.scope.names.lookup x=some .globalImplicit)(hm:X.mg x=none)(hv:bootBuiltins x=some (.type id))(hn:cX (e::es)=true)(hd:(x==("__debug__" :Str))=false)(hnm:(x==("__name__" :Str))=false)(ha:wI X i (e::es) ga):IX X i (.Call (.Name x p) (e::es) [] pos) (xTy m ga):=by
 have h1:fF e=false/\cX es=true:=by
  unfold cX at hn
  rw[all_cons,and_eq_true]at hn
  exact⟨by simpa using hn.1,hn.2⟩
 refine fL (cB2 hc hg hm hv ha (by simpa using hnm) hd (dN h1.1) (kP h1.2)) fun Y H Q qz=>?_;obtain⟨O,F,a,dx,l,p,ws,k,E,o,hi,h1,r,q⟩:=qz;refine⟨O,F,a,dx,l,p,ws,k,E,o,hi,h1,r,?_⟩
 unfold xTy at q
 revert q
 cases ga O with
 |ok z=>
  intro q vs F' H' g' r' d'
  refine⟨F',z.1,g'.sub,d',?_⟩
  revert q
  show pR X.K F H a dx l ws ((m z.1).bind fun d=>.ok (d,z.2)) Q->_
  cases m z.1 with
  |ok d=>exact fun q v F2 H2 g2 d2=>q v F2 H2 (g'.trans g2) (r'.grow g2) d2
  |ex _=>exact fun q=>q
  |bad=>exact fun q=>q
 |ex _=>exact fun q=>q
 |bad=>exact fun q=>q
end
def yF(n:Nat)(ws:List D)(k:Int)(ds:List D):cU:=.row true ws k::mY (n-1) ds
noncomputable def bB6(d:D)(O:cU):bA D:=match(O[0]? :Option Slot)with
 |some (.row true _ k)=>.ok (.tup [d,.int k])
 |_=>.bad
def cF:Fl->bA D
 | .rr d O=>bB6 d O
 | .nx O=>bB6 .non O
 |_=>.bad
def jU(np n:Nat)(g:MS):List D->bA D
 | .lst ws:: .int k::ds=>if ds.length+1=np then(g (yF n ws k ds)).bind cF else .bad
 |_=>.bad
theorem gA4{st:Stmt}{f:Addr}{n0:Str}{g:MS}(F:fU K x qual st f fd)(S:kY (n0::N) ps (cR st))
 (hbody:∀(_:Pd) (cdv:Value) (A:Around) (outer:List Env) (s:Shared) (H:Hp) (E:XK),dH k (A.deeper (envOfC qual (cR st) s.heap.objs.size f cdv))->
   kM (rX dA P w K mg base (n0::N) qual (cR st) f cdv A outer s H E).nox (kD st) g):cS P w K mg base dA (k+1) f fd ps (sU K (jU ps.length (n0::N).length g)):=by
 refine F.ok S (fun vs H Q E h=>?_) (fun cdv A outer s H vs Q E hr h=>?_)
 ·obtain⟨F,a,dx,l,ws,k,ds,vs',rfl,_,_,_,r,q⟩:=h
  unfold jU at q
  dsimp only at q
  split at q
  ·rename_i e;rw[length_cons, <-r.length];exact e
  ·exact q.elim
 ·obtain⟨F,a,dx,l,ws,k,ds,vs',rfl,ti,s',r,d,q⟩:=h
  unfold jU at q
  dsimp only at q
  split at q
  ·rename_i e
   letI:Pd:=⟨a,dx,l⟩
   have E0:=env0 (N:=N) ti s' d
   have nr:∀s∈mY N.length ds,sC s=true:=cC2
   have nown:∀(i:Nat) es,(yF (n0::N).length ws k ds)[i]? ≠some (.own es):=fun i es e=>by
    unfold yF at e
    cases i with
    |zero=>cases e
    |succ i=>
     rw[List.getElem?_cons_succ]at e
     unfold mY at e
     rcases List.mem_append.mp (mem_of_getElem? e)with h|h
     ·obtain⟨d,_,h⟩:=List.mem_map.mp h;cases h
     ·have:=eq_of_mem_replicate h;cases this
   have only:∀(i:Nat) p ws' k',(yF (n0::N).length ws k ds)[i]? =some (.row p ws' k')->i=0:=fun i p ws' k' e=>by
    cases i with
    |zero=>rfl
    |succ i=>exact noConfusion (nr _ (mem_of_getElem? e))
   have st0:L2.start (n0::N) (.ref a::vs')=some (.ref a)::L2.start N vs':=by
    unfold L2.start
    rw[map_cons,List.cons_append,length_cons,length_cons,Nat.add_sub_add_right]
   refine⟨_,hbody ⟨a,dx,l⟩ cdv A outer s H E hr F (ers H a),yF (n0::N).length ws k ds,F,⟨cF5 s',⟨ti,s',?_,fun i t e=>?_,fun i j es fs b _ e=>absurd e (nown i es)⟩,fun i es b e=>absurd e (nown i es),fun i p ws' k' b e1 e2=>?_,fun i j p U m p' U' m' e1 e2=>(only i _ _ _ e1).trans (only j _ _ _ e2).symm⟩,?_⟩
   ·rw[st0];unfold yF;rw[length_cons,length_cons];exact congrArg (· +1) E0.len
   ·rw[st0]
    cases i with
    |zero=>cases e;exact⟨_,rfl,a,dx,l,rfl,fun _=>⟨rfl,rfl,rfl⟩,r⟩
    |succ i=>exact E0.at_ i t e
   ·cases only i _ _ _ e1
    rw[st0]at e2;cases e2;exact cF4
   ·have cZ:∀d O Y F' H' v,pR K F H a dx l ws (yB (bB6 d O)) Q->SR K F (ers H a) F' H' O Y->bC K F' d v->Q v H':=fun d O Y F' H' v q S' dv=>by
     unfold bB6 at q
     split at q
     ·rename_i ws' k' hi
      obtain⟨o,_,a',dx',l',_,hp,r'⟩:=S'.env.at_ 0 _ hi
      obtain⟨rfl,rfl,rfl⟩:=hp rfl
      exact q v F' H' S'.gr ⟨r'.o,r'.n,r.w.mono S'.gr.fs⟩ dv
     ·exact q.elim
    revert q
    cases g (yF (n0::N).length ws k ds)with
    |ok fl=>
     intro q
     cases fl with
     |nx O=>exact fun Y F' H' S'=>cZ .non O Y F' H' .non q S' (by simp only[bC])
     |rr d O=>exact fun v Y F' H' S' dv=>cZ d O Y F' H' v q S' dv
     |rt d=>exact q.elim
     |bk O=>exact q.elim
     |ct O=>exact q.elim
    |ex _=>exact fun q=>q
    |bad=>exact fun q=>q
  ·exact q.elim
end
variable{ga:mL}
section
variable [dF] [Pd]
def nZ(i:Nat)(p:Bool)(ws:List D)(js:List Nat)(g:MX)(O:cU):List D->Int->bA (List D×Int)
 | [],k=>.ok ([],k)
 |d::ds,k=>(g (.val d::fJ js (O.set i (.row p ws k)))).bind fun r=>(nZ i p ws js g O ds r.2).bind fun rs=>.ok (r.1::rs.1,rs.2)
section
variable{g:MX}{ii:Nat}
theorem gA5{H2 F2:Hp}{ys:List D}{J:It}{it:Addr}{Ex:Value->Shared->Prop}{ri ii:Nat}{pb:Bool}{k0 k1:Int}
 (S:nS X scope [x] caps js) (hc:X.calm=true) (I2:bE X pc Y H2 s2) (T:rS X.prog X.w X.K (.Name x px) J fp it tn) (t0:tn 0 s2.heap) (f2:∀b∈fp,jP X pc H2 b) (Ev:gC X.K F2 H2 O Y) (on:bB2 O ri) (hri:O[ri]? =some (.row pb ws k0)) (hra:Y[ri]? =some (some (.ref a))) (r2:gW X.K F2 H2 a dx l ws k0) (hpd:pb=true->a=Pd.a/\dx=Pd.dx/\l=Pd.l) (hj:js[ii]? =some ri) (hu:∀m,js[m]? =some ri->m=ii) (io:kN X.K F2 J ds)
 (hg:∀C fp s H E,IX (lC X ([x]++caps) scope C fp s H E) (ii+1) elt g) (hys:nZ ri pb ws js g O ds k0= .ok (ys,k1)) (hlen:ds.length<=sizeLine)
 (hend:∀Dd C s' H' F' vs m',H2 Dd=none->bQ F2 (ers H2 a) F' H'->gW X.K F' H' a dx l ws k1->F' Dd=none->H' Dd=some (.lst vs)->DatL X.K F' ys vs->s'.heap.Ns C m'->(∀h',Heap.SameBut C s'.heap h'->bE X pc Y H' {s' with heap:=h'})->jP X pc H' C->RR (.ref Dd) C (.ok .next) s'):
 wpAny (model X.prog X.w) X.A (newList []) (fun acc s₃=>wpAny (model X.prog X.w) X.A (newFunctionEnv scope X.env.globals (gI scope.names X.env.cells []) [] X.env.qual none .none (some X.env)) (fun cenv s₄=>
  codeAny (model X.prog X.w) X.A (.compStart (.ListComp elt [⟨.Name x px,iter,[],0⟩] scope pos) 0 (.ref it) acc {cenv with scope:=relabel scope X.env}) (RR acc cenv.locals) s₄) Ex s₃) Ex s2:=by
 refine wpAny_newObj_type (wpAny_newFunctionEnv S.nocell (by intro y hy;simp at hy) (fun h₁ hns₁ hsb₁=>?_) S.kind)
 dsimp only at hns₁ hsb₁ ⊢
 have I3:bE X pc Y (upd H2 s2.heap.objs.size (.lst [])) {s2 with heap:=s2.heap.push {cls:=.type "list",data:=.seq ([]:List Value).toArray},toks:=s2.toks}:=I2.lnew (its:=[]) (t':=s2.toks) .nil (zero_le _)
 generalize hs3:({s2 with heap:=s2.heap.push {cls:=.type "list",data:=.seq ([]:List Value).toArray},toks:=s2.toks}:Shared)=s3 at I3
 have e3:s2.heap.push {cls:=.type "list",dict:=none,data:=.seq ([]:List Value).toArray}=s3.heap:=by rw[<-hs3]
 have hsz3:s3.heap.objs.size=s2.heap.objs.size+1:=by rw[<-e3,size_push]
 rw[e3]at hns₁ hsb₁ ⊢
 have hfresh:H2 s2.heap.objs.size=none:=I2.hok.fresh (le_refl _)
 have hltf:∀b∈fp,b<s2.heap.objs.size:=fun b hb=>by
  obtain⟨o,e,_⟩:=T.obj 0 _ t0 b hb
  exact lt_size e
 have f3:∀b∈fp,jP X pc (upd H2 s2.heap.objs.size (.lst [])) b:=fun b hb=>⟨by rw[cK (ne_of_lt (hltf b hb))];exact(f2 b hb).1,(f2 b hb).2⟩
 have hkeep1:∀b o,s3.heap.get? b=some o->h₁.get? b=some o:=fun b o e=>(hsb₁.2 b (ne_of_lt (lt_size e))).trans (get?_push_of_some _ e)
 have J0:=cZ7 (os:=[x]) (E:=notedBy (model X.prog X.w) X.A (compEnvC scope (gI scope.names X.env.cells []) s3.heap.objs.size X.env) fun e s'=>RR (.ref s2.heap.objs.size) s3.heap.objs.size (.error e) s')
  (tk:=s3.toks+([]:List (Str×Value)).length) S I3 f3 (fun b hb=>by rw[hsz3];exact Nat.lt_succ_of_lt (hltf b hb)) hns₁ hkeep1
 have t1:tn 0 h₁:=T.keep 0 _ _ t0 fun b hb o e=>hkeep1 b o (by rw[<-e3];exact get?_push_of_some _ e)
 generalize hX':lC X ([x]++caps) scope s3.heap.objs.size fp s3 (upd H2 s2.heap.objs.size (.lst [])) (notedBy (model X.prog X.w) X.A (compEnvC scope (gI scope.names X.env.cells []) s3.heap.objs.size X.env) fun e s'=>RR (.ref s2.heap.objs.size) s3.heap.objs.size (.error e) s')=X' at J0
 have hfp:∀{H':Hp},(∀b∈fp,H' b=none)->∀b∈fp,jP X' pc H' b:=fun{H'} hn b hb=>by
  rw[<-hX']
  refine⟨hn b hb,?_,?_,.inl hb,fun y c e=>?_,fun q hq=>(f2 b hb).2.2.2.2.2 q hq⟩
  ·show b≠s3.heap.objs.size
   rw[hsz3];exact ne_of_lt (Nat.lt_succ_of_lt (hltf b hb))
  ·show b∉lI X.stack
   intro z
   rcases List.mem_cons.mp (I2.stkSub b z)with z|z
   ·exact(f2 b hb).2.1 z
   ·exact(f2 b hb).2.2.1 z
  ·rcases bP4 scope.names [] e with q|⟨q1,q2⟩
   ·cases q
   ·obtain⟨c',hc'⟩:=I2.ok.has y (S.fr (y,.free) q1 rfl)
    rw[hc']at q2
    have:c'=c:=q2
    subst this
    exact(f2 b hb).2.2.2.2.1 y c' hc'
 have loop:∀s4:Shared,s4={s3 with heap:=h₁,toks:=s3.toks+([]:List (Str×Value)).length}->
  codeAny (model X.prog X.w) X.A (.compLoop (.ListComp elt [⟨.Name x px,iter,[],0⟩] scope pos) 0 (.ref it) (.ref s2.heap.objs.size) (compEnvC scope (gI scope.names X.env.cells []) s3.heap.objs.size X.env)) (RR (.ref s2.heap.objs.size) s3.heap.objs.size) s4:=by
  rintro s4 rfl
  refine cZ5 (fun n s'=>∃i σ' H' F' zs vs kk,n=ds.length-i/\i<=ds.length/\bE X' pc σ' H' s'/\tn i s'.heap/\(∀b∈fp,H' b=none)/\(∃as:St,as.length=1/\σ'=as++gZ js Y)/\bQ F2 (ers H2 a) F' H'/\gW X.K F' H' a dx l ws kk/\F' s2.heap.objs.size=none/\
   H' s2.heap.objs.size=some (.lst vs)/\DatL X.K F' zs vs/\zs.length<=i/\((nZ ri pb ws js g O (ds.drop i) kk).bind fun r=>.ok (zs++r.1,r.2))= .ok (ys,k1)) ?_ ds.length ?_
  ·rintro n s' ⟨i,σ',H',F',zs,vs,kk,rfl,hi,I',st,fr,⟨as,la,rfl⟩,gr,rr,fD,hD,dl,zl,hm⟩
   obtain⟨io1,io2⟩:=io i F' H' gr.fs gr.sub
   by_cases hlt:i<ds.length
   ·have hd:ds[i]? =some ds[i]:=getElem?_eq_getElem hlt
    obtain⟨go,yl⟩:=io1 _ hd
    have hit:=T.item X' (by rw[<-hX']) (by rw[<-hX']) (by rw[<-hX']) (by rw[<-hX'];exact hc) i pc s' (as++gZ js Y) H' X'.xe I' (hfp fr) st go
    have hA:X'.A=X.A:=by rw[<-hX']
    have hXe:X'.xe=notedBy (model X.prog X.w) X.A (compEnvC scope (gI scope.names X.env.cells []) s3.heap.objs.size X.env) fun e s'=>RR (.ref s2.heap.objs.size) s3.heap.objs.size (.error e) s':=by rw[<-hX']
    have hEnv:X'.env=compEnvC scope (gI scope.names X.env.cells []) s3.heap.objs.size X.env:=by rw[<-hX']
    have hP:X'.prog=X.prog:=by rw[<-hX']
    have hW:X'.w=X.w:=by rw[<-hX']
    have hK:X'.K=X.K:=by rw[<-hX']
    rw[hA,hXe]at hit
    refine wpAny_mono hit (fun r s5 ⟨u,hr,h5⟩=>?_) fun _ _ z=>z
    subst hr
    refine wpAny_mono h5 (fun _ s6 qz=>?_) fun _ _ z=>z;obtain⟨v,H6,I6,r6,y6,st6,fr6⟩:=qz
    obtain⟨F6,g6,d6⟩:=yl v H6 y6
    have I6':=I6.pinned (hfp fr6) (T.obj _ _ st6)
    have gr6:=gr.trans g6
    have hD6:H6 s2.heap.objs.size=some (.lst vs):=g6.same _ _ rfl hD
    have fD6:F6 s2.heap.objs.size=none:=g6.new _ fD (by rw[hD];simp)
    rw[List.drop_eq_getElem_cons hlt,nZ]at hm
    obtain⟨vz,lz,dz,gz⟩:=(bP5 (p:=fun _=>.ok true) (g:=fun _=>.bad) (px:=px) S).ok (σr:=gZ js Y) (d:=ds[i]) rfl d6 g6.sub la
    have pg:PG X' (.Name x px) (mC 0):=by rw[<-hX'];exact(bP5 (p:=fun _=>.ok true) (g:=fun _=>.bad) (px:=px) S).pg _ _ _ _ _
    have has:=pg _ s6 _ H6 v u _ I6' r6 gz
    rw[hA,hXe,hEnv,hP,hW]at has
    refine wpAny_mono has (fun _ s7 qz=>?_) fun _ _ z=>z;obtain⟨σ7,H7,I7,e7,e7'⟩:=qz
    subst e7 e7'
    have E7:gC X'.K F6 H7 ([ds[i]].map .val++fJ js (O.set ri (.row pb ws kk))) (vz.map some++gZ js Y):=by rw[hK];exact cZ9 dz (Ev.rstep on hri hra r2 hpd gr rr) g6
    have hpp:sI X' [] (fun _=>.ok true):=cD7
    have hgg:=hg s3.heap.objs.size fp s3 (upd H2 s2.heap.objs.size (.lst [])) (notedBy (model X.prog X.w) X.A (compEnvC scope (gI scope.names X.env.cells []) s3.heap.objs.size X.env) fun e s'=>RR (.ref s2.heap.objs.size) s3.heap.objs.size (.error e) s')
    rw[hX']at hgg
    ·have hte:=cZ6 (Q:=fun b' H8=>b'=true/\ ∃F8,bQ F6 H7 F8 H8) hpp I7 ⟨_,F6,E7,fun b' F8 H8 g8 e8=>⟨(show true=b' from e8).symm,F8,g8⟩⟩
     rw[hA,hXe,hEnv,hP,hW]at hte
     refine wpAny_mono hte (fun b' s8 qz=>?_) fun _ _ z=>z;obtain⟨H8,I8,e8,F8,g8⟩:=qz
     subst e8
     have gr8:=gr6.trans g8
     have hD8:H8 s2.heap.objs.size=some (.lst vs):=g8.same _ _ rfl hD6
     have fD8:F8 s2.heap.objs.size=none:=g8.new _ fD6 (by rw[hD6];simp)
     have stay:∀{σ9:St} {H9:Hp} {s9:Shared},bE X' (pc++zO fp s6.heap) σ9 H9 s9->tn (i+1) s9.heap/\ ∀b∈fp,H9 b=none:=fun{σ9 H9 s9} I9=>
      ⟨T.keep _ _ _ st6 fun b hb o e=>(I9.pin (b,o) (mem_append_right _ (mem_append_right _ (zP hb e)))).1,fun b hb=>by
       obtain⟨o,e,d⟩:=T.obj _ _ st6 b hb
       exact(I9.pin (b,o) (mem_append_right _ (mem_append_right _ (zP hb e)))).2.1⟩
     ·refine rZ ?_
      have hm':(((g ([ds[i]].map .val++fJ js (O.set ri (.row pb ws kk)))).bind fun y=>(nZ ri pb ws js g O (ds.drop (i+1)) y.2).bind fun ys=>.ok (y.1::ys.1,ys.2)).bind fun r=>.ok (zs++r.1,r.2))= .ok (ys,k1):=hm
      cases hgv:g ([ds[i]].map .val++fJ js (O.set ri (.row pb ws kk)))with
      |ok y=>
       rw[hgv]at hm'
       have rr8:=(rr.grow g6).grow g8
       have hcap:∀m,(fJ js (O.set ri (.row pb ws kk)))[m]? =(js[m]?).map fun j=>bH0 ((O.set ri (.row pb ws kk)).getD j .no):=fun m=>by unfold fJ;rw[getElem?_map]
       have hil:ri<O.length:=(List.getElem?_eq_some_iff.mp hri).1
       have hin:([ds[i]].map Slot.val++fJ js (O.set ri (.row pb ws kk)))[ii+1]? =some (.row pb ws kk):=by
        show(fJ js (O.set ri (.row pb ws kk)))[ii]? =_
        rw[hcap,hj]
        show some (bH0 ((O.set ri (.row pb ws kk)).getD ri .no))=_
        rw[getD_eq_getElem?_getD,getElem?_set_self hil];rfl
       have hon:bB2 ([ds[i]].map Slot.val++fJ js (O.set ri (.row pb ws kk))) (ii+1):=fun j' p' w' m' e'=>by
        cases j' with
        |zero=>cases e'
        |succ j'=>
         have e2:(fJ js (O.set ri (.row pb ws kk)))[j']? =some (.row p' w' m'):=e'
         rw[hcap]at e2
         cases hq:js[j']? with
         |none=>rw[hq]at e2;cases e2
         |some q=>
          rw[hq]at e2
          have e3:bH0 ((O.set ri (.row pb ws kk)).getD q .no)= .row p' w' m':=Option.some.inj e2
          have e4:q=ri:=by
           cases e5:(O.set ri (.row pb ws kk))[q]? with
           |none=>rw[getD_eq_getElem?_getD,e5]at e3;cases e3
           |some sl=>
            rw[getD_eq_getElem?_getD,e5]at e3
            cases sl with
            |row p3 w3 m3=>
             rcases jT e5 with⟨z,_,_⟩|⟨_,z⟩
             ·exact z.symm
             ·exact on q p3 w3 m3 z
            |_=>cases e3
          subst e4
          rw[hu j' hq]
       have hsv:(vz.map some++gZ js Y)[ii+1]? =some (some (.ref a)):=by
        match vz,lz with
        | [v0],_=>
         show(gZ js Y)[ii]? =_
         unfold gZ
         rw[getElem?_map,hj]
         show some (Y.getD ri none)=_
         rw[getD_eq_getElem?_getD,hra];rfl
       have hel:=hgg _ s8 _ H8 (fun v9 H9=>∃F9,bQ F8 (ers H8 a) F9 H9/\gW X.K F9 H9 a dx l ws y.2/\bC X.K F9 y.1 v9) I8 ⟨_,F8,a,dx,l,pb,ws,kk,E7.grow g8,hon,hin,hsv,by rw[hK];exact rr8,by rw[hgv];exact fun v9 F9 H9 g9 r9 d9=>⟨F9,g9,by rw[<-hK];exact r9,by rw[<-hK];exact d9⟩⟩
       rw[hA,hXe,hEnv,hP,hW]at hel
       refine wpAny_mono hel (fun u9 s9 qz=>?_) fun _ _ z=>z;obtain⟨v9,H9,I9,r9,F9,g9,rr9,d9⟩:=qz
       have gr9:=(gr8.ersR rr8).trans g9
       have na:s2.heap.objs.size≠a:=wZ hD8 rr8.o (fun z=>nomatch z)
       have hD9:H9 s2.heap.objs.size=some (.lst vs):=g9.same _ _ rfl (by rw[kI na];exact hD8)
       have fD9:F9 s2.heap.objs.size=none:=g9.new _ fD8 (by rw[kI na,hD8];simp)
       have hvl:vs.length=zs.length:=dl.length.symm
       have hap:=bO0 (X:=X') _ s9 _ H9 (.ref s2.heap.objs.size) [v9] (.ref s2.heap.objs.size) [u9] (fun w H10=>H10=upd H9 s2.heap.objs.size (.lst (vs++ [v9]))) I9 rfl (.cons r9 .nil)
        ⟨_,vs,v9,rfl,rfl,hD9,by omega,rfl⟩
       rw[hA,hXe,hP,hW]at hap
       refine wpAny_mono hap (fun _ s10 qz=>?_) fun _ _ z=>z;obtain⟨w,H10,I10,_,e10⟩:=qz
       subst e10
       refine⟨ds.length-(i+1),by omega,i+1,vz.map some++gZ js Y,_,F9,zs++ [y.1],vs++ [v9],y.2,rfl,hlt,I10.unpinned,(stay I10).1,(stay I10).2,⟨_,by rw[length_map];exact lz,rfl⟩,?_,⟨by rw[cK na.symm];exact rr9.o,rr9.n,rr9.w⟩,fD9,dY,?_,?_,?_⟩
       ·exact⟨fun b o nt q=>by rw[cK (pL (sR q) hfresh)];exact gr9.same b o nt q,cB8 gr9.more _ _,fun ti=>⟨(gr9.tk ti).1.updL hD9 _,(gr9.tk ti).2⟩,gr9.fs,xJ gr9.sub fD9 _,gr9.new⟩
       ·exact DatL.of (sA (((dl.mono g6.fs).mono g8.fs).mono g9.fs).paired (.cons d9 .nil))
       ·rw[length_append];show zs.length+1<=i+1;omega
       ·revert hm'
        show(((nZ ri pb ws js g O (ds.drop (i+1)) y.2).bind fun ys=>.ok (y.1::ys.1,ys.2)).bind fun r=>.ok (zs++r.1,r.2))= .ok (ys,k1)->_
        cases nZ ri pb ws js g O (ds.drop (i+1)) y.2 with
        |ok r=>
         intro z
         have z':(bA.ok (zs++(y.1::r.1),r.2):bA (List D×Int))= .ok (ys,k1):=z
         show(bA.ok ((zs++ [y.1])++r.1,r.2):bA (List D×Int))= .ok (ys,k1)
         rw[<-z'];simp
        |ex _=>intro z;cases z
        |bad=>intro z;cases z
      |ex _=>rw[hgv]at hm';cases hm'
      |bad=>rw[hgv]at hm';cases hm'
   ·have e:i=ds.length:=by omega
    subst e
    have hdn:=T.done X' (by rw[<-hX']) (by rw[<-hX']) (by rw[<-hX']) (by rw[<-hX'];exact hc) ds.length pc s' (as++gZ js Y) H' X'.xe I' (hfp fr) st (io2 rfl)
    have hA:X'.A=X.A:=by rw[<-hX']
    have hXe:X'.xe=notedBy (model X.prog X.w) X.A (compEnvC scope (gI scope.names X.env.cells []) s3.heap.objs.size X.env) fun e s'=>RR (.ref s2.heap.objs.size) s3.heap.objs.size (.error e) s':=by rw[<-hX']
    rw[hA,hXe]at hdn
    refine wpAny_mono hdn (fun r s5 ⟨hr,I5⟩=>?_) fun _ _ z=>z
    subst hr
    rw[List.drop_eq_nil_of_le (le_refl _)]at hm
    have hzs:zs=ys/\kk=k1:=by
     have hm':(bA.ok (zs++ [],kk):bA (List D×Int))= .ok (ys,k1):=hm
     rw[append_nil]at hm'
     cases hm';exact⟨rfl,rfl⟩
    obtain⟨rfl,rfl⟩:=hzs
    have I5':=I5
    rw[<-hX']at I5'
    obtain⟨m',hn',_⟩:=I5'.loc
    refine hend s2.heap.objs.size s3.heap.objs.size s5 H' F' vs m' hfresh gr rr fD hD dl hn' (fun h' hs'=>cZ8 I3 I5' (le_refl _) hs' f3) ?_
    exact I3.fpOk (le_refl _) I5'.free
  ·refine⟨0,[x].map (fun _=>none)++gZ js Y,_,F2,[],[],k0,by omega,zero_le _,J0,t1,fun b hb=>(f3 b hb).1,⟨_,by rw[length_map];rfl,rfl⟩,(cF5 Ev.sub).trans (bQ.laidN Ev.sub hfresh _),r2.grow (bQ.laidN Ev.sub hfresh _),bF.free Ev.sub hfresh,dY,DatL.nil,le_refl _,?_⟩
   rw[List.drop_zero,hys];rfl
 subst hs3
 exact codeAny_compStart_list (loop _ rfl) (T.self _ 0 _ _ _ t1 (loop _ rfl))
def yG(i:Nat)(js:List Nat)(fl:ML)(g:MX):MX:=fun O=>match O[i]? with
 |some (.row p ws k)=>(fl O).bind fun ds=>if ds.length<=sizeLine then(nZ i p ws js g O ds k).bind fun r=>.ok (.lst r.1,r.2)else .bad
 |_=>.bad
theorem gA6(S:nS X scope [x] caps js)(hc:X.calm=true)(hi:II X (.Name x px) iter fl)(hj:js[ii]? =some i)(hu:∀m,js[m]? =some i->m=ii)(hg:∀C fp s H E,IX (lC X ([x]++caps) scope C fp s H E) (ii+1) elt g)
 (hs:∀x,foldedSetIterable iter X.env x=pure x):IX X i (.ListComp elt [⟨.Name x px,iter,[],0⟩] scope pos) (yG i js fl g):=by
 intro pc s Y H Q I qz;obtain⟨O,F,a,dx,l,p,ws,k,Ev,o,hri,h1,r,q⟩:=qz
 rw[eval_ListComp]
 refine wpAny_comprehension_free (use:=none) rfl hs (cD1 S I) S.kind S.names ?_
 have hpd:p=true->a=Pd.a/\dx=Pd.dx/\l=Pd.l:=Ev.pd hri h1 r
 unfold yG at q
 rw[hri]at q
 dsimp only at q
 cases hf:fl O with
 |ok ds=>
  rw[hf]at q
  have q':pR X.K F H a dx l ws (if ds.length<=sizeLine then(nZ i p ws js g O ds k).bind fun r=>.ok (.lst r.1,r.2)else .bad) Q:=q
  split at q'
  ·rename_i hlen
   cases hcm:nZ i p ws js g O ds k with
   |ok ys=>
    rw[hcm]at q'
    have q2:pR X.K F H a dx l ws (.ok (.lst ys.1,ys.2)) Q:=q'
    have hiter:=hi pc s Y H (fun J H2=>∃F2,bQ F H F2 H2/\kN X.K F2 J ds) I ⟨O,F,Ev,by rw[hf];exact fun J F' H' g' io=>⟨F',g',io⟩⟩
    refine wpAny_mono hiter (fun v s1 h1'=>wpAny_mono h1' (fun itv s2 h2=>?_) fun _ _ e=>e) fun _ _ e=>e
    obtain⟨it,fp,tn,J,H2,rfl,I2,T,t0,f2,F2,g2,io⟩:=h2
    refine gA5 (RR:=fun acc C=>compPost (model X.prog X.w) X.A X.xe none (EP X pc Y Q) acc C) S hc I2 T t0 f2 (Ev.grow g2) o hri h1 (r.grow g2) hpd hj hu io hg hcm hlen ?_
    intro Dd C s' H' F' vs m' hD2 gr rr fD hD dl hn hback hfp
    refine⟨m',hn,fun h' hs'=>⟨.ref Dd,H',hback h' hs',rfl,?_⟩⟩
    have hH:H Dd=none:=g2.free hD2
    have grA:=(g2.ers r).trans gr
    refine q2 (.ref Dd) (upd F' Dd (.lst vs)) H' ⟨grA.same,grA.more,fun ti=>⟨(grA.tk ti).1,(grA.tk ti).2.upd _ rfl⟩,grA.fs.trans (jY fD _),fun b o e=>?_,fun b hb hn'=>?_⟩ ⟨rr.o,?_,rr.w.mono (jY fD _)⟩ ?_
    ·by_cases z:b=Dd
     ·subst z;rw[dY]at e;cases e;exact hD
     ·rw[cK z]at e;exact grA.sub b o e
    ·have z:b≠Dd:=fun z=>hn' (by rw[z];unfold ers;split<;>first|rfl|exact hH)
     rw[cK z];exact grA.new b hb hn'
    ·rw[cK (wZ rr.o hD (fun z=>nomatch z))];exact rr.n
    ·simp only[bC]
     exact⟨Dd,vs,rfl,dO.of dY,dl.mono (jY fD _)⟩
   |ex _=>rw[hcm]at q';exact q'.elim
   |bad=>rw[hcm]at q';exact q'.elim
  ·exact q'.elim
 |ex _=>rw[hf]at q;exact q.elim
 |bad=>rw[hf]at q;exact q.elim
end
section
variable{a b c o:Expr}{g h:ME}
end
def wJ:D->bA (List D)
 | .str t=>match bH2 t [.str " "]with
  | .ok (.lst ws)=>.ok ws
  |_=>.bad
 |_=>.bad
def spI(K:W.Frag):Sp:=fun vs H Q _=>∃F x dx d v ws,vs= [.ref x,v]/\mE F H/\bF F H/\H x=some (.ins dF.rc dx [])/\F x=none/\bC K F d v/\wJ d= .ok ws/\ ∀F' H' l,bQ F (ers H x) F' H'->gW K F' H' x dx l ws 0->Q .non H'
theorem gA7{st:Stmt}{f:Addr}{s t:Str}{p3 p4 p5 p6 p7 p8 p9 q1 q2:Pos}{c c':Nat}(F:fU K x qual st f fd)(S:kY [s,t] [s,t] (cR st))(C:yC K)
 (hb:kD st= [.Assign [.Attribute (.Name s p1) "words" p2] (.Call (.Attribute (.Name t p3) "split" p4) [.Constant (.str " ") c p5] [] p6) p7,.Assign [.Attribute (.Name s p8) "place" p9] (.Constant (.int 0) c' q1) q2])
 (hs:hJ [s,t] (cR st) 0 s) (ht:hJ [s,t] (cR st) 1 t) (hl:(p4.endLine==p6.line)=true):cS P w K mg base dA (k+1) f fd [s,t] (spI K):=by
 refine F.ok S (fun vs H Q E h=>?_) (fun cdv A outer s' H vs Q E hr h=>?_)
 ·obtain⟨F,x,dx,d,v,ws,rfl,_⟩:=h;rfl
 ·obtain⟨F,x,dx,d,v,ws,rfl,ti,sb,hx,fx,dv,hw,q⟩:=h
  rw[hb]
  refine⟨_,cR3 (cT7 (nK hs.n hs.v hs.d hs.c) (dB4 slot_str_split PySem.F.type_str_split fQ5 rfl rfl hl rfl (gJ ht) (jR rfl (dB2 rfl) kZ)) rfl) (cR4 (cT7 (nK hs.n hs.v hs.d hs.c) bZ7 rfl)),?_⟩
  cases d with
  |str z=>
   unfold wJ at hw
   dsimp only at hw
   split at hw
   ·rename_i ws' e
    cases hw
    refine⟨[.no,.val (.str z)],F,⟨ti,sb,rfl,fun i sl e=>?_,fun i j ds es a n e1 e2=>?_⟩,?_⟩
    ·rcases i with _|_|i
     ·cases e;exact⟨_,rfl,trivial⟩
     ·cases e;exact⟨_,rfl,v,rfl,dv⟩
     ·cases e
    ·rcases i with _|_|i<;>cases e1
    ·show dB (bC K) F H (bH2 z [.str " "]) _
     rw[e]
     intro v1 F1 H1 g1 d1
     simp only[bC]at d1
     obtain⟨l,xs,rfl,sq,dl⟩:=d1
     have hx1:H1 x=some (.ins dF.rc dx []):=g1.same _ _ rfl hx
     have fx1:F1 x=none:=g1.new _ fx (by rw[hx];simp)
     refine⟨.ref x,rfl,x,_,dx,[],rfl,hx1,C.c,C.w,(by decide),?_⟩
     refine⟨.ref x,rfl,x,_,dx,_,rfl,dY,C.c,C.p,(by show 1<1000;decide),?_⟩
     rw[dV2]
     refine q F1 _ l ⟨fun b u n e=>?_,fun b h=>?_,fun t=>?_,g1.fs,xJ g1.sub fx1 _,fun b h n=>g1.new b h (sT n).2⟩ ⟨dY,fx1,by simp only[bC];exact⟨l,xs,rfl,sq,dl⟩⟩
     ·rw[cK (yA e)];exact g1.same b u n (sR e)
     ·rw[cK (sT h).1];exact g1.more b (sT h).2
     ·have t1:=g1.tk ⟨t.1.same fun b u q=>sR q,t.2⟩
      exact⟨(t1.1.ers hx1).same fun b u q=>by rw[cK (yA q)];exact sR q,t1.2⟩
   ·cases hw
  |_=>cases hw
structure cF9(P:Program)(w:World)(K:W.Frag)(mg:Str->Option Value)(base:Heap)(k:Nat)(x:Str):Prop where
 ex:∃(f:Addr) (fd:FuncData) (ps:List Str),cS P w K mg base dA k f fd ps (spI K)/\mg x=some (.ref dF.rc)/\Mk K dF.rc f/\jK K fd ps []
def yH(j:Nat)(f:ME):MS:=fun O=>(f O).bind fun d=>(wJ d).bind fun ws=>if O.all sC then .ok (.nx (O.set j (.row false ws 0)))else .bad
section
theorem gA8{n:Int}(S:SR X.K Fa Ha F H O Y)(h0:Ha a=none)(hn:∀s∈O,sC s=true)(r:gW X.K F H a dx l ws n)(i:Nat):SR X.K Fa Ha F H (O.set i (.row false ws n)) (Y.set i (some (.ref a))):=by
 have own:∀(j:Nat) es,(O.set i (.row false ws n))[j]? =some (.own es)->i≠j/\O[j]? =some (.own es):=fun j es z=>by
  rcases jT z with⟨rfl,z,_⟩|⟨n,z⟩
  ·cases z
  ·exact⟨n,z⟩
 have only:∀(j:Nat) p U m,(O.set i (.row false ws n))[j]? =some (.row p U m)->j=i:=fun j p U m z=>by
  rcases jT z with⟨rfl,_,_⟩|⟨_,z⟩
  ·rfl
  ·exact noConfusion (hn _ (mem_of_getElem? z))
 refine⟨S.gr,⟨S.env.tb,S.env.sub,by rw[length_set,length_set];exact S.env.len,fun j t e=>?_,fun j k ds es b m e1 e2 e3=>?_⟩,fun j ds b e1 e2=>?_,fun j p U m b e1 e2=>?_,fun j m p U n p' U' n' e1 e2=>(only j _ _ _ e1).trans (only m _ _ _ e2).symm⟩
 ·rcases jT e with⟨rfl,rfl,hl'⟩|⟨n,e⟩
  ·exact⟨some (.ref a),getElem?_set_self (by rw[<-S.env.len];exact hl'),a,dx,l,rfl,(fun z=>nomatch z),r⟩
  ·rw[getElem?_set_ne n];exact S.env.at_ j t e
 ·obtain⟨n1,e1⟩:=own j ds e1
  obtain⟨n2,e2⟩:=own k es e2
  rw[getElem?_set_ne n1]at e3
  rw[getElem?_set_ne n2]
  exact S.env.apart j k ds es b m e1 e2 e3
 ·obtain⟨n1,e1⟩:=own j ds e1
  rw[getElem?_set_ne n1]at e2
  exact S.frh j ds b e1 e2
 ·rcases jT e1 with⟨rfl,_,hl'⟩|⟨_,z⟩
  ·rw[getElem?_set_self (by rw[<-S.env.len];exact hl')]at e2;cases e2;exact h0
  ·exact noConfusion (hn _ (mem_of_getElem? z))
theorem gA9(C:cF9 X.prog X.w X.K X.mg X.base k y)(hr:dH (k+1) X.A)(hg:X.env.scope.names.lookup y=some .globalImplicit)(hd:(y==("__debug__" :Str))=false)(hst:fF e=false)(hN:X.N.Nodup)(hi:X.N[j]? =some x)(hx:Loc X.env.scope x)(hf:X.fn x=true\/X.env.scope.names.lookup x=some .local)(he:IE X e f):
 IS X (.Assign [.Name x p] (.Call (.Name y py) [e] [] cp) pos) (yH j f):=fun Fa Ha=>by
 obtain⟨fn,fd,ps,Fn,hm,M,hb⟩:=C.ex
 refine kE (zN (i:=j) hN hi hx (fF0 (E:=E0) M Fn hr hg hm hb .nil rY (lM he qA (dN hst)) hd (dN hst) rfl) (sN rfl) hf) fun E Y H ⟨O,F,S,q⟩=>⟨O,F,S.env,?_⟩
 unfold yH at q
 revert q
 cases f O with
 |ok d=>
  intro q v F1 H1 g1 d1 a dx ha hdx ne
  have q1:gD X Fa Ha ((wJ d).bind fun ws=>if O.all sC then .ok (.nx (O.set j (.row false ws 0)))else .bad) E:=q
  cases hw:wJ d with
  |ok ws=>
   rw[hw]at q1
   have q2:gD X Fa Ha (if O.all sC then .ok (.nx (O.set j (.row false ws 0)))else .bad) E:=q1
   split at q2
   ·rename_i hn
    have S1:=S.grow g1
    have gA:=bQ.laidN S1.env.sub hdx (.own a)
    have ha2:upd H1 dx (.own a) a=none:=by rw[cK ne.symm];exact ha
    have gB:=bQ.laidN gA.sub ha2 (.ins dF.rc dx [])
    have hers:ers (upd (upd H1 dx (.own a)) a (.ins dF.rc dx [])) a=upd H1 dx (.own a):=by
     funext b
     unfold ers
     split
     ·rename_i z;rw[z,ha2]
     ·rename_i z;rw[cK z]
    refine⟨F1,a,dx,d,v,ws,rfl,((S1.grow gA).grow gB).env.tb,gB.sub,dY,bF.free S1.env.sub ha,d1,hw,fun F' H' l g' r'=>⟨rfl,?_⟩⟩
    rw[hers]at g'
    have h0:Ha a=none:=by
     cases z:Ha a with
     |none=>rfl
     |some u=>exact absurd ha (S1.gr.more a (by rw[z];simp))
    exact q2 _ F' H' (gA8 ((S1.grow gA).grow g') h0 (List.all_eq_true.mp hn) r' j)
   ·exact q2.elim
  |ex _=>rw[hw]at q1;exact q1.elim
  |bad=>rw[hw]at q1;exact q1.elim
 |ex _=>exact fun q=>q
 |bad=>exact fun q=>q
noncomputable def pS:List D->bA D
 | [.int i]=>.ok (.int i)
 | [.bl b]=>.ok (.int (if b then 1 else 0))
 | [.str z]=>(match PySem.intText? z with
  |some n=>if z.length<=640 then .ok (.int n)else .bad
  |none=>.bad)
 |_=>.bad
theorem gB0:gM X (.type "int") (qE X pS):=by
 intro pc s Y H xs us Q I r h
 obtain⟨F,ds,sb,hl,q⟩:=h
 unfold pS at q
 split at q
 ·obtain⟨x,rfl,hx⟩:=lB hl
  simp only[bC]at hx;subst hx
  exact cS9 pc s Y H _ us Q I r (.inl ⟨_,rfl,cL q sb (by simp only[bC])⟩)
 ·obtain⟨x,rfl,hx⟩:=lB hl
  simp only[bC]at hx;subst hx
  exact cS9 pc s Y H _ us Q I r (.inr ⟨_,rfl,cL q sb (by simp only[bC])⟩)
 ·obtain⟨x,rfl,hx⟩:=lB hl
  simp only[bC]at hx;obtain⟨rfl,_⟩:=hx
  obtain⟨u,rfl,t,rfl⟩:=nL r
  split at q
  ·rename_i n hn
   split at q
   ·rename_i hz
    exact W.KIN.call_text hn hz ⟨.int n,H,I.tok _,⟨_,rfl⟩,cL q sb (by simp only[bC])⟩
   ·exact q.elim
  ·exact q.elim
 ·exact q.elim
end
structure Ga where
 N:List Str
 nm:List (Str×NameKind)
 fs:List (Str×(List D->bA D))
 cs:List (Str×D)
 ts:List (Str×List (Str×D))
 bs:List Str
 cp:List ((Nat×Nat)×List Str)
 rs:List (Str×(List D->bA D))
 ms:List (Str×(List D->bA D))
 qs:List (Str×(List D->bA D))
 mc:List Str
 ri:Option Nat
 rr:Bool
structure fC(k:Nat)(Z:Ga)(X:Cx):Prop where
 hN:X.N=Z.N
 hS:X.env.scope.names=Z.nm
 hk:X.env.scope.kind= .function
 nd:X.N.Nodup
 cm:X.calm=true
 fs:∀x m,Z.fs.lookup x=some m->sL X.prog X.w X.K X.mg X.base k x m
 cs:∀x d,Z.cs.lookup x=some d->vC X.K X.mg x d
 ts:∀x t,Z.ts.lookup x=some t->wG X.w X.K X.mg x t
 bs:∀x,Z.bs.contains x=true->X.mg x=none
 rm:dH k X.A
 rs:∀x m,Z.rs.lookup x=some m->cF6 X.prog X.w X.K X.mg X.base k x m
 ms:∀x m,Z.ms.lookup x=some m->sV X.prog X.w X.K X.mg X.base k x m
 qs:∀x m,Z.qs.lookup x=some m->sV X.prog X.w X.K X.mg X.base k x m
 mc:∀x,Z.mc.contains x=true->yC X.K/\ ∃j,k=j+1/\cF9 X.prog X.w X.K X.mg X.base j x
noncomputable def ob{α β:Type}(o:Option α)(f:α->Option β):Option β:=match o with
 |some a=>f a
 |none=>none
noncomputable def og{α:Type}(c:Bool)(o:Option α):Option α:=match c with
 |true=>o
 |false=>none
theorem bI{o:Option α}{f:α->Option β}{b:β}(h:ob o f=some b):∃a,o=some a/\f a=some b:=by
 cases o with
 |none=>cases h
 |some a=>exact⟨a,rfl,h⟩
theorem dQ{c:Bool}{o:Option α}{b:α}(h:og c o=some b):c=true/\o=some b:=by
 cases c with
 |false=>cases h
 |true=>exact⟨rfl,h⟩
def atN(x:Str):List Str->Option Nat
 | []=>none
 |y::r=>match y==x with
  |true=>some 0
  |false=>ob (atN x r) fun i=>some (i+1)
theorem cG0:∀{l:List Str} {i:Nat},atN x l=some i->l[i]? =some x
 | [],_,h=>by cases h
 |y::r,i,h=>by
  unfold atN at h
  split at h
  ·rename_i e;cases h;rw[eq_of_beq e];rfl
  ·obtain⟨j,hj,e⟩:=bI h
   cases e
   rw[List.getElem?_cons_succ];exact cG0 hj
noncomputable def vk:Option NameKind->Bool
 |some .local=>true
 |some .cell=>true
 |some .free=>true
 |_=>false
def yI(Z:Ga)(x:Str):Option Nat:=og (vk (Z.nm.lookup x)&&(!(x==("__debug__" :Str))&& !(x==("__classdict__" :Str)))) (atN x Z.N)
noncomputable def gl(Z:Ga)(x:Str):Bool:=(match Z.nm.lookup x with
 |some .globalImplicit=>true
 |_=>false)&& !(x==("__debug__" :Str))
section
variable{Z:Ga}
theorem vI(G:fC k Z X)(h:yI Z x=some i):hJ X.N X.env.scope i x:=by
 obtain⟨h1,h2⟩:=dQ h
 rw[and_eq_true,and_eq_true,not_eq_true',not_eq_true']at h1
 refine⟨by rw[G.hN];exact cG0 h2,?_,h1.2.1,h1.2.2⟩
 rw[G.hS]
 have hv:=h1.1
 revert hv
 cases Z.nm.lookup x with
 |none=>exact fun z=>by cases z
 |some q=>cases q<;>intro z<;>first|exact .inl rfl|exact .inr (.inl rfl)|exact .inr (.inr rfl)|cases z
theorem sX(G:fC k Z X)(h:gl Z x=true):X.env.scope.names.lookup x=some .globalImplicit/\(x==("__debug__" :Str))=false:=by
 unfold gl at h
 rw[and_eq_true,not_eq_true']at h
 refine⟨?_,h.2⟩
 rw[G.hS]
 have hv:=h.1
 split at hv
 ·rename_i e;exact e
 ·cases hv
end
structure Rc where
 E:Ga->Expr->Option ME
 T:Ga->Expr->Option MT
structure jA(k:Nat)(r:Rc):Prop where
 E:∀{Z X e f},fC k Z X->r.E Z e=some f->IE X e f
 T:∀{Z X e f},fC k Z X->r.T Z e=some f->IT X e f
def dF5:Operator->Option (D->D->bA D)
 | .Add=>some bN
 | .Sub=>some mG
 | .Mult=>some jZ
 | .FloorDiv=>some dR
 | .Mod=>some bY
 |_=>none
def bR1:CmpOp->Option (D->D->bA D)
 | .Eq=>some cI
 | .NotEq=>some jS
 | .Lt=>some nR
 | .LtE=>some cP
 | .Gt=>some dJ
 | .In=>some (fQ false)
 | .NotIn=>some (fQ true)
 |_=>none
def cG1(x:Str):Option (List D->bA D):=
 if x== "len" then some cD else if x== "all" then some wD else if x== "min" then some bH9 else if x== "max" then some bI0 else
 if x== "int" then some pS else if x== "list" then some xS else if x== "tuple" then some jM else if x== "str" then some mI else none
noncomputable def tyM(x:Str):Option String:=
 if x== "int" then some "int" else if x== "bool" then some "bool" else if x== "str" then some "str" else if x== "tuple" then some "tuple" else if x== "list" then some "list" else none
def cG3(x:Str):Option (Str->List D->bA D):=
 if x== "startswith" then some sK else if x== "join" then some vG else none
section
variable{Z:Ga}{m:D->D->bA D}
theorem gB1{op:Operator}(h:dF5 op=some m):cQ X (binaryOp op) (rD X m):=by
 cases op<;>cases h
 ·exact cX5
 ·exact fL8
 ·exact fM2
 ·exact fM0
 ·exact fL9
theorem bB8(hr:dH k X.A)(h:bR1 op=some m):cQ X (compareOp op) (rD X m):=by
 cases op<;>cases h
 ·exact fN0 (fQ8 hr)
 ·exact fR8
 ·exact fM5
 ·exact fM6
 ·exact cX8
 ·exact fQ6 (dA8 hr)
 ·exact fQ7 (dA8 hr)
theorem gB2{m:List D->bA D}(hc:X.calm=true)(h:cG1 x=some m):(∃id,gM X (.builtin id) (qE X m)/\bootBuiltins x=some (.builtin id))\/ ∃id,gM X (.type id) (qE X m)/\bootBuiltins x=some (.type id):=by
 unfold cG1 at h
 split at h
 ·rename_i e;cases eq_of_beq e;cases h;exact .inl ⟨_,cC7,boot_len⟩
 split at h
 ·rename_i e;cases eq_of_beq e;cases h;exact .inl ⟨_,fQ1 hc,PyProof.Rows.boot_all⟩
 split at h
 ·rename_i e;cases eq_of_beq e;cases h;exact .inl ⟨_,fW5 hc,PyProof.Rows.boot_min⟩
 split at h
 ·rename_i e;cases eq_of_beq e;cases h;exact .inl ⟨_,fW6 hc,PyProof.Rows.boot_max⟩
 split at h
 ·rename_i e;cases eq_of_beq e;cases h;exact .inr ⟨_,gB0,PyProof.Rows.boot_int⟩
 split at h
 ·rename_i e;cases eq_of_beq e;cases h;exact .inr ⟨_,cY8,boot_list⟩
 split at h
 ·rename_i e;cases eq_of_beq e;cases h;exact .inr ⟨_,cY9,boot_tuple⟩
 split at h
 ·rename_i e;cases eq_of_beq e;cases h;exact .inr ⟨_,fR7,PyProof.Rows.boot_str⟩
 cases h
theorem gB3{T:String}(h:tyM x=some T):nU X.K T/\bootBuiltins x=some (.type T)/\(x==("__name__" :Str))=false:=by
 unfold tyM at h
 split at h
 ·rename_i e;cases eq_of_beq e;cases h;exact⟨fP3 _,PyProof.Rows.boot_int,by decide+kernel⟩
 split at h
 ·rename_i e;cases eq_of_beq e;cases h;exact⟨fP4 _,PyProof.Rows.boot_bool,by decide+kernel⟩
 split at h
 ·rename_i e;cases eq_of_beq e;cases h;exact⟨fP5 _,PyProof.Rows.boot_str,by decide+kernel⟩
 split at h
 ·rename_i e;cases eq_of_beq e;cases h;exact⟨cD4 _,boot_tuple,by decide+kernel⟩
 split at h
 ·rename_i e;cases eq_of_beq e;cases h;exact⟨fP6 _,boot_list,by decide+kernel⟩
 cases h
theorem gB4{m:Str->List D->bA D}(h:cG3 x=some m):∃id,PySem.Slot "str" x id/\typeOf (.builtin id)=pure (.type "method_descriptor")/\xI X id (rMe X m):=by
 unfold cG3 at h
 split at h
 ·rename_i e;cases eq_of_beq e;cases h;exact⟨_,PySem.F.slot_str_startswith,PySem.F.type_str_startswith,fQ3⟩
 split at h
 ·rename_i e;cases eq_of_beq e;cases h;exact⟨_,PySem.F.slot_str_join,PySem.F.type_str_join,fY6⟩
 cases h
end
end
variable{Z:Ga}
section
variable [dF] [Pd]
def rA(r:Rc)(Z:Ga):List Expr->Option MA
 | []=>some bP
 |e::es=>og (!fF e) (ob (r.E Z e) fun f=>ob (rA r Z es) fun g=>some (aC f g))
def rV(r:Rc)(Z:Ga)(op:BoolOp):List Expr->Option ME
 | []=>none
 | [a]=>r.E Z a
 |a::b::rest=>ob (r.E Z a) fun f=>ob (rV r Z op (b::rest)) fun g=>match op with
  | .And=>some (gR f g)
  | .Or=>none
def rW(r:Rc)(Z:Ga)(op:BoolOp):List Expr->Option MT
 | []=>none
 | [a]=>r.T Z a
 |a::b::rest=>ob (r.T Z a) fun f=>ob (rW r Z op (b::rest)) fun g=>match op with
  | .And=>some (lN f g)
  | .Or=>some (gO f g)
def rO(r:Rc)(Z:Ga):Option Expr->Option MO
 |none=>some pN
 |some e=>ob (r.E Z e) fun f=>some (pO f)
def bR2(Z:Ga):Expr->Option (List (Str×D))
 | .Name x _=>og (gl Z x) (Z.ts.lookup x)
 |_=>none
def cM(r:Rc)(Z:Ga)(a:Expr):List CmpOp->List Expr->Option ME
 | [op],[b]=>og (!behindInMarks op b) (match bR2 Z b with
  |some t=>match op with
   | .In=>ob (r.E Z a) fun f=>some (m1 (sP t false) f)
   | .NotIn=>ob (r.E Z a) fun f=>some (m1 (sP t true) f)
   |_=>none
  |none=>ob (bR1 op) fun m=>ob (r.E Z a) fun f=>ob (r.E Z b) fun g=>some (m2 m f g))
 | [op,op'],[b,c]=>og (!lastMarks [op,op'] [b,c]) (ob (bR1 op) fun m=>ob (bR1 op') fun m'=>ob (r.E Z a) fun f=>ob (r.E Z b) fun g=>ob (r.E Z c) fun h=>some (dS m m' f g h))
 |_,_=>none
def sE(r:Rc)(Z:Ga)(a:Expr):Expr->Option ME
 | .Slice lo hi none _=>ob (r.E Z a) fun f=>ob (rO r Z lo) fun l=>ob (rO r Z hi) fun u=>some (pP f l u)
 |b=>og (bP7 b) (match bR2 Z a with
  |some t=>ob (r.E Z b) fun f=>some (m1 (kS t) f)
  |none=>ob (r.E Z a) fun f=>ob (r.E Z b) fun g=>some (m2 bS f g))
def blt(Z:Ga)(x:Str):Bool:=gl Z x&&(Z.bs.contains x&& !(x==("__name__" :Str)))
def rL(r:Rc)(Z:Ga)(tp:Bool)(iter:Expr):Option ML:=match iter with
 | .Call (.Name x p) args [] q=>
  if x== "range" then(match args with
   | [a]=>og (blt Z "range" && !fF a) (ob (r.E Z a) fun f=>some (jG f))
   |_=>none)
  else if x== "zip" then(match args with
   | [a,b]=>og (tp&&(blt Z "zip" &&cX [a,b])) (ob (r.E Z a) fun f=>ob (r.E Z b) fun g=>some (bA7 f g))
   |_=>none)
  else if x== "enumerate" then(match args with
   | [a]=>og (tp&&(blt Z "enumerate" && !fF a)) (ob (r.E Z a) fun f=>some (bH8 f))
   |_=>none)
  else ob (r.E Z iter) fun f=>some (dP f)
 |_=>ob (r.E Z iter) fun f=>some (dP f)
section
variable{r:Rc}
theorem nt{b:Bool}(h:(!b)=true):b=false:=by cases b;rfl;cases h
theorem sY(R:jA k r)(G:fC k Z X):∀{es fa},rA r Z es=some fa->IA X es fa
 | [],_,h=>by cases h;exact kZ
 |e::es,_,h=>by
  obtain⟨h0,h⟩:=dQ h
  obtain⟨f,h1,h⟩:=bI h
  obtain⟨g,h2,h⟩:=bI h
  cases h
  exact jR (nt h0) (R.E G h1) (sY R G h2)
theorem dF6(R:jA k r)(G:fC k Z X){op:BoolOp}:∀{es f},rV r Z op es=some f->IE X (.BoolOp op es pos) f
 | [],_,h=>by cases h
 | [a],_,h=>cW6 (R.E G h)
 |a::b::rest,_,h=>by
  obtain⟨f,h1,h⟩:=bI h
  obtain⟨g,h2,h⟩:=bI h
  cases op with
  |And=>cases h;exact cW7 (R.E G h1) (dF6 R G h2)
  |Or=>cases h
theorem cG4(R:jA k r)(G:fC k Z X){op:BoolOp}:∀{es f},rW r Z op es=some f->IW X (.BoolOp op es pos) f
 | [],_,h=>by cases h
 | [a],_,h=>by
  cases op with
  |And=>exact fK1 (R.T G h)
  |Or=>exact zW (R.T G h)
 |a::b::rest,_,h=>by
  obtain⟨f,h1,h⟩:=bI h
  obtain⟨g,h2,h⟩:=bI h
  cases op with
  |And=>cases h;exact fK2 (R.T G h1) (cG4 R G h2)
  |Or=>cases h;exact zX (R.T G h1) (cG4 R G h2)
theorem dF7(R:jA k r)(G:fC k Z X){f:MO}(h:rO r Z o=some f):IO' X o f:=by
 cases o with
 |none=>cases h;exact fP0
 |some e=>
  obtain⟨f,h1,h⟩:=bI h
  cases h
  exact fP1 (R.E G h1)
theorem dF8(G:fC k Z X){t:List (Str×D)}(h:bR2 Z e=some t):∃x p,e= .Name x p/\wG X.w X.K X.mg x t/\X.env.scope.names.lookup x=some .globalImplicit/\(x==("__debug__" :Str))=false:=by
 unfold bR2 at h
 split at h
 ·obtain⟨h1,h2⟩:=dQ h
  exact⟨_,_,rfl,G.ts _ _ h2,sX G h1⟩
 ·cases h
theorem dF9(R:jA k r)(G:fC k Z X){a:Expr}{ops:List CmpOp}{bs:List Expr}(h:cM r Z a ops bs=some f):IE X (.Compare a ops bs pos) f/\IT X (.Compare a ops bs pos) (mB f):=by
 unfold cM at h
 split at h
 ·replace h:=dQ h
  obtain⟨h0,h⟩:=h
  have h0:=nt h0
  split at h
  ·rename_i ht
   obtain⟨x,p,rfl,C,hg,hd⟩:=dF8 G ht
   split at h
   ·obtain⟨f,h1,h⟩:=bI h
    cases h
    exact⟨dC9 (Or.inl ⟨rfl,rfl⟩) C hg hd h0 (R.E G h1),dD0 (Or.inl ⟨rfl,rfl⟩) C hg hd h0 (R.E G h1)⟩
   ·obtain⟨f,h1,h⟩:=bI h
    cases h
    exact⟨dC9 (Or.inr ⟨rfl,rfl⟩) C hg hd h0 (R.E G h1),dD0 (Or.inr ⟨rfl,rfl⟩) C hg hd h0 (R.E G h1)⟩
   ·cases h
  ·obtain⟨m,hm,h⟩:=bI h
   obtain⟨f,h1,h⟩:=bI h
   obtain⟨g,h2,h⟩:=bI h
   cases h
   exact⟨fL6 (bB8 G.rm hm) (R.E G h1) (R.E G h2) h0,cX4 (bB8 G.rm hm) (R.E G h1) (R.E G h2) h0⟩
 ·obtain⟨h0,h⟩:=dQ h
  obtain⟨m,hm,h⟩:=bI h
  obtain⟨m',hm',h⟩:=bI h
  obtain⟨f,h1,h⟩:=bI h
  obtain⟨g,h2,h⟩:=bI h
  obtain⟨c,h3,h⟩:=bI h
  cases h
  exact⟨fM7 (bB8 G.rm hm) (bB8 G.rm hm') (R.E G h1) (R.E G h2) (R.E G h3) (nt h0),fM8 (bB8 G.rm hm) (bB8 G.rm hm') (R.E G h1) (R.E G h2) (R.E G h3) (nt h0)⟩
 ·cases h
theorem gB5(R:jA k r)(G:fC k Z X){a b:Expr}(h:sE r Z a b=some f):IE X (.Subscript a b pos) f:=by
 unfold sE at h
 split at h
 ·obtain⟨f,h1,h⟩:=bI h
  obtain⟨l,h2,h⟩:=bI h
  obtain⟨u,h3,h⟩:=bI h
  cases h
  exact fP2 (R.E G h1) (dF7 R G h2) (dF7 R G h3)
 ·obtain⟨h0,h⟩:=dQ h
  split at h
  ·rename_i ht
   obtain⟨f,h1,h⟩:=bI h
   cases h
   obtain⟨x,p,rfl,C,hg,hd⟩:=dF8 G ht
   exact fT9 C hg hd h0 (R.E G h1)
  ·obtain⟨f,h1,h⟩:=bI h
   obtain⟨g,h2,h⟩:=bI h
   cases h
   exact qG h0 (R.E G h1) (R.E G h2)
theorem vJ(G:fC k Z X)(h:blt Z x=true):X.env.scope.names.lookup x=some .globalImplicit/\X.mg x=none/\(x==("__debug__" :Str))=false/\(x==("__name__" :Str))=false:=by
 unfold blt at h
 rw[and_eq_true,and_eq_true]at h
 exact⟨(sX G h.1).1,G.bs _ h.2.1,(sX G h.1).2,nt h.2.2⟩
theorem bI3(R:jA k r)(G:fC k Z X)(ht:tp=true->∃es j p,tg= .Tuple es j p)(h:rL r Z tp iter=some fl):II X tg iter fl:=by
 unfold rL at h
 split at h
 ·split at h
  ·rename_i e
   cases eq_of_beq e
   split at h
   ·obtain⟨h0,h⟩:=dQ h
    obtain⟨f,h1,h⟩:=bI h
    cases h
    rw[and_eq_true]at h0
    obtain⟨g1,g2,_⟩:=vJ G h0.1
    exact fR2 g1 g2 (nt h0.2) (R.E G h1)
   ·cases h
  split at h
  ·rename_i e
   cases eq_of_beq e
   split at h
   ·obtain⟨h0,h⟩:=dQ h
    obtain⟨f,h1,h⟩:=bI h
    obtain⟨g,h2,h⟩:=bI h
    cases h
    rw[and_eq_true,and_eq_true]at h0
    obtain⟨es,j,p,rfl⟩:=ht h0.1
    obtain⟨g1,g2,_⟩:=vJ G h0.2.1
    exact fV2 g1 g2 h0.2.2 (R.E G h1) (R.E G h2)
   ·cases h
  split at h
  ·rename_i e
   cases eq_of_beq e
   split at h
   ·obtain⟨h0,h⟩:=dQ h
    obtain⟨f,h1,h⟩:=bI h
    cases h
    rw[and_eq_true,and_eq_true]at h0
    obtain⟨es,j,p,rfl⟩:=ht h0.1
    obtain⟨g1,g2,_⟩:=vJ G h0.2.1
    exact fW4 g1 g2 (nt h0.2.2) (R.E G h1)
   ·cases h
  obtain⟨f,h1,h⟩:=bI h
  cases h
  exact bP3 (R.E G h1)
 ·obtain⟨f,h1,h⟩:=bI h
  cases h
  exact bP3 (R.E G h1)
end
noncomputable def dG0:Expr->Bool
 | .Call _ _ _ _=>false
 |_=>true
theorem base_of{o:Expr}{nm:Str}{w:Sem Value}(h:dG0 o=true):attributeBase o nm env w=w:=by
 cases o<;>first
  | (exact noConfusion h)
  |rfl
def cG5(x:Str):List Expr->Option Expr
 | [.Call (.Name s _) [e] [] _]=>og ((x== "len")&&(s== "set")) (some e)
 |_=>none
theorem gB6(h:cG5 x args=some e):x="len" /\ ∃p q,args= [.Call (.Name "set" p) [e] [] q]:=by
 unfold cG5 at h
 split at h
 ·obtain⟨h0,h⟩:=dQ h
  cases h
  rw[and_eq_true]at h0
  cases eq_of_beq h0.2
  exact⟨eq_of_beq h0.1,_,_,rfl⟩
 ·cases h
def cG6(r:Rc)(Z:Ga)(x:Str)(e:Expr)(es:List Expr):Option ME:=match Z.fs.lookup x with
 |some m=>og (gl Z x&&cX (e::es)) (ob (rA r Z (e::es)) fun fa=>some (mA m fa))
 |none=>match cG5 x (e::es)with
  |some a=>og (blt Z "len" &&(blt Z "set" && !fF a)) (ob (r.E Z a) fun f=>some (m1 bA9 f))
  |none=>if x== "isinstance" then(match es with
   | [.Name t _]=>ob (tyM t) fun T=>og (blt Z "isinstance" &&(blt Z t&& !fF e)) (ob (r.E Z e) fun f=>some (m1 (fY T) f))
   |_=>none)
   else ob (cG1 x) fun m=>og (blt Z x&&cX (e::es)) (ob (rA r Z (e::es)) fun fa=>some (mA m fa))
def cG7(r:Rc)(Z:Ga)(fn:Expr)(args:List Expr)(kw:List Keyword)(pos:Pos):Option ME:=match kw,fn,args with
 | [],.Name x _,e::es=>cG6 r Z x e es
 | [],.Attribute o nm ap,[]=>(match o with
  | .Name y _=>og (ap.endLine==pos.line) (ob (Z.qs.lookup nm) fun m=>ob (yI Z y) fun i=>some (hX i m))
  |_=>none)
 | [],.Attribute o nm ap,e::es=>ob (cG3 nm) fun m=>og (dG0 o&&((ap.endLine==pos.line)&&(cX (e::es)&&Nat.blt (e::es).length 30))) (ob (r.E Z o) fun f=>ob (rA r Z (e::es)) fun fa=>some (pQ m f fa))
 |_,_,_=>none
section
variable{r:Rc}
theorem gB7(R:jA k r)(G:fC k Z X)(h:cG6 r Z x e es=some f):IE X (.Call (.Name x p) (e::es) [] pos) f:=by
 unfold cG6 at h
 split at h
 ·rename_i m hm
  replace h:=dQ h
  obtain⟨h0,h⟩:=h
  obtain⟨fa,h1,h⟩:=bI h
  cases h
  rw[and_eq_true]at h0
  obtain⟨g1,g2⟩:=sX G h0.1
  exact qX (G.fs _ _ hm) G.rm g1 h0.2 g2 (sY R G h1)
 ·split at h
  ·rename_i a ha
   replace h:=dQ h
   obtain⟨h0,h⟩:=h
   obtain⟨fa,h1,h⟩:=bI h
   cases h
   rw[and_eq_true,and_eq_true]at h0
   obtain⟨rfl,q1,q2,e1⟩:=gB6 ha
   cases e1
   obtain⟨g1,g2,_⟩:=vJ G h0.1
   obtain⟨g3,g4,_⟩:=vJ G h0.2.1
   exact fX6 G.cm (nt h0.2.2) g1 g2 g3 g4 (R.E G h1)
  ·split at h
   ·rename_i ex
    cases eq_of_beq ex
    split at h
    ·obtain⟨T,hT,h⟩:=bI h
     replace h:=dQ h
     obtain⟨h0,h⟩:=h
     obtain⟨fa,h1,h⟩:=bI h
     cases h
     rw[and_eq_true,and_eq_true]at h0
     obtain⟨t1,t2,t3⟩:=gB3 (X:=X) hT
     obtain⟨g1,g2,_⟩:=vJ G h0.1
     obtain⟨g3,g4,g5,_⟩:=vJ G h0.2.1
     exact cD9 t1 (nt h0.2.2) g1 g2 g3 g4 t2 g5 t3 (R.E G h1)
    ·cases h
   ·obtain⟨m,hm,h⟩:=bI h
    replace h:=dQ h
    obtain⟨h0,h⟩:=h
    obtain⟨fa,h1,h⟩:=bI h
    cases h
    rw[and_eq_true]at h0
    obtain⟨g1,g2,g3,g4⟩:=vJ G h0.1
    rcases gB2 (X:=X) G.cm hm with⟨id,c1,c2⟩|⟨id,c1,c2⟩
    ·exact cD8 c1 bG8 g1 g2 c2 h0.2 g3 g4 (sY R G h1)
    ·exact dB3 c1 bG8 g1 g2 c2 h0.2 g3 g4 (sY R G h1)
theorem gB8(R:jA k r)(G:fC k Z X){fn:Expr}{kw:List Keyword}(h:cG7 r Z fn args kw pos=some f):IE X (.Call fn args kw pos) f:=by
 unfold cG7 at h
 split at h
 ·exact gB7 R G h
 ·split at h
  ·replace h:=dQ h
   obtain⟨h0,h⟩:=h
   obtain⟨m,h1,h⟩:=bI h
   obtain⟨i,h2,h⟩:=bI h
   cases h
   exact fZ8 (G.qs _ _ h1) G.rm (vI G h2) h0
  ·cases h
 ·obtain⟨m,hm,h⟩:=bI h
  replace h:=dQ h
  obtain⟨h0,h⟩:=h
  obtain⟨fo,h1,h⟩:=bI h
  obtain⟨fa,h2,h⟩:=bI h
  cases h
  rw[and_eq_true,and_eq_true,and_eq_true]at h0
  obtain⟨id,m1,m2,m3⟩:=gB4 (X:=X) hm
  exact dB4 m1 m2 m3 h0.2.2.1 h0.2.2.2 h0.2.1 (base_of h0.1) (R.E G h1) (sY R G h2)
 ·cases h
end
noncomputable def cG8(names outer:List (Str×NameKind)):List (Str×NameKind):=names.map fun(n,k)=>if(k==NameKind.free&&outer.lookup n==some .cell)then(n,NameKind.cell)else(n,k)
def inG(Z:Ga)(scope:Scope)(os caps:List Str):Ga:={Z with N:=os++caps,nm:=cG8 scope.names Z.nm}
noncomputable def isFn(scope:Scope):Bool:=match scope.kind with
 | .function=>true
 |_=>false
def bI4(Z:Ga)(scope:Scope)(os caps:List Str)(js:List Nat):Bool:=
 isFn scope&&((scope.names.all fun y=>decide (y.2≠ .cell))&&((scope.names.all fun y=>decide (y.2= .local->scope.names.lookup y.1=some .local))&&((os.all fun x=>decide (scope.names.lookup x=some .local))&&
 ((scope.names.all fun y=>decide (y.2= .free->Z.nm.lookup y.1=some .cell\/Z.nm.lookup y.1=some .free))&&(decide ((os++caps).Nodup)&&(decide (caps.length=js.length)&&((caps.zip js).all fun q=>decide (Z.N[q.2]? =some q.1)&&decide (scope.names.lookup q.1=some .free))))))))
def wK(N:List Str):List Str->List Nat
 | []=>[]
 |x::r=>((atN x N).getD 0)::wK N r
noncomputable def bR3(r:Rc)(Z:Ga):List Expr->Option MT
 | []=>some fun _=>.ok true
 | [c]=>r.T Z c
 |_=>none
structure CQ where
 js:List Nat
 fl:ML
 P:MT
 G:ME
def bR4(r:Rc)(Z:Ga)(elt:Expr)(gens:List Comprehension)(scope:Scope)(pos:Pos):Option CQ:=ob (Z.cp.lookup (pos.line,pos.col)) fun caps=>match gens with
 | [⟨t,iter,ifs,0⟩]=>(match t with
  | .Name x _=>og (bI4 Z scope [x] caps (wK Z.N caps)&&xU iter) (ob (rL r Z false iter) fun fl=>ob (bR3 r (inG Z scope [x] caps) ifs) fun p=>ob (r.E (inG Z scope [x] caps) elt) fun g=>some ⟨wK Z.N caps,fl,p,g⟩)
  | .Tuple [.Name x _,.Name y _] _ _=>og (bI4 Z scope [x,y] caps (wK Z.N caps)&&xU iter) (ob (rL r Z true iter) fun fl=>ob (bR3 r (inG Z scope [x,y] caps) ifs) fun p=>ob (r.E (inG Z scope [x,y] caps) elt) fun g=>some ⟨wK Z.N caps,fl,kG p,kG g⟩)
  |_=>none)
 |_=>none
section
variable{r:Rc}
theorem cG9(G:fC k Z X)(h:bI4 Z scope os caps js=true):nS X scope os caps js:=by
 unfold bI4 at h
 simp only[and_eq_true]at h
 obtain⟨h1,h2,h3,h4,h5,h6,h7,h8⟩:=h
 have hk:scope.kind= .function:=by
  unfold isFn at h1
  split at h1
  ·rename_i e;exact e
  ·cases h1
 refine dA9 (N:=Z.N) (sc:=X.env.scope) G.hN rfl hk h2 h3 h4 ?_ (of_decide_eq_true h6) (of_decide_eq_true h7) h8
 rw[G.hS];exact h5
theorem bI5(G:fC k Z X)(S:nS X scope os caps js)(C:Addr)(fp:List Addr)(s:Shared)(H:Hp)(E:Value->Shared->Prop):fC k (inG Z scope os caps) (lC X (os++caps) scope C fp s H E):=by
 refine⟨rfl,?_,S.kind,S.nd,G.cm,G.fs,G.cs,G.ts,G.bs,G.rm,G.rs,G.ms,G.qs,G.mc⟩
 show(relabel scope X.env).names=cG8 scope.names Z.nm
 unfold relabel cG8 Env.kindOf
 rw[G.hk,G.hS]
 simp
theorem dG1(R:jA k r)(G:fC k Z X){p:MT}(h:bR3 r Z ifs=some p):sI X ifs p:=by
 unfold bR3 at h
 split at h
 ·cases h;exact cD7
 ·exact fQ9 (R.T G h)
 ·cases h
theorem dG2(R:jA k r)(G:fC k Z X){q:CQ}(h:bR4 r Z elt gens scope pos=some q):∃tg iter ifs os caps sp gg p g,gens= [⟨tg,iter,ifs,0⟩]/\nS X scope os caps q.js/\Tgt X scope tg os caps sp gg q.P q.G p g/\II X tg iter q.fl/\
 (∀C fp s H E,sI (lC X (os++caps) scope C fp s H E) ifs p)/\(∀C fp s H E,IE (lC X (os++caps) scope C fp s H E) elt g)/\xU iter=true:=by
 unfold bR4 at h
 obtain⟨caps,hc,h⟩:=bI h
 split at h
 ·split at h
  ·replace h:=dQ h
   obtain⟨h0,h⟩:=h
   obtain⟨fl,h1,h⟩:=bI h
   obtain⟨p,h2,h⟩:=bI h
   obtain⟨g,h3,h⟩:=bI h
   cases h
   rw[and_eq_true]at h0
   have S:=cG9 G h0.1
   exact⟨_,_,_,_,caps,_,_,p,g,rfl,S,bP5 S,bI3 R G (fun z=>by cases z) h1,fun C fp s H E=>dG1 R (bI5 G S C fp s H E) h2,fun C fp s H E=>R.E (bI5 G S C fp s H E) h3,h0.2⟩
  ·replace h:=dQ h
   obtain⟨h0,h⟩:=h
   obtain⟨fl,h1,h⟩:=bI h
   obtain⟨p,h2,h⟩:=bI h
   obtain⟨g,h3,h⟩:=bI h
   cases h
   rw[and_eq_true]at h0
   have S:=cG9 G h0.1
   exact⟨_,_,_,_,caps,_,_,p,g,rfl,S,fV6 S G.cm,bI3 R G (fun _=>⟨_,_,_,rfl⟩) h1,fun C fp s H E=>dG1 R (bI5 G S C fp s H E) h2,fun C fp s H E=>R.E (bI5 G S C fp s H E) h3,h0.2⟩
  ·cases h
 ·cases h
end
def eE(r:Rc)(Z:Ga):Expr->Option ME
 | .Constant c _ _=>match c with
  | .none=>some (kc .non)
  | .bool b=>some (kc (.bl b))
  | .int i=>some (kc (.int i))
  | .str x=>og (Nat.ble x.length sizeLine) (some (kc (.str x)))
  |_=>none
 | .Name x _=>match yI Z x with
  |some i=>some (gv i)
  |none=>og (gl Z x) (ob (Z.cs.lookup x) fun d=>some (kc d))
 | .BinOp a op b _=>ob (dF5 op) fun m=>ob (r.E Z a) fun f=>ob (r.E Z b) fun g=>some (m2 m f g)
 | .UnaryOp op a _=>match op with
  | .USub=>ob (r.E Z a) fun f=>some (m1 vA f)
  | .Not=>ob (r.E Z a) fun f=>some (xL f)
  |_=>none
 | .BoolOp op vs _=>rV r Z op vs
 | .IfExp c a b _=>ob (r.T Z c) fun t=>ob (r.E Z a) fun f=>ob (r.E Z b) fun g=>some (wA t f g)
 | .Compare a ops bs _=>cM r Z a ops bs
 | .List es _=>ob (rA r Z es) fun fa=>some (mA dM fa)
 | .Tuple es _ _=>ob (rA r Z es) fun fa=>some (mA bJ fa)
 | .Subscript a s _=>sE r Z a s
 | .ListComp elt gens scope pos=>ob (bR4 r Z elt gens scope pos) fun q=>some (kO q.js q.fl q.P q.G)
 | .Call fn args kw pos=>cG7 r Z fn args kw pos
 | .Attribute o nm _=>(match o with
  | .Name y _=>og (Z.mc.contains "WordRow") (ob (yI Z y) fun i=>if nm== "words" then some (yD i)else if nm== "place" then some (yE i)else none)
  |_=>none)
 |_=>none
def eT(r:Rc)(Z:Ga)(e:Expr):Option MT:=match e with
 | .BoolOp op vs _=>rW r Z op vs
 | .UnaryOp .Not a _=>ob (r.T Z a) fun f=>some (dC f)
 | .Compare a ops bs _=>ob (cM r Z a ops bs) fun f=>some (mB f)
 |e=>og (cE0 e) (ob (r.E Z e) fun f=>some (mT f))
def rc:Nat->Rc
 |0=>⟨fun _ _=>none,fun _ _=>none⟩
 |n+1=>⟨eE (rc n),eT (rc n)⟩
section
variable{r:Rc}
theorem gB9(R:jA k r)(G:fC k Z X)(h:eE r Z e=some f):IE X e f:=by
 unfold eE at h
 split at h
 ·split at h
  ·cases h;exact fI6
  ·cases h;exact tY
  ·cases h;exact nM
  ·obtain⟨h0,h⟩:=dQ h
   cases h
   exact dB2 h0
  ·cases h
 ·split at h
  ·rename_i hi
   cases h
   exact gJ (vI G hi)
  ·replace h:=dQ h
   obtain⟨h0,h⟩:=h
   obtain⟨d,h1,h⟩:=bI h
   cases h
   exact xT (sX G h0).1 (G.cs _ _ h1) (sX G h0).2
 ·obtain⟨m,hm,h⟩:=bI h
  obtain⟨f,h1,h⟩:=bI h
  obtain⟨g,h2,h⟩:=bI h
  cases h
  exact cX3 (gB1 hm) (R.E G h1) (R.E G h2)
 ·split at h
  ·obtain⟨f,h1,h⟩:=bI h
   cases h
   exact fM4 (R.E G h1)
  ·obtain⟨f,h1,h⟩:=bI h
   cases h
   exact fK3 (R.E G h1)
  ·cases h
 ·exact dF6 R G h
 ·obtain⟨t,h0,h⟩:=bI h
  obtain⟨f,h1,h⟩:=bI h
  obtain⟨g,h2,h⟩:=bI h
  cases h
  exact fK4 (R.T G h0) (R.E G h1) (R.E G h2)
 ·exact(dF9 R G h).1
 ·obtain⟨fa,h1,h⟩:=bI h
  cases h
  exact fJ4 (sY R G h1)
 ·obtain⟨fa,h1,h⟩:=bI h
  cases h
  exact fJ3 (sY R G h1)
 ·exact gB5 R G h
 ·obtain⟨q,h1,h⟩:=bI h
  cases h
  obtain⟨tg,iter,ifs,os,caps,sp,gg,p,g,rfl,S,T,hi,hp,hg,ho⟩:=dG2 R G h1
  exact cD2 S T G.cm hi hp hg (wE ho)
 ·exact gB8 R G h
 ·split at h
  ·replace h:=dQ h
   obtain⟨h0,h⟩:=h
   replace h:=bI h
   obtain⟨i,h1,h⟩:=h
   split at h
   ·rename_i en
    cases eq_of_beq en;cases h
    exact fZ6 (G.mc _ h0).1 (vI G h1)
   split at h
   ·rename_i en
    cases eq_of_beq en;cases h
    exact fZ7 (G.mc _ h0).1 (vI G h1)
   cases h
  ·cases h
 ·cases h
theorem gC0(R:jA k r)(G:fC k Z X){f:MT}(h:eT r Z e=some f):IT X e f:=by
 unfold eT at h
 split at h
 ·exact IW.it (cG4 R G h)
 ·obtain⟨f,h1,h⟩:=bI h
  cases h
  exact qC (R.T G h1)
 ·obtain⟨f,h1,h⟩:=bI h
  cases h
  exact(dF9 R G h1).2
 ·replace h:=dQ h
  obtain⟨h0,h⟩:=h
  obtain⟨f,h1,h⟩:=bI h
  cases h
  exact qH h0 (R.E G h1)
theorem bR5:∀n,jA k (rc n)
 |0=>⟨fun _ h=>(by cases h),fun _ h=>(by cases h)⟩
 |n+1=>⟨fun G h=>gB9 (bR5 n) G h,fun G h=>gC0 (bR5 n) G h⟩
end
structure Sok(X:Cx):Prop where
 fn:∀x,X.fn x=true
 po:PassesOwn (model X.prog X.w) X.A X.env X.xe
noncomputable def lk:Option NameKind->Bool
 |some .local=>true
 |some .cell=>true
 |_=>false
def sZ(Z:Ga)(x:Str):Option Nat:=og (lk (Z.nm.lookup x)) (atN x Z.N)
noncomputable def gC1:Expr->Bool
 | .Subscript _ _ _=>true
 | .Call _ _ _ _=>true
 |_=>false
noncomputable def swp(Z:Ga)(x:Str)(p:Pos)(scope:Scope)(cp:Pos):Bool:=(Z.nm.lookup x==some .local)&&(p.line==cp.line)&& !(scope.names.any fun(n,k)=>n==x&&(k== .local||k== .cell))
def fE(r:Rc)(Z:Ga):Expr->Option MF
 | .List es _=>ob (rA r Z es) fun fa=>some (nB fa)
 | .BinOp a .Add b _=>ob (r.E Z a) fun f=>ob (r.E Z b) fun g=>some (bB0 f g)
 |_=>none
def xA(r:Rc)(Z:Ga)(i:Nat)(rec:Expr->Option MX):List Expr->Option mL
 | []=>none
 | [e]=>og (!fF e) (ob (rec e) fun g=>some (nD g))
 |e::e2::es=>og (!fF e) (ob (xA r Z i rec (e2::es)) fun ga=>match r.E Z e with
  |some f=>some (nY f ga)
  |none=>ob (rec e) fun g=>some (bB5 i g ga))
def bR6(i:Nat):List Nat->Option Nat
 | []=>none
 |j::js=>if j==i then og (!js.contains i) (some 0)else ob (bR6 i js) fun m=>some (m+1)
def xIs(Z:Ga)(y:Str)(i:Nat):Bool:=match yI Z y with
 |some j=>j==i
 |none=>false
def xN(r:Rc)(Z:Ga)(i:Nat)(rec:Expr->Option MX)(x:Str)(args:List Expr):Option MX:=match args with
 | []=>none
 |a::es=>match Z.rs.lookup x with
  |some m=>(match a with
   | .Name y _=>og (gl Z x&&(cX es&&xIs Z y i)) (ob (rA r Z es) fun fa=>some (bT i m fa))
   |_=>none)
  |none=>og (x== "tuple" &&(blt Z "tuple" && !fF a)) (match es with
   | []=>ob (rec a) fun g=>some (xTy jM (nD g))
   |_=>none)
def xC(r:Rc)(Z:Ga)(i:Nat)(rec:Expr->Option MX)(fn:Expr)(args:List Expr)(pos:Pos):Option MX:=match fn with
 | .Name x _=>xN r Z i rec x args
 | .Attribute (.Name y _) nm ap=>og ((ap.endLine==pos.line)&&xIs Z y i) (ob (Z.ms.lookup nm) fun m=>match args with
  | []=>some (bT i m bP)
  |e::es=>og (cX (e::es)&&Nat.blt (e::es).length 30) (ob (rA r Z (e::es)) fun fa=>some (bT i m fa)))
 |_=>none
def xM(r:Rc)(rec:Ga->Nat->Expr->Option MX)(Z:Ga)(i:Nat)(e:Expr):Option MX:=match e with
 | .IfExp c a b _=>ob (r.T Z c) fun t=>ob (rec Z i a) fun g=>ob (rec Z i b) fun h=>some (xIf t g h)
 | .Tuple es _ _=>ob (xA r Z i (rec Z i) es) fun ga=>some (qM ga)
 | .Call fn args kw pos=>(match kw with
  | []=>xC r Z i (rec Z i) fn args pos
  |_=>none)
 | .ListComp elt gens scope pos=>ob (Z.cp.lookup (pos.line,pos.col)) fun caps=>(match gens with
  | [⟨.Name x _,iter,[],0⟩]=>ob (bR6 i (wK Z.N caps)) fun ii=>og (bI4 Z scope [x] caps (wK Z.N caps)&&xU iter) (ob (rL r Z false iter) fun fl=>ob (rec (inG Z scope [x] caps) (ii+1) elt) fun g=>some (yG i (wK Z.N caps) fl g))
  |_=>none)
 |_=>none
def xE(r:Rc):Nat->Ga->Nat->Expr->Option MX
 |0,_,_,_=>none
 |n+1,Z,i,e=>match r.E Z e with
  |some f=>some (xP i f)
  |none=>xM r (xE r n) Z i e
def xR(r:Rc)(Z:Ga)(k:Nat->MX->MS)(e:Expr):Option MS:=ob Z.ri fun i=>ob (xE r 20 Z i e) fun g=>some (k i g)
def cH1(r:Rc)(Z:Ga)(ow:Bool)(i:Nat)(x:Str)(p:Pos)(e:Expr):Option MS:=match e with
 | .ListComp elt gens scope pos=>ob (bR4 r Z elt gens scope pos) fun q=>match swp Z x p scope pos with
  |true=>some (nT i q.js q.fl q.P q.G)
  |false=>some (bU i (kO q.js q.fl q.P q.G))
 |e=>og (!sM e) (match ow,e with
  |true,.List [] _=>some (hV i)
  |true,e=>ob (fE r Z e) fun f=>some (lD i f)
  |_,_=>ob (r.E Z e) fun f=>some (bU i f))
def cH2(r:Rc)(Z:Ga)(i:Nat)(e:Expr):Option MS:=match e with
 | .Call (.Name y _) [a] [] _=>(match Z.mc.contains y with
  |true=>og (gl Z y&& !fF a) (ob (r.E Z a) fun f=>some (yH i f))
  |false=>xR r Z (fun ri g=>fB ri i g) e)
 |e=>og (!sM e) (xR r Z (fun ri g=>fB ri i g) e)
def sS(r:Rc)(Z:Ga)(ow:List Str)(blk:List Stmt->Option MS)(st:Stmt):Option MS:=match st with
 | .Return (some e) _=>(match Z.rr with
  |true=>xR r Z fM e
  |false=>ob (r.E Z e) fun f=>some (bG f))
 | .If c a b _=>ob (r.T Z c) fun t=>ob (blk a) fun u=>ob (blk b) fun v=>some (bH t u v)
 | .Assign [t] e _=>(match t with
  | .Name x p=>ob (sZ Z x) fun i=>(match cH1 r Z (ow.contains x) i x p e with
   |some u=>some u
   |none=>cH2 r Z i e)
  | .Tuple [.Name x _,.Name y _] _ _=>ob (sZ Z x) fun i=>ob (sZ Z y) fun j=>og (gC1 e) (ob (r.E Z e) fun f=>some (qY i j f))
  |_=>none)
 | .For t iter body [] _=>(match t with
  | .Name x _=>ob (sZ Z x) fun i=>og (xU iter) (ob (rL r Z false iter) fun fl=>ob (blk body) fun u=>some (gH i fl u))
  | .Tuple [.Name x _,.Name y _] _ _=>ob (sZ Z x) fun i=>ob (sZ Z y) fun j=>og (xU iter) (ob (rL r Z true iter) fun fl=>ob (blk body) fun u=>some (bH7 i j fl u))
  |_=>none)
 | .Expr e _=>(match e with
  | .Call (.Attribute (.Name x _) nm ap) [a] [] cp=>(match ow.contains x with
   |true=>og ((ap.endLine==cp.line)&& !fF a) (ob (yI Z x) fun i=>(match r.E Z a with
    |some f=>if nm== "append" then some (qK i f)else if nm== "extend" then some (kT i f)else none
    |none=>og (nm== "append") (xR r Z (fun ri g=>kU ri i g) a)))
   |false=>xR r Z fX e)
  |e=>og (!sM e) (match r.E Z e with
   |some f=>some (xO f)
   |none=>xR r Z fX e))
 | .AugAssign t .Add e _=>(match t with
  | .Name x _=>ob (sZ Z x) fun i=>ob (r.E Z e) fun f=>some (bI1 i f)
  | .Attribute (.Name y _) nm _=>og (Z.mc.contains "WordRow" &&nm== "place") (ob (yI Z y) fun i=>(match e with
   | .Constant (.int n) _ _=>some (bB4 i n)
   |_=>none))
  |_=>none)
 | .While c body [] _=>ob (r.T Z c) fun t=>ob (blk body) fun u=>some (nX t u)
 | .Raise _ _ _=>some fun _=>.bad
 | .Pass _=>some bM
 |_=>none
def sSs(r:Rc)(Z:Ga)(ow:List Str):Nat->List Stmt->Option MS
 |0,_=>none
 |n+1,[]=>some bM
 |n+1,[s]=>sS r Z ow (sSs r Z ow n) s
 |n+1,s::t::rest=>ob (sS r Z ow (sSs r Z ow n) s) fun a=>ob (sSs r Z ow n (t::rest)) fun b=>some (bB a b)
def bC1(r:Rc)(Z:Ga)(ow:List Str)(fz:List (Nat×Nat))(m:Nat):Nat->List Stmt->Option MS
 |_,[]=>some bM
 |_,[s]=>sS r Z ow (sSs r Z ow m) s
 |n,s::t::rest=>ob (sS r Z ow (sSs r Z ow m) s) fun a=>ob (bC1 r Z ow fz m (n+1) (t::rest)) fun b=>match fz.lookup n with
  |some i=>some (bB a (bB (kB i) b))
  |none=>some (bB a b)
section
variable{r:Rc}
theorem wL(G:fC k Z X)(h:sZ Z x=some i):X.N[i]? =some x/\Loc X.env.scope x:=by
 obtain⟨h1,h2⟩:=dQ h
 refine⟨by rw[G.hN];exact cG0 h2,?_⟩
 unfold L2.Loc
 rw[G.hS]
 revert h1
 cases Z.nm.lookup x with
 |none=>exact fun z=>by cases z
 |some q=>cases q<;>intro z<;>first|exact .inl rfl|exact .inr rfl|cases z
theorem dG3(G:fC k Z X){l:Nat}:swapsWith (.ListComp elt gens scope cp) (some (.Name x p)) l X.env=pure (swp Z x p scope cp):=by
 show pure (X.env.blockKind== .function&&X.env.kindOf x==some .local&&p.line==cp.line&& !(scope.names.any fun(n,k)=>n==x&&(k== .local||k== .cell)))=_
 unfold swp Env.blockKind Env.kindOf
 rw[G.hk,G.hS]
 rfl
theorem gC2(R:jA k r)(G:fC k Z X){f:MF}(h:fE r Z e=some f):IEF X e f/\sM e=false:=by
 unfold fE at h
 split at h
 ·obtain⟨fa,h1,h⟩:=bI h
  cases h
  exact⟨fX8 (sY R G h1),rfl⟩
 ·obtain⟨f,h1,h⟩:=bI h
  obtain⟨g,h2,h⟩:=bI h
  cases h
  exact⟨fY0 (R.E G h1) (R.E G h2),rfl⟩
 ·cases h
theorem cH3(R:jA k r)(G:fC k Z X){rec:Expr->Option MX}(B:∀{e g},rec e=some g->IX X i e g):∀{es ga},xA r Z i rec es=some ga->wI X i es ga
 | [],_,h=>by cases h
 | [e],_,h=>by
  obtain⟨h0,h⟩:=dQ h
  obtain⟨g,h1,h⟩:=bI h
  cases h
  exact dF3 (nt h0) (B h1)
 |e::e2::es,_,h=>by
  replace h:=dQ h
  obtain⟨h0,h⟩:=h
  replace h:=bI h
  obtain⟨ga,h2,h⟩:=h
  split at h
  ·rename_i h1
   cases h
   exact gA1 (nt h0) (R.E G h1) (cH3 R G B h2)
  ·obtain⟨g,h1,h⟩:=bI h
   cases h
   exact gA2 (nt h0) (B h1) (cH3 R G B h2)
theorem dG4:∀{js:List Nat} {ii:Nat},bR6 i js=some ii->js[ii]? =some i/\ ∀m,js[m]? =some i->m=ii
 | [],_,h=>by cases h
 |j::js,ii,h=>by
  unfold bR6 at h
  split at h
  ·rename_i e
   obtain⟨h0,h⟩:=dQ h
   cases h
   have e:=eq_of_beq e
   subst e
   refine⟨rfl,fun m hm=>?_⟩
   cases m with
   |zero=>rfl
   |succ m=>
    have:=List.contains_iff_mem.mpr (mem_of_getElem? (show js[m]? =some _ from hm))
    rw[nt h0]at this;cases this
  ·rename_i e
   obtain⟨m0,h1,h⟩:=bI h
   cases h
   obtain⟨a,b⟩:=dG4 h1
   refine⟨a,fun m hm=>?_⟩
   cases m with
   |zero=>cases hm;exact absurd (beq_self_eq_true i) e
   |succ m=>rw[b m hm]
theorem cH4(G:fC k Z X)(h:xIs Z y i=true):hJ X.N X.env.scope i y:=by
 unfold xIs at h
 split at h
 ·rename_i e;cases eq_of_beq h;exact vI G e
 ·cases h
theorem gC3(R:jA k r)(G:fC k Z X){rec:Expr->Option MX}(B:∀{e g},rec e=some g->IX X i e g){g:MX}(h:xN r Z i rec x args=some g):IX X i (.Call (.Name x p) args [] pos) g:=by
 unfold xN at h
 split at h
 ·cases h
 ·split at h
  ·rename_i m hm
   split at h
   ·replace h:=dQ h
    obtain⟨h0,h⟩:=h
    obtain⟨fa,h1,h⟩:=bI h
    cases h
    rw[and_eq_true,and_eq_true]at h0
    exact fZ3 (G.rs _ _ hm) G.rm (sX G h0.1).1 (sX G h0.1).2 h0.2.1 (cH4 G h0.2.2) (sY R G h1)
   ·cases h
  ·replace h:=dQ h
   obtain⟨h0,h⟩:=h
   rw[and_eq_true,and_eq_true]at h0
   cases eq_of_beq h0.1
   split at h
   ·obtain⟨g,h1,h⟩:=bI h
    cases h
    obtain⟨g1,g2,g3,g4⟩:=vJ G h0.2.1
    have hs:=nt h0.2.2
    exact gA3 cY9 g1 g2 boot_tuple (by simp[cX,hs]) g3 g4 (dF3 hs (B h1))
   ·cases h
theorem gC4(R:jA k r)(G:fC k Z X){rec:Expr->Option MX}(B:∀{e g},rec e=some g->IX X i e g){fn:Expr}{g:MX}(h:xC r Z i rec fn args pos=some g):IX X i (.Call fn args [] pos) g:=by
 unfold xC at h
 split at h
 ·exact gC3 R G B h
 ·replace h:=dQ h
  obtain⟨h0,h⟩:=h
  replace h:=bI h
  obtain⟨m,hm,h⟩:=h
  rw[and_eq_true]at h0
  split at h
  ·cases h
   exact fZ4 (G.ms _ _ hm) G.rm (cH4 G h0.2) h0.1
  ·replace h:=dQ h
   obtain⟨h2,h⟩:=h
   obtain⟨fa,h1,h⟩:=bI h
   cases h
   rw[and_eq_true]at h2
   exact fZ5 (G.ms _ _ hm) G.rm (cH4 G h0.2) h0.1 h2.2 h2.1 (sY R G h1)
 ·cases h
theorem gC5(R:jA k r){rec:Ga->Nat->Expr->Option MX}(B:∀{Z X i e g},fC k Z X->rec Z i e=some g->IX X i e g)(G:fC k Z X){g:MX}(h:xM r rec Z i e=some g):IX X i e g:=by
 unfold xM at h
 split at h
 ·obtain⟨t,h0,h⟩:=bI h
  obtain⟨f,h1,h⟩:=bI h
  obtain⟨g,h2,h⟩:=bI h
  cases h
  exact fZ2 (R.T G h0) (B G h1) (B G h2)
 ·obtain⟨ga,h1,h⟩:=bI h
  cases h
  exact ix_tup (cH3 R G (B G) h1)
 ·split at h
  ·exact gC4 R G (B G) h
  ·cases h
 ·replace h:=bI h
  obtain⟨caps,hc,h⟩:=h
  split at h
  ·obtain⟨ii,h1,h⟩:=bI h
   replace h:=dQ h
   obtain⟨h0,h⟩:=h
   obtain⟨fl,h2,h⟩:=bI h
   obtain⟨g,h3,h⟩:=bI h
   cases h
   rw[and_eq_true]at h0
   have S:=cG9 G h0.1
   obtain⟨o1,o2⟩:=dG4 h1
   exact gA6 S G.cm (bI3 R G (fun z=>by cases z) h2) o1 o2 (fun C fp s H E=>B (bI5 G S C fp s H E) h3) (wE h0.2)
  ·cases h
 ·cases h
theorem dG5(R:jA k r):∀(n:Nat) {Z:Ga} {X:Cx} {i:Nat} {e:Expr} {g:MX},fC k Z X->xE r n Z i e=some g->IX X i e g
 |0,_,_,_,_,_,_,h=>by cases h
 |n+1,_,_,_,_,_,G,h=>by
  unfold xE at h
  split at h
  ·rename_i hf
   cases h
   exact fZ1 (R.E G hf)
  ·exact gC5 R (dG5 R n) G h
theorem bC2(R:jA k r)(G:fC k Z X){c:Nat->MX->MS}(h:xR r Z c e=some u):∃i g,IX X i e g/\c i g=u:=by
 obtain⟨i,h1,h⟩:=bI h
 obtain⟨g,h2,h⟩:=bI h
 cases h
 exact⟨i,g,dG5 R 20 G h2,rfl⟩
theorem gC6(R:jA k r)(G:fC k Z X)(Za:Sok X){ow:Bool}(hi:sZ Z x=some i)(h:cH1 r Z ow i x p e=some u):IS X (.Assign [.Name x p] e pos) u:=by
 obtain⟨l1,l2⟩:=wL G hi
 have hf:X.fn x=true\/X.env.scope.names.lookup x=some .local:=.inl (Za.fn x)
 unfold cH1 at h
 split at h
 ·replace h:=bI h
  obtain⟨q,h1,h⟩:=h
  obtain⟨tg,iter,ifs,os,caps,sp,gg,p',g,rfl,S,T,hit,hp,hg,ho⟩:=dG2 R G h1
  split at h
  ·rename_i hs
   cases h
   exact fO1 S T G.cm hit hp hg G.nd l1 l2 (by rw[dG3 G,hs]) (wE ho) hf
  ·rename_i hs
   cases h
   exact fX7 G.nd l1 l2 (by rw[dG3 G,hs]) hf (cD2 S T G.cm hit hp hg (wE ho))
 ·replace h:=dQ h
  obtain⟨h0,h⟩:=h
  split at h
  ·cases h
   exact fV7 G.nd l1 l2 hf
  ·obtain⟨f,h1,h⟩:=bI h
   cases h
   obtain⟨f1,f2⟩:=gC2 R G h1
   exact fY1 G.nd l1 l2 f2 hf f1
  ·obtain⟨f,h1,h⟩:=bI h
   cases h
   exact fR3 G.nd l1 l2 (nt h0) hf (R.E G h1)
theorem gC7(R:jA k r)(G:fC k Z X)(Za:Sok X)(hi:sZ Z x=some i)(h:cH2 r Z i e=some u):IS X (.Assign [.Name x p] e pos) u:=by
 obtain⟨l1,l2⟩:=wL G hi
 have hf:X.fn x=true\/X.env.scope.names.lookup x=some .local:=.inl (Za.fn x)
 unfold cH2 at h
 split at h
 ·split at h
  ·rename_i hm
   replace h:=dQ h
   obtain⟨h0,h⟩:=h
   obtain⟨f,h1,h⟩:=bI h
   cases h
   rw[and_eq_true]at h0
   obtain⟨_,j,rfl,C⟩:=G.mc _ hm
   exact gA9 C G.rm (sX G h0.1).1 (sX G h0.1).2 (nt h0.2) G.nd l1 l2 hf (R.E G h1)
  ·obtain⟨ri,g,h1,rfl⟩:=bC2 R G h
   exact dF2 G.nd l1 l2 rfl hf h1
 ·replace h:=dQ h
  obtain⟨h0,h⟩:=h
  obtain⟨ri,g,h1,rfl⟩:=bC2 R G h
  exact dF2 G.nd l1 l2 (nt h0) hf h1
theorem bR8(R:jA k r)(G:fC k Z X)(Za:Sok X){blk:List Stmt->Option MS}(B:∀{l u},blk l=some u->kM X l u){st:Stmt}(h:sS r Z ow blk st=some u):IS X st u:=by
 unfold sS at h
 split at h
 ·split at h
  ·obtain⟨ri,g,h1,rfl⟩:=bC2 R G h
   exact fY9 h1
  ·obtain⟨f,h1,h⟩:=bI h
   cases h
   exact nQ (R.E G h1)
 ·obtain⟨t,h0,h⟩:=bI h
  obtain⟨u,h1,h⟩:=bI h
  obtain⟨v,h2,h⟩:=bI h
  cases h
  exact wB (R.T G h0) (B h1) (B h2)
 ·split at h
  ·obtain⟨i,h1,h⟩:=bI h
   split at h
   ·rename_i ha
    cases h
    exact gC6 R G Za h1 ha
   ·exact gC7 R G Za h1 h
  ·obtain⟨i,hi,h⟩:=bI h
   obtain⟨j,hj,h⟩:=bI h
   replace h:=dQ h
   obtain⟨h0,h⟩:=h
   obtain⟨f,h1,h⟩:=bI h
   cases h
   obtain⟨a1,a2⟩:=wL G hi
   obtain⟨b1,b2⟩:=wL G hj
   rename_i e _ _ _ _ _ _ _ _ _ _
   refine fS1 G.cm G.nd a1 a2 b1 b2 (.inl (Za.fn _)) (.inl (Za.fn _)) ?_ ?_ (R.E G h1)
   ·cases e<;>first| (exact noConfusion h0)|rfl
   ·cases e<;>first| (exact noConfusion h0)|rfl
  ·cases h
 ·split at h
  ·obtain⟨i,hi,h⟩:=bI h
   replace h:=dQ h
   obtain⟨h0,h⟩:=h
   obtain⟨fl,h1,h⟩:=bI h
   obtain⟨u,h2,h⟩:=bI h
   cases h
   obtain⟨a1,a2⟩:=wL G hi
   exact cZ1 G.cm Za.po (bI3 R G (fun z=>by cases z) h1) (xD G.nd a1 a2 (.inl (Za.fn _))) (B h2) (wE h0)
  ·obtain⟨i,hi,h⟩:=bI h
   obtain⟨j,hj,h⟩:=bI h
   replace h:=dQ h
   obtain⟨h0,h⟩:=h
   obtain⟨fl,h1,h⟩:=bI h
   obtain⟨u,h2,h⟩:=bI h
   cases h
   obtain⟨a1,a2⟩:=wL G hi
   obtain⟨b1,b2⟩:=wL G hj
   exact fV5 G.cm Za.po (bI3 R G (fun _=>⟨_,_,_,rfl⟩) h1) (dD7 G.cm G.nd a1 a2 b1 b2 (.inl (Za.fn _)) (.inl (Za.fn _))) (B h2) (wE h0)
  ·cases h
 ·split at h
  ·split at h
   ·replace h:=dQ h
    obtain⟨h0,h⟩:=h
    replace h:=bI h
    obtain⟨i,hi,h⟩:=h
    rw[and_eq_true]at h0
    split at h
    ·rename_i h1
     split at h
     ·rename_i en
      cases eq_of_beq en
      cases h
      exact fV8 (vI G hi) (nt h0.2) h0.1 rfl (R.E G h1)
     split at h
     ·rename_i en
      cases eq_of_beq en
      cases h
      exact fY4 (vI G hi) (nt h0.2) h0.1 (R.E G h1)
     cases h
    ·replace h:=dQ h
     obtain⟨en,h⟩:=h
     cases eq_of_beq en
     obtain⟨ri,g,h1,rfl⟩:=bC2 R G h
     exact fZ0 (vI G hi) (nt h0.2) h0.1 rfl h1
   ·obtain⟨ri,g,h1,rfl⟩:=bC2 R G h
    exact dF1 rfl h1
  ·replace h:=dQ h
   obtain⟨h0,h⟩:=h
   split at h
   ·rename_i h1
    cases h
    exact fR4 (nt h0) (R.E G h1)
   ·obtain⟨ri,g,h1,rfl⟩:=bC2 R G h
    exact dF1 (nt h0) h1
 ·split at h
  ·obtain⟨i,hi,h⟩:=bI h
   obtain⟨f,h1,h⟩:=bI h
   cases h
   obtain⟨a1,a2⟩:=wL G hi
   exact fY5 G.nd a1 a2 (.inl (Za.fn _)) (R.E G h1)
  ·replace h:=dQ h
   obtain⟨h0,h⟩:=h
   replace h:=bI h
   obtain⟨i,hi,h⟩:=h
   rw[and_eq_true]at h0
   split at h
   ·cases h
    cases eq_of_beq h0.2
    exact fZ9 (G.mc _ h0.1).1 (vI G hi)
   ·cases h
  ·cases h
 ·obtain⟨t,h0,h⟩:=bI h
  obtain⟨u,h1,h⟩:=bI h
  cases h
  exact gA0 Za.po (R.T G h0) (B h1)
 ·cases h;exact fR5
 ·cases h;exact fK6
 ·cases h
theorem bI7(R:jA k r)(G:fC k Z X)(Za:Sok X):∀(n:Nat) {l:List Stmt} {u:MS},sSs r Z ow n l=some u->kM X l u
 |0,_,_,h=>by cases h
 |n+1,[],_,h=>by cases h;exact tZ
 |n+1,[s],_,h=>mF (bR8 R G Za (bI7 R G Za n) h)
 |n+1,s::t::rest,_,h=>by
  obtain⟨a,h1,h⟩:=bI h
  obtain⟨b,h2,h⟩:=bI h
  cases h
  exact sD (bR8 R G Za (bI7 R G Za n) h1) (bI7 R G Za n h2)
theorem cH5(R:jA k r)(G:fC k Z X)(Za:Sok X){fz:List (Nat×Nat)}{m:Nat}:∀{n:Nat} {l:List Stmt} {u:MS},bC1 r Z ow fz m n l=some u->kM X l u
 |_,[],_,h=>by cases h;exact tZ
 |_,[s],_,h=>mF (bR8 R G Za (bI7 R G Za m) h)
 |n,s::t::rest,_,h=>by
  obtain⟨a,h1,h⟩:=bI h
  obtain⟨b,h2,h⟩:=bI h
  have i1:=bR8 R G Za (bI7 R G Za m) h1
  have i2:=cH5 R G Za h2
  split at h
  ·cases h;exact sD i1 (fV9 i2)
  ·cases h;exact sD i1 i2
end
structure cH6(P:Program)(w:World)(K:W.Frag)(mg:Str->Option Value)(base:Heap)(k:Nat)(fs:List (Str×(List D->bA D)))(cs:List (Str×D))(ts:List (Str×List (Str×D)))(bs:List Str)(rs ms qs:List (Str×(List D->bA D)))(mk:List Str):Prop where
 fs:∀x m,fs.lookup x=some m->sL P w K mg base k x m
 cs:∀x d,cs.lookup x=some d->vC K mg x d
 ts:∀x t,ts.lookup x=some t->wG w K mg x t
 bs:∀x,bs.contains x=true->mg x=none
 rs:∀x m,rs.lookup x=some m->cF6 P w K mg base k x m
 ms:∀x m,ms.lookup x=some m->sV P w K mg base k x m
 qs:∀x m,qs.lookup x=some m->sV P w K mg base k x m
 mc:∀x,mk.contains x=true->yC K/\ ∃j,k=j+1/\cF9 P w K mg base j x
section
variable{st:Stmt}{f:Addr}{n0:Str}{cs:List (Str×D)}{bs:List Str}{rs ms qs:List (Str×(List D->bA D))}{mk:List Str}
theorem gC8(F:fU K x qual st f fd)(S:kY N ps (cR st))(T:cH6 P w K mg base k fs cs ts bs rs ms qs mk)(cp:List ((Nat×Nat)×List Str))(ow:List Str)(fz:List (Nat×Nat))(ri:Option Nat)
 (h:bC1 (rc 40) ⟨N,(cR st).names,fs,cs,ts,bs,cp,rs,ms,qs,mk,ri,false⟩ ow fz 60 0 (kD st)=some u):cS P w K mg base dA (k+1) f fd ps (kF K (cH ps.length N.length u)):=by
 refine bP0 F S ?_
 intro cdv A outer s H E hr
 exact cH5 (k:=k) (bR5 40) ⟨rfl,rfl,S.kind,S.nd,rfl,T.fs,T.cs,T.ts,T.bs,hr,T.rs,T.ms,T.qs,T.mc⟩ ⟨fun _=>rfl,never⟩ h
theorem gC9{M:List Str}(e:M=n0::N)(F:fU K x qual st f fd)(S:kY M ps (cR st))(T:cH6 P w K mg base k fs cs ts bs rs ms qs mk)(cp:List ((Nat×Nat)×List Str))(ow:List Str)(fz:List (Nat×Nat))
 (h:bC1 (rc 40) ⟨M,(cR st).names,fs,cs,ts,bs,cp,rs,ms,qs,mk,some 0,true⟩ ow fz 60 0 (kD st)=some u):cS P w K mg base dA (k+1) f fd ps (sU K (jU ps.length M.length u)):=by
 subst e
 refine gA4 F S ?_
 intro pd cdv A outer s H E hr
 exact cH5 (k:=k) (bR5 40) ⟨rfl,rfl,S.kind,S.nd,rfl,T.fs,T.cs,T.ts,T.bs,hr,T.rs,T.ms,T.qs,T.mc⟩ ⟨fun _=>rfl,never⟩ h
end
noncomputable abbrev kv{α:Type}(x:Str)(a:α):Str×α:=(x,a)
theorem dG6{P:Str->α->Prop}:∀x m,([]:List (Str×α)).lookup x=some m->P x m:=fun _ _ h=>by cases h
theorem pA{P:Str->α->Prop}{a:α}{l:List (Str×α)}(h:P y a)(t:∀x m,l.lookup x=some m->P x m):∀x m,((y,a)::l).lookup x=some m->P x m:=fun x m e=>by
 rw[lookup_cons]at e
 split at e
 ·rename_i q;cases e;rw[eq_of_beq q];exact h
 ·exact t x m e
end
section
section
variable{K':W.Frag}{f:Addr}{r:Option Value}
abbrev vK(K K':W.Frag):Prop:=∀b o,K.lookup b=some o->o.data≠ .fields #[]->K'.lookup b=some o
theorem gD0(M:vK K K')(h:nsIn K a x=some r):nsIn K' a x=some r:=by
 unfold nsIn at h ⊢
 split at h
 ·rename_i e;rw[M _ _ e fun z=>by cases z];exact h
 ·cases h
theorem dG7(M:vK K K'){c:Value}(h:W.ownIn K x c=some r):W.ownIn K' x c=some r:=by
 cases c with
 |ref a=>
  unfold W.ownIn at h ⊢
  dsimp only at h ⊢
  split at h
  ·rename_i e;rw[M _ _ e fun z=>by cases z];exact gD0 M h
  ·cases h
 |_=>exact h
theorem dG8(M:vK K K'):∀{l:List Value},W.alongIn K x l=some r->W.alongIn K' x l=some r
 | [],h=>h
 |c::l,h=>by
  unfold W.alongIn at h ⊢
  split at h
  ·rename_i e;rw[dG7 M e];exact h
  ·rename_i e;rw[dG7 M e];exact dG8 M h
  ·cases h
theorem yJ(M:vK K K'){t:Value}(h:findIn K t x=some r):findIn K' t x=some r:=by
 cases t with
 |ref a=>
  unfold findIn at h ⊢
  dsimp only at h ⊢
  split at h
  ·rename_i e;rw[M _ _ e fun z=>by cases z];exact dG8 M h
  ·cases h
 |_=>exact h
theorem mD.up(M:vK K K')(c:mD K C):mD K' C:=by
 have e:∃oc od cd sl,K.lookup C=some ⟨oc,od,.cls cd,sl⟩:=by
  have:=c.hd
  unfold W.hasDictIn W.clsIn at this
  split at this
  ·rename_i e;exact⟨_,_,_,_,e⟩
  ·cases this
 obtain⟨oc,od,cd,sl,e⟩:=e
 have e':=M _ _ e fun z=>by cases z
 have h1:=c.hd
 have h2:=c.po
 have h3:=c.pg
 unfold W.hasDictIn W.clsIn at h1
 unfold W.plainOver W.clsIn at h2
 unfold W.plainGet at h3
 rw[e]at h1 h2
 rw[and_eq_true,beq_iff_eq,beq_iff_eq]at h3
 refine⟨?_,?_,?_,yJ M c.sa⟩
 ·unfold W.plainGet;rw[and_eq_true,beq_iff_eq,beq_iff_eq];exact⟨yJ M h3.1,yJ M h3.2⟩
 ·unfold W.hasDictIn W.clsIn;rw[e'];exact h1
 ·unfold W.plainOver W.clsIn;rw[e'];exact h2
theorem dG9(M:vK K K')(h1:W.isFn K (.ref f)=true)(h2:keepIn K (.ref f)=true){d:FuncData}(e:K.lookup f=some ⟨oc,od,.func d,sl⟩):W.isFn K' (.ref f)=true/\keepIn K' (.ref f)=true:=by
 have e':=M _ _ e fun z=>by cases z
 unfold W.isFn W.typeIn at h1 ⊢
 unfold keepIn at h2 ⊢
 dsimp only at h1 ⊢
 rw[e]at h1
 rw[e']
 exact⟨h1,rfl⟩
theorem Mk.up(M:vK K K')(m:W.makesIn K C=true)(i:findIn K (.ref C) "__init__" =some (some (.ref f)))(h1:W.isFn K (.ref f)=true)(h2:keepIn K (.ref f)=true){d:FuncData}(e:K.lookup f=some ⟨oc,od,.func d,sl⟩)
 {oe:Option Addr} {cd:ClassData} (hc:K.lookup C=some ⟨.type "type",oe,.cls cd,sm⟩) (hk:keepIn K (.ref C)=true):Mk K' C f:=by
 have hc':=M _ _ hc fun z=>by cases z
 have t:W.typeIn K (.ref C)=some (.type "type"):=by unfold W.typeIn;dsimp only;rw[hc];rfl
 have t':W.typeIn K' (.ref C)=some (.type "type"):=by unfold W.typeIn;dsimp only;rw[hc'];rfl
 have hs:∀y,W.specialIn K' (.ref C) y=W.specialIn K (.ref C) y:=fun y=>by unfold W.specialIn;rw[t,t'];rfl
 have hi:∀y,W.instIn K' (.ref C) y=W.instIn K (.ref C) y:=fun y=>by unfold W.instIn;rw[t,t'];rfl
 refine⟨?_,yJ M i,(dG9 M h1 h2 e).1,?_⟩
 ·unfold W.makesIn at m ⊢
  rw[hc]at m
  rw[hc']
  simp only[hs,hi]
  exact m
 ·unfold keepIn at hk ⊢
  dsimp only at hk ⊢
  rw[hc]at hk
  rw[hc']
  simp only[hs]
  exact hk
end
variable [dF] [Pd]
theorem gD1{f:Addr}(h:∀ds,m ds= .bad):cS P w K mg base dA n f fd ps (sU K m):=by
 have z:∀vs H Q E,¬ sU K m vs H Q E:=fun vs H Q E h'=>by obtain⟨F,a,dx,l,ws,k,ds,vs',_,_,_,_,_,q⟩:=h';rw[h]at q;exact q
 exact⟨fun vs H Q E q=>absurd q (z vs H Q E),fun A outer s H args us vs Q E hr e0 hb r q=>absurd q (z _ _ _ _)⟩
end
end R
end
section
open PySem PySem.Spec PyProof.Rows L2 R
local macro_rules| `($i:num ^^^ $k:num)=> `(m2 bS (gv $i) (kc (.int $k)))
local macro_rules| `(.($k:num))=> `(kc (.int $k))
local macro_rules| `(.($k:str))=> `(kc (.str $k))
local macro_rules| `(@$k:num)=> `(gv $k)
local macro_rules (kind:= «term{_}»)| `({$x:term,*})=>do
 let r:Lean.Term <-x.getElems.foldrM (fun x (r:Lean.Term)=> `(aC $x $r)) (<- `(bP))
 return r
local macro_rules| `(#[$xs,*])=>do
 if xs.getElems.isEmpty then Lean.Macro.throwUnsupported
 let ys <-xs.getElems.mapM fun(x:Lean.Term)=>match x with
  | `(())=> `(.no)
  | `(.row $_ $_ $_)=>pure x
  |_=> `(.val $x)
 `([$ys,*])
namespace Jm
variable{O rest:cU}{xs ws ds bs ns es:List D}{k n i j kk:Nat}{K:W.Frag}{mg:Str->Option Value}{w z s q:Str}{m:List D->bA D}{f:ME}{x e y:D}{zs ss l form:List Str}{α β:Type}{fd:FuncData}{sl:Array (Option Value)}{P:Program}{base h:Heap}{v a:Int}{od:Option Addr}{cl:List (Addr×HO)}{N:Int->Int->Str}{fI:Addr}{p:D->Bool}{u A:MS}{oc:Value}{Ps:List Addr}{js:List Nat}{ft:List (Str×List Str)}{fl:ML}{pw:Str->D->List Str}
section
variable [dF] [Pd]
noncomputable def bZ(i:Nat):Stmt:=PySem.Challenge.pw_joinmill_k06_whole_read_back.main.body.getD i (.Pass ⟨0,0,0,0⟩)
noncomputable def gD2(s:Stmt):List Stmt:=match s with
 | .ClassDef _ _ _ b _ _ _ _ _ _ _=>b
 |_=>[]
def mth(i j:Nat):Stmt:=(gD2 (bZ i)).getD j (.Pass ⟨0,0,0,0⟩)
abbrev s4:Stmt:=bZ 23
noncomputable abbrev N4:List Str:=["thing","most","holds","item"]
abbrev s5:Stmt:=bZ 24
noncomputable abbrev N5:List Str:=["thing","most"]
abbrev s9:Stmt:=bZ 28
noncomputable abbrev N9:List Str:=["thing","around"]
abbrev rB:Stmt:=bZ 30
noncomputable abbrev N11:List Str:=["thing","around"]
abbrev s16:Stmt:=bZ 35
noncomputable abbrev N16:List Str:=["thing"]
abbrev s18:Stmt:=bZ 37
noncomputable abbrev N18:List Str:=["thing"]
abbrev s63:Stmt:=mth 40 0
noncomputable def vL:D:=.int 999999
noncomputable def tB:List Str:=["face","unit","take","from","word","deed","with","own","do","done","let","be","if","then","else","while","give","tell","get","new","hand","to","await","call","and","end"]
def bS0:D:=.tup (tB.map .str)
noncomputable def gS:D:=.int 12
noncomputable def bJ0:D:=.int 6
noncomputable def bC3:D:=.int 8
noncomputable def cH9:D:=.int 6
noncomputable def bS1:D:=.int 4
noncomputable def bC4:D:=.int 4
noncomputable def cI0:D:=.int 8
noncomputable def bJ1:D:=.int 6
noncomputable def rC:List Str:=["WORD","DEED"]
def vM:D:=.tup (rC.map .str)
noncomputable def bS2:List Str:=["WORD","DEED","EXPRESSION","PARTS","BLOCK"]
def tE:D:=.tup (bS2.map .str)
noncomputable def bC5:List Str:=["+","-","*","<","="]
def yK:D:=.tup (bC5.map .str)
noncomputable def jB:List (Str×D):=[("let",.tup [.str "WORD",.str "be",.str "EXPRESSION"]),("if",.tup [.str "EXPRESSION",.str "then",.str "BLOCK",.str "else",.str "BLOCK"]),("while",.tup [.str "EXPRESSION",.str "do",.str "BLOCK"]),("do",.tup [.str "DEED",.str "PARTS"]),("give",.tup [.str "EXPRESSION"]),("tell",.tup [.str "EXPRESSION"]),("get",.tup [.str "WORD"]),("new",.tup [.str "WORD",.str "deed",.str "DEED"]),("hand",.tup [.str "WORD",.str "to",.str "EXPRESSION"]),("await",.tup [.str "WORD",.str "and",.str "WORD"])]
inductive Fn where
 |q0|q1|q2|q3|q4|q5|q6|q7|q8|q9|q10|q11|q12|q13|q14|q15|q16|q17|q18|q19|read|q21|q22|q23|q24|q25|q26|q27|q28|q29|q30|q31|q32|q33|q34|q35|q36|q37|q38|q39|q40|q41|q42|q43|q44|q45|q46|q47|q48|q49|q50|q51|q52|q53|q54|q55|q56|q57|q58|q59|q60|q61|law|q63|q64|skip|q66
noncomputable abbrev CT:=Fn->List D->bA D
def cI1(C C':CT):MS:=bG (gR (m1 (fY "int") @0) (xL (m1 (fY "bool") @0)))
def cI2(C C':CT):MS:=bG (gR (mA (C .q0) {@0}) (dS cP cP (m1 vA (kc vL)) @0 (kc vL)))
def cI3(C C':CT):MS:=bB (bH (gO (dC (mT (m1 (fY "str") @0))) (dC (mB (dS cP cP .(1) (mA cD {@0}) (kc bC3))))) (bG (kc (.bl false))) (bM)) (bG (gR (mA wD {(kO [] (dP @0) (fun _=>.ok true) (dS cP cP .("a") @0 .("z")))}) (m2 (fQ true) @0 (kc bS0))))
def cI4(C C':CT):MS:=bG (gR (m1 (fY "tuple") @0) (m2 cI (mA cD {@0}) @1))
def yL(C:CT)(v:V)(cl:List (Addr×HO))(m:List D->bA D):MS:=bB (bH (gO (dC (mT (m1 (fY "tuple") @0))) (mB (m2 dJ (mA cD {@0}) @1))) (bG (kc (.bl false))) (bM)) (bB (gH 3 (dP @0) (bH (dC (mT (wF 2 v cl m {@3}))) (bG (kc (.bl false))) (bM))) (bG (kc (.bl true))))
def bS3(C C':CT):MS:=bG (mA (hU (C' .q2)) {@0,@1})
def cI5(C C':CT):MS:=bG (m2 cI (m1 bA9 @0) (mA cD {@0}))
def cI6(C C':CT):MS:=bB (bH (lN (mT (m1 (fY "tuple") @0)) (lN (mB (m2 dJ (mA cD {@0}) .(0))) (mT (m1 (fY "str") (0^^^0))))) (bG (0^^^0)) (bM)) (bG .(""))
def wM(C C':CT):MS:=bB (bU 2 (mA (C .q7) {@0})) (bB (bH (mB (m2 dJ @1 (kc gS))) (bG (kc (.bl false))) (bM)) (bB (bH (mB (m2 cI @2 .("number"))) (bG (gR (mA (C .q3) {@0,.(2)}) (mA (C .q1) {0^^^1}))) (bM)) (bB (bH (mB (m2 cI @2 .("name"))) (bG (gR (mA (C .q3) {@0,.(2)}) (mA (C .q2) {0^^^1}))) (bM)) (bB (bH (mB (m2 cI @2 .("call"))) (bG (gR (mA (C .q3) {@0,.(3)}) (gR (mA (C .q2) {0^^^1}) (mA (C .q9) {0^^^2,(m2 bN @1 .(1))})))) (bM)) (bB (bH (gO (mB (m2 (fQ true) @2 (kc yK))) (dC (mT (mA (C .q3) {@0,.(3)})))) (bG (kc (.bl false))) (bM)) (bG (gR (mA (C .q8) {0^^^1,(m2 bN @1 .(1))}) (mA (C .q8) {0^^^2,(m2 bN @1 .(1))}))))))))
def bS4(C C':CT):MS:=bG (xW @0 (kc bC4) 1 fun i=>hU (kQ i (mA (C' .q8) {@0,@1})))
def cI7(C C':CT):MS:=bG (mA (C .q11) {@0,.(0)})
def bS5(C C':CT):MS:=bB (bH (dC (mT (m1 (fY "tuple") @0))) (bG (kc (.bl false))) (bM)) (bG (xW @0 (mA cD {@0}) 1 fun i=>hU (kQ i (mA (C' .q12) {@0,@1}))))
def bC6(C C':CT):MS:=bB (bU 2 (mA (C .q7) {@0})) (bB (bH (gO (mB (m2 dJ @1 (kc gS))) (mB (m1 (sP jB true) @2))) (bG (kc (.bl false))) (bM)) (bB (bU 3 (mA (C .q13) {@2})) (bB (bH (mB (m2 jS (mA cD {@0}) (m2 bN (mA cD {@3}) .(1)))) (bG (kc (.bl false))) (bM)) (bB (bH7 4 5 (bA7 @3 (pP @0 (pO .(1)) (pN))) (bH (dC (mT (mA (C .q14) {@4,@5,(m2 bN @1 .(1))}))) (bG (kc (.bl false))) (bM))) (bG (kc (.bl true)))))))
def dH2(C C':CT):MS:=bG (kO [] (dP (m1 (kS jB) @0)) (mB (m2 (fQ false) @0 (kc tE))) @0)
def bS6(C C':CT):MS:=bB (bH (mB (m2 (fQ false) @0 (kc vM))) (bG (mA (C .q2) {@1})) (bM)) (bB (bH (mB (m2 cI @0 .("EXPRESSION"))) (bG (mA (C .q8) {@1,@2})) (bM)) (bB (bH (mB (m2 cI @0 .("PARTS"))) (bG (mA (C .q9) {@1,@2})) (bM)) (bG (mA (C .q11) {@1,@2}))))
def bS7(C C':CT):MS:=bB (bH (gO (dC (mT (mA (C .q3) {@0,.(4)}))) (dC (mT (mA (C .q2) {0^^^0})))) (bG (kc (.bl false))) (bM)) (bB (bH (gO (dC (mT (mA (C .q5) {0^^^1,(kc bS1)}))) (dC (mT (mA (C .q5) {0^^^2,(kc cH9)})))) (bG (kc (.bl false))) (bM)) (bG (gR (mA (C .q6) {(m2 bN (0^^^1) (0^^^2))}) (mA (C .q10) {0^^^3}))))
def bJ2(C C':CT):MS:=bB (bH (gO (dC (mT (mA (C .q3) {@0,.(3)}))) (dC (mT (mA (C .q2) {0^^^0})))) (bG (kc (.bl false))) (bM)) (bB (bH (gO (dC (mT (mA (C .q5) {0^^^1,(kc bJ1)}))) (dC (mT (mA (hU (C' .q17)) {0^^^2,(kc bJ0)})))) (bG (kc (.bl false))) (bM)) (bG (mA (C .q6) {(m2 bN (mA xS {0^^^1}) (kO [] (dP (0^^^2)) (fun _=>.ok true) (0^^^0)))})))
def cI8(C C':CT):MS:=bG (gR (mA (C .q3) {@0,.(2)}) (gR (mA (C .q2) {0^^^0}) (gR (mA (C .q0) {0^^^1}) (dS cP cP .(0) (0^^^1) (kc bS1)))))
def bJ3(C C':CT):MS:=bB (bH (gO (dC (mT (mA (C .q3) {@0,.(5)}))) (dC (mT (mA (C .q2) {0^^^0})))) (bG (kc (.bl false))) (bM)) (bB (bH (gO (dC (mT (mA (hU (C' .q19)) {0^^^1,(kc cI0)}))) (dC (mT (mA (C .q5) {0^^^2,(kc bJ1)})))) (bG (kc (.bl false))) (bM)) (bG (gR (mA (hU (C' .q15)) {0^^^3,(kc bJ0)}) (mA (C .q10) {0^^^4}))))
def cI9(C C':CT):MS:=bG (gR (mA (C .q3) {@0,.(2)}) (gR (mA (C .q2) {0^^^0}) (mA (C .q2) {0^^^1})))
def cJ0(C C':CT):MS:=bB (yH 1 @0) (bB (fB 1 2 (xIf (mB (m2 cI (hX 1 (C .q63)) .("face"))) (bT 1 (C .q21) (bP)) (bT 1 (C .q22) (bP)))) (bB (bH (dC (mT (hX 1 (C .q66)))) (fun _=>.bad) (bM)) (bB (bH (lN (dC (mT (mA (C .q16) {@2}))) (dC (mT (mA (C .q18) {@2})))) (fun _=>.bad) (bM)) (bG @2))))
def bS8(C C':CT):MS:=bB (fX 0 (bT 0 (C .skip) {.("face")})) (bB (fB 0 1 (bT 0 (C .q33) (bP))) (bB (fB 0 2 (bT 0 (C .q24) (bP))) (bB (hV 3) (bB (nX (mB (m2 cI (hX 0 (C .q63)) .("deed"))) (bB (fX 0 (bT 0 (C .skip) {.("deed")})) (bB (fB 0 4 (bT 0 (C .q33) (bP))) (kU 0 3 (qM (nY @4 (nD (bT 0 (C .q34) (bP))))))))) (bB (kB 3) (bB (fX 0 (bT 0 (C .skip) {.("done")})) (fM 0 (xP 0 (mA bJ {@1,@2,(mA jM {@3})})))))))))
def bS9(C C':CT):MS:=bB (fX 0 (bT 0 (C .skip) {.("unit")})) (bB (fB 0 1 (bT 0 (C .q33) (bP))) (bB (hV 2) (bB (nX (mB (m2 cI (hX 0 (C .q63)) .("take"))) (kU 0 2 (bT 0 (C .q23) (bP)))) (bB (kB 2) (bB (fB 0 3 (bT 0 (C .q24) (bP))) (bB (hV 4) (bB (nX (mB (m2 cI (hX 0 (C .q63)) .("deed"))) (kU 0 4 (bT 0 (C .q25) (bP)))) (bB (kB 4) (bB (fX 0 (bT 0 (C .skip) {.("do")})) (bB (fB 0 5 (bT 0 (C .q27) {.(0)})) (bB (fX 0 (bT 0 (C .skip) {.("done")})) (fM 0 (xP 0 (mA bJ {@1,(mA jM {@2}),@3,(mA jM {@4}),@5}))))))))))))))
def bT0(C C':CT):MS:=bB (fX 0 (bT 0 (C .skip) {.("take")})) (bB (fB 0 1 (bT 0 (C .q33) (bP))) (bB (fX 0 (bT 0 (C .skip) {.("from")})) (fM 0 (qM (bB5 0 (bT 0 (C .q33) (bP)) (nD (xP 0 @1)))))))
def bT1(C C':CT):MS:=bB (hV 1) (bB (nX (mB (m2 cI (hX 0 (C .q63)) .("word"))) (bB (fX 0 (bT 0 (C .skip) {.("word")})) (kU 0 1 (bT 0 (C .q33) (bP))))) (bB (kB 1) (fM 0 (xP 0 (mA jM {@1})))))
def bT2(C C':CT):MS:=bB (fX 0 (bT 0 (C .skip) {.("deed")})) (bB (fB 0 1 (bT 0 (C .q33) (bP))) (bB (fX 0 (bT 0 (C .skip) {.("with")})) (bB (fB 0 2 (bT 0 (C .q26) {.("own")})) (bB (fB 0 3 (bT 0 (C .q26) {.("do")})) (fM 0 (qM (nY @1 (nY @2 (nY @3 (nD (bT 0 (C .q27) {.(0)})))))))))))
def bT3(C C':CT):MS:=bB (hV 2) (bB (nX (mB (m2 jS (hX 0 (C .q63)) @1)) (kU 0 2 (bT 0 (C .q33) (bP)))) (bB (kB 2) (bB (fX 0 (bT 0 (C .skip) {@1})) (fM 0 (xP 0 (mA jM {@2}))))))
def bT4(C C':CT):MS:=bB (hV 2) (bB (nX (mB (m2 jS (hX 0 (C .q63)) .("end"))) (kU 0 2 (bT 0 (C .q28) {@1}))) (bB (kB 2) (bB (fX 0 (bT 0 (C .skip) {.("end")})) (fM 0 (xP 0 (mA jM {@2}))))))
def bT5(C C':CT):MS:=bB (xO (mA (C .q31) {@1})) (bB (fB 0 2 (bT 0 (C .q64) (bP))) (bB (bH (mB (m1 (sP jB true) @2)) (fun _=>.bad) (bM)) (bB (lD 3 (nB {@2})) (bB (gH 4 (dP (m1 (kS jB) @2)) (bH (mB (m2 (fQ false) @4 (kc tE))) (kU 0 3 (bT 0 (C .q29) {@4,(m2 bN @1 .(1))})) (fX 0 (bT 0 (C .skip) {@4})))) (bB (kB 3) (fM 0 (xP 0 (mA jM {@3}))))))))
def wN(C C':CT):MS:=bB (bH (mB (m2 (fQ false) @1 (kc vM))) (fM 0 (bT 0 (C .q33) (bP))) (bM)) (bB (bH (mB (m2 cI @1 .("EXPRESSION"))) (fM 0 (bT 0 (C .q30) {@2})) (bM)) (bB (bH (mB (m2 cI @1 .("PARTS"))) (fM 0 (bT 0 (C .q32) {@2})) (bM)) (fM 0 (bT 0 (C .q27) {@2}))))
def bT6(C C':CT):MS:=bB (xO (mA (C .q31) {@1})) (bB (bU 2 (hX 0 (C .q63))) (bB (bH (mT (mA (C .q2) {@2})) (fM 0 (qM (nY .("name") (nD (bT 0 (C .q33) (bP)))))) (bM)) (bB (bH (mB (m2 cI @2 .("call"))) (bB (fX 0 (bT 0 (C .skip) {.("call")})) (bB (fB 0 3 (bT 0 (C .q33) (bP))) (fM 0 (qM (nY .("call") (nY @3 (nD (bT 0 (C .q32) {(m2 bN @1 .(1))})))))))) (bM)) (bB (bH (mB (m2 (fQ false) @2 (kc yK))) (bB (fX 0 (bT 0 (C .skip) {@2})) (bB (fB 0 4 (bT 0 (C .q30) {(m2 bN @1 .(1))})) (bB (fB 0 5 (bT 0 (C .q30) {(m2 bN @1 .(1))})) (fM 0 (xP 0 (mA bJ {@2,@4,@5})))))) (bM)) (fM 0 (qM (nY .("number") (nD (bT 0 (C .q34) (bP))))))))))
def cJ1(C C':CT):MS:=bH (mB (m2 dJ @0 (kc gS))) (fun _=>.bad) (bM)
def bJ4(C C':CT):MS:=bB (fB 0 2 (bT 0 (C .q34) (bP))) (bB (bH (dC (mB (dS cP cP .(0) @2 (kc bC4)))) (fun _=>.bad) (bM)) (fM 0 (xTy jM (nD (yG 0 [0,1] (jG @2) (bT 1 (C .q30) {@2}))))))
def cJ2(C C':CT):MS:=bB (fB 0 1 (bT 0 (C .q64) (bP))) (bB (bH (dC (mT (mA (C .q2) {@1}))) (fun _=>.bad) (bM)) (fM 0 (xP 0 @1)))
def cJ3(C C':CT):MS:=bB (fB 0 1 (bT 0 (C .q64) (bP))) (bB (bU 2 (wA (mT (pQ sK @1 {.("-")})) (pP @1 (pO .(1)) (pN)) @1)) (bB (bH (gO (dC (mT (mA (C .q35) {@2}))) (lN (mT (pQ sK @2 {.("0")})) (mB (m2 jS @1 .("0"))))) (fun _=>.bad) (bM)) (fM 0 (xP 0 (mA pS {@1})))))
def cJ4(C C':CT):MS:=bB (bH (dC (mB (dS cP cP .(1) (mA cD {@0}) (mA cD {(mA mI {(kc vL)})})))) (bG (kc (.bl false))) (bM)) (bG (mA wD {(kO [] (dP @0) (fun _=>.ok true) (dS cP cP .("0") @0 .("9")))}))
def bT7(C C':CT):MS:=bB (bH (mT (mA (C .q16) {@0})) (bG (pQ vG .(" ") {(mA (C .q37) {@0})})) (bM)) (bB (bH (mT (mA (C .q18) {@0})) (bG (pQ vG .(" ") {(mA (C .q38) {@0})})) (bM)) (fun _=>.bad))
def bT8(C C':CT):MS:=bB (lD 1 (bB0 (mA dM {.("face"),0^^^0}) (mA (C .q39) {0^^^1}))) (bB (gH 2 (dP (0^^^2)) (kT 1 (mA dM {.("deed"),2^^^0,(mA mI {2^^^1})}))) (bB (kB 1) (bG (m2 bN @1 (mA dM {.("done")})))))
def bT9(C C':CT):MS:=bB (lD 1 (nB {.("unit"),0^^^0})) (bB (gH 2 (dP (0^^^1)) (kT 1 (mA dM {.("take"),2^^^1,.("from"),2^^^0}))) (bB (kT 1 (mA (C .q39) {0^^^2})) (bB (gH 3 (dP (0^^^3)) (kT 1 (mA (C .q40) {@3}))) (bB (kB 1) (bG (m2 bN (m2 bN (m2 bN @1 (mA dM {.("do")})) (mA (C .q41) {0^^^4})) (mA dM {.("done")})))))))
def cJ5(C C':CT):MS:=bB (hV 1) (bB (gH 2 (dP @0) (kT 1 (mA dM {.("word"),@2}))) (bB (kB 1) (bG @1)))
def bU0(C C':CT):MS:=bG (m2 bN (m2 bN (m2 bN (m2 bN (m2 bN (mA dM {.("deed"),0^^^0,.("with")}) (mA xS {0^^^1})) (mA dM {.("own")})) (mA xS {0^^^2})) (mA dM {.("do")})) (mA (C .q41) {0^^^3}))
def bJ5(C C':CT):MS:=bB (hV 1) (bB (gH 2 (dP @0) (kT 1 (mA (C .q42) {@2}))) (bB (kB 1) (bG (m2 bN @1 (mA dM {.("end")})))))
def bC7(C C':CT):MS:=bB (lD 1 (nB {0^^^0})) (bB (bU 2 .(1)) (bB (gH 3 (dP (m1 (kS jB) (0^^^0))) (bH (mB (m2 (fQ false) @3 (kc tE))) (bB (kT 1 (mA (C .q43) {@3,(m2 bS @0 @2)})) (bI1 2 .(1))) (qK 1 @3))) (bB (kB 1) (bG @1))))
def bC8(C C':CT):MS:=bB (bH (mB (m2 (fQ false) @0 (kc vM))) (bG (mA dM {@1})) (bM)) (bB (bH (mB (m2 cI @0 .("EXPRESSION"))) (bG (mA (C .q44) {@1})) (bM)) (bB (bH (mB (m2 cI @0 .("PARTS"))) (bG (mA (C .q45) {@1})) (bM)) (bG (mA (C .q41) {@1}))))
def bU1(C C':CT):MS:=bB (bU 1 (0^^^0)) (bB (bH (mB (m2 cI @1 .("number"))) (bG (mA dM {(mA mI {0^^^1})})) (bM)) (bB (bH (mB (m2 cI @1 .("name"))) (bG (mA dM {0^^^1})) (bM)) (bB (bH (mB (m2 cI @1 .("call"))) (bG (m2 bN (mA dM {.("call"),0^^^1}) (mA (C .q45) {0^^^2}))) (bM)) (bG (m2 bN (m2 bN (mA dM {@1}) (mA (C .q44) {0^^^1})) (mA (C .q44) {0^^^2}))))))
def bJ6(C C':CT):MS:=bB (lD 1 (nB {(mA mI {(mA cD {@0})})})) (bB (gH 2 (dP @0) (kT 1 (mA (C .q44) {@2}))) (bB (kB 1) (bG @1)))
def cJ6(C C':CT):MS:=bB (bH (mB (m2 nR @1 (mA cD {@0}))) (bG (m2 bS @0 @1)) (bM)) (bG .(0))
def cJ7(C C':CT):MS:=bB (bU 2 (m2 bY (m2 jZ (m2 bN (m2 bN (mA (C .q46) {@0,@1}) (m2 jZ .(7919) @1)) .(1)) .(48271)) .(2147483647))) (bG (m2 bY (m2 bN (m2 bN (m2 jZ @2 @2) (m2 jZ .(7) @2)) @1) .(2147483629)))
def cJ8(C C':CT):MS:=bB (bU 2 (m2 bY (m2 jZ (m2 bN (m2 bN @0 (m2 jZ .(104729) @1)) .(17)) .(69621)) .(2147483647))) (bG (m2 bY (m2 bN (m2 bN (m2 jZ @2 @2) (m2 jZ .(3) @2)) @1) .(2147483629)))
def cJ9(C C':CT):MS:=bB (bU 1 .("abcdefghijklmnopqrstuvwxyz")) (bB (bU 2 .("")) (bB (gH 3 (jG (m2 bY @0 .(7))) (bU 2 (m2 bN @2 (m2 bS @1 (m2 bY (m2 dR @0 (m2 bN .(7) (m2 jZ .(26) @3))) .(26)))))) (bG @2)))
def cK0(C C':CT):MS:=bB (bU 2 .("abcdefghijklmnopqrstuvwxyz")) (bG (m2 bN (m2 bN (mA (C .q49) {@0}) (m2 bS @2 (m2 bY @1 .(26)))) (m2 jZ .("z") (mA pS {(m2 dJ (m2 bY @0 .(7)) .(0))}))))
def bJ7(C C':CT):MS:=bB (bH (mB (m2 cI (m2 bY @0 .(9)) .(4))) (bG (m2 mG (m2 bY (m2 dR @0 .(9)) .(1999999)) .(999999))) (bM)) (bG (m2 mG (m2 bY (m2 dR @0 .(9)) .(14)) .(4)))
def bU2(C C':CT):MS:=bB (bU 4 (m2 bY @0 .(9))) (bB (bH (gO (mB (m2 cI @3 .(0))) (mB (m2 nR @4 .(2)))) (bG (mA bJ {.("number"),(mA (C .q51) {(m2 dR @0 .(9))})})) (bM)) (bB (bH (mB (m2 nR @4 .(5))) (bG (mA bJ {.("name"),(m2 bS @1 (m2 bY (m2 dR @0 .(9)) (mA cD {@1})))})) (bM)) (bB (bH (lN (mB (m2 cI @4 .(5))) (mB (m2 dJ (mA cD {@2}) .(0)))) (bB (qY 5 6 (m2 bS @2 (m2 bY (m2 dR @0 .(9)) (mA cD {@2})))) (bB (nT 7 [1,2,0,3] (jG @6) (fun _=>.ok true) (mA (C .q52) {(mA (C .q48) {@3,@0}),@1,@2,(m2 mG @4 .(1))})) (bG (mA bJ {.("call"),@5,(mA jM {@7})})))) (bM)) (bB (bU 8 (mA (C .q52) {(mA (C .q48) {@0,.(5)}),@1,@2,(m2 mG @3 .(1))})) (bB (bU 9 (mA (C .q52) {(mA (C .q48) {@0,.(6)}),@1,@2,(m2 mG @3 .(1))})) (bG (mA bJ {(m2 bS .("+-*<=") (m2 bY (m2 dR @0 .(9)) .(5))),@8,@9})))))))
def bU3(C C':CT):MS:=bB (bU 4 (m2 bS @1 (m2 bY (m2 dR @0 .(16)) (mA cD {@1})))) (bB (bU 5 (mA (C .q52) {(mA (C .q48) {@0,.(1)}),@1,@2,.(2)})) (bB (bU 6 (m2 bY @0 .(16))) (bB (bH (mB (m2 nR @6 .(4))) (bG (mA bJ {.("let"),@4,@5})) (bM)) (bB (bH (mB (m2 nR @6 .(6))) (bG (mA bJ {.("tell"),@5})) (bM)) (bB (bH (mB (m2 cI @6 .(6))) (bG (mA bJ {.("get"),@4})) (bM)) (bB (bH (mB (m2 cI @6 .(7))) (bG (mA bJ {.("give"),@5})) (bM)) (bB (bH (lN (mB (m2 cI @6 .(8))) (mB (m2 dJ (mA cD {@3}) .(0)))) (bG (mA bJ {.("new"),@4,(m2 bS @3 (m2 bY (m2 dR @0 .(256)) (mA cD {@3})))})) (bM)) (bB (bH (mB (m2 cI @6 .(9))) (bG (mA bJ {.("hand"),@4,@5})) (bM)) (bB (bH (mB (m2 cI @6 .(10))) (bG (mA bJ {.("hand"),@4,(mA bJ {.("number"),(m2 bN .(1) (m2 bY (m2 dR @0 .(256)) .(4)))})})) (bM)) (bB (bH (mB (m2 cI @6 .(11))) (bG (mA bJ {.("await"),@4,(m2 bS @1 (m2 bY (m2 dR @0 .(256)) (mA cD {@1})))})) (bM)) (bB (bH (mB (m2 dJ (mA cD {@2}) .(0))) (bB (qY 7 8 (m2 bS @2 (m2 bY (m2 dR @0 .(256)) (mA cD {@2})))) (bB (nT 9 [1,2,0] (jG @8) (fun _=>.ok true) (mA (C .q52) {(mA (C .q48) {@3,(m2 bN @0 .(2))}),@1,@2,.(1)})) (bG (mA bJ {.("do"),@7,(mA jM {@9})})))) (bM)) (bG (mA bJ {.("tell"),@5})))))))))))))
def bU4(C C':CT):MS:=bB (bU 5 (m2 bY @0 .(12))) (bB (bH (gO (mB (m2 cI @4 .(0))) (mB (m2 nR @5 .(9)))) (bG (mA (C .q53) {(m2 dR @0 .(12)),@1,@2,@3})) (bM)) (bB (bU 6 (mA (C .q52) {(mA (C .q48) {@0,.(1)}),@1,@2,.(2)})) (bB (bU 7 (mA (C .q55) {(mA (C .q48) {@0,.(2)}),(m2 bY (m2 dR @0 .(12)) .(4)),@1,@2,@3,(m2 mG @4 .(1))})) (bB (bH (mB (m2 cI @5 .(9))) (bG (mA bJ {.("while"),@6,@7})) (bM)) (bB (bH (mB (m2 cI @5 .(10))) (bB (bU 8 (m2 bS @1 (m2 bY (m2 dR @0 .(48)) (mA cD {@1})))) (bB (bU 6 (mA bJ {.("<"),(mA bJ {.("name"),@8}),(mA bJ {.("number"),(m2 bY (m2 dR @0 .(960)) .(9))})})) (bG (mA bJ {.("while"),@6,(m2 bN @7 (mA bJ {(mA bJ {.("let"),@8,(mA bJ {.("+"),(mA bJ {.("name"),@8}),(mA bJ {.("number"),.(1)})})})}))})))) (bM)) (bG (mA bJ {.("if"),@6,@7,(mA (C .q55) {(mA (C .q48) {@0,.(3)}),(m2 bY (m2 dR @0 .(48)) .(3)),@1,@2,@3,(m2 mG @4 .(1))})})))))))
def bU5(C C':CT):MS:=bB (nT 6 [2,3,4,5,0] (jG @1) (fun _=>.ok true) (mA (C .q54) {(mA (C .q48) {@5,@0}),@1,@2,@3,@4})) (bG (mA jM {@6}))
def bU6(C C':CT):MS:=bB (hV 2) (bB (gH 3 (jG (m2 bY @0 .(7))) (qK 2 (mA bJ {(mA (C .q50) {@1,(m2 bN .(10) @3)}),(m2 bY (mA (C .q48) {@0,@3}) .(5))}))) (bB (kB 2) (bG @2)))
def bU7(C C':CT):MS:=bB (nT 5 [2] (jG (1^^^1)) (fun _=>.ok true) (mA (C .q50) {@1,(m2 bN .(16) @0)})) (bB (bU 6 (m2 bS (mA dM {(mA bJ {.(0),.(1),.(2),.(3),.(4),.(5)}),(mA bJ {.(20),.(21),.(22),.(23),.(24),.(6)})}) (mA pS {(m2 dJ (m2 bY (m2 dR @0 .(32)) .(3)) .(0))}))) (bB (nT 7 [2] (dP (pP @6 (pN) (pO (m2 bN (m2 bY @0 .(4)) (m2 jZ .(3) (mA pS {(m2 cI (m2 bY (m2 dR @0 .(96)) .(5)) .(1))})))))) (fun _=>.ok true) (mA (C .q50) {@1,@0})) (bB (nT 8 [] (dP @4) (kG (mB (m2 cI @1 .(0)))) (kG @0)) (bB (bU 9 (mA (C .q55) {(m2 dR @0 .(4)),(m2 bN .(1) (m2 bY (m2 dR @0 .(4)) .(4))),(m2 bN (m2 bN @3 @5) @7),@4,@8,.(2)})) (bG (mA bJ {1^^^0,(mA jM {@5}),(mA jM {@7}),@9}))))))
def bU8(C C':CT):MS:=bB (bU 1 (mA (C .q47) {@0,.(0)})) (bB (bU 2 (kO [1] (jG (m2 bN .(1) (m2 bY (mA (C .q47) {@0,.(1)}) .(6)))) (fun _=>.ok true) (mA (C .q50) {@1,@0}))) (bB (bU 3 (mA (C .q56) {(mA (C .q47) {@0,.(2)}),@1})) (bB (nT 4 [] (dP @3) (kG (mB (m2 cI @1 .(0)))) (kG @0)) (bB (nT 5 [1,2,3,0] (bH8 @3) (kG (fun _=>.ok true)) (kG (mA (C .q57) {(mA (C .q47) {@5,(m2 bN .(3) @0)}),@1,@2,@3,@4}))) (bB (hV 6) (bB (gH 7 (jG (mA bH9 {.(30),(mA bI0 {.(2),(m2 mG (mA cD {@0}) .(8))})})) (qK 6 (mA (C .q54) {(mA (C .q47) {@0,(m2 bN .(8) @7)}),@2,@3,@4,.(2)}))) (bB (kB 6) (bG (mA bJ {(mA (C .q50) {@1,.(25)}),(mA bJ (bP)),(mA jM {@2}),(mA jM {@5}),(mA jM {@6})})))))))))
def bU9(C C':CT):MS:=bB (bU 1 (mA (C .q47) {@0,.(1)})) (bB (nT 2 [1] (jG (m2 bY (mA (C .q47) {@0,.(2)}) .(7))) (fun _=>.ok true) (mA (C .q50) {@1,@0})) (bB (nT 3 [1,0] (jG (m2 bY (mA (C .q47) {@0,.(3)}) .(7))) (fun _=>.ok true) (mA bJ {(mA (C .q50) {@1,(m2 bN .(10) @0)}),(m2 bY (mA (C .q47) {@2,(m2 bN .(4) @0)}) .(5))})) (bG (mA bJ {(mA (C .q50) {@1,.(25)}),(mA jM {@2}),(mA jM {@3})}))))
def bV0(C C':CT):MS:=bB (bH (mB (m2 cI (m2 bY (mA (C .q47) {@0,.(5)}) .(3)) .(1))) (bG (mA (C .q59) {@0})) (bM)) (bB (bU 1 (mA (C .q58) {@0})) (bB (bU 2 (mA (C .q47) {@0,.(6)})) (bB (nT 3 [2] (jG (m2 bY @2 .(9))) (fun _=>.ok true) (mA bJ {(mA (C .q50) {(mA (C .q48) {@1,@0}),@0}),(mA (C .q50) {(mA (C .q48) {@1,(m2 bN @0 .(9))}),@0})})) (bG (mA bJ {1^^^0,(mA jM {@3}),1^^^2,1^^^3,1^^^4})))))
def bJ8(C C':CT):MS:=bB (bH (mT (m1 (fY "tuple") @0)) (bB (bH (gO (dC (mT (m1 (fY "tuple") @1))) (mB (m2 jS (mA cD {@0}) (mA cD {@1})))) (bG (kc (.bl false))) (bM)) (bG (m2 cI (kO [0,1] (jG (mA cD {@0})) (dC (mT (mA (C .q61) {(m2 bS @1 @0),(m2 bS @2 @0)}))) @0) (mA dM (bP))))) (bM)) (bB (bH (mT (m1 (fY "str") @0)) (bG (gR (m1 (fY "str") @1) (m2 cI @0 @1))) (bM)) (bG (gR (m1 (fY "int") @1) (gR (xL (m1 (fY "bool") @1)) (m2 cI @0 @1)))))
def cK1(C C':CT):MS:=bB (bU 1 (mA (C .q60) {@0})) (bB (bH (lN (mB (m2 cI (mA cD {@1}) .(5))) (mB (m2 cI (m2 bY (mA (C .q47) {@0,.(7)}) .(3)) .(1)))) (bB (bU 2 (mA bJ {(mA bJ {.("tell"),(mA bJ {.("+"),(mA bJ {.("number"),.(1)}),(mA bJ {.("number"),(m1 vA .(2))})})}),(mA bJ {.("give"),(mA bJ {.("name"),.("a")})})})) (bB (gH 3 (jG (m2 bY (m2 dR (mA (C .q47) {@0,.(7)}) .(3)) .(11))) (bU 2 (m2 bS (mA dM {(mA bJ {(mA bJ {.("while"),(mA bJ {.("number"),@3}),@2})}),(mA bJ {(mA bJ {.("if"),(mA bJ {.("number"),@3}),(mA bJ (bP)),@2})})}) (m2 bY @3 .(2))))) (bU 1 (m2 bN (pP @1 (pN) (pO .(4))) (mA bJ {(m2 bN (1^^^4) @2)}))))) (bM)) (bB (bU 4 (mA (C .q36) {@1})) (bG (gR (mA (C .q61) {@1,(mA (C .read) {@4})}) (mA (C .q61) {(mA (C .read) {@4}),@1})))))
def cK2(C C':CT):MS:=fM 0 (xP 0 (wA (mB (m2 nR (yE 0) (mA cD {(yD 0)}))) (m2 bS (yD 0) (yE 0)) .("")))
def cK3(C C':CT):MS:=bB (bU 1 (hX 0 (C .q63))) (bB (bB4 0 1) (fM 0 (xP 0 @1)))
def cK4(C C':CT):MS:=bB (fB 0 2 (bT 0 (C .q64) (bP))) (bH (mB (m2 jS @2 @1)) (fun _=>.bad) (bM))
def cK5(C C':CT):MS:=fM 0 (xP 0 (m2 cI (yE 0) (mA cD {(yD 0)})))
def Bd(C C':CT):CT
 | .q0=>cH 1 1 (cI1 C C')
 | .q1=>cH 1 1 (cI2 C C')
 | .q2=>cH 1 1 (cI3 C C')
 | .q3=>cH 2 2 (cI4 C C')
 | .q5=>cH 2 2 (bS3 C C')
 | .q6=>cH 1 1 (cI5 C C')
 | .q7=>cH 1 1 (cI6 C C')
 | .q8=>cH 2 3 (wM C C')
 | .q9=>cH 2 2 (bS4 C C')
 | .q10=>cH 1 1 (cI7 C C')
 | .q11=>cH 2 2 (bS5 C C')
 | .q12=>cH 2 6 (bC6 C C')
 | .q13=>cH 1 1 (dH2 C C')
 | .q14=>cH 3 3 (bS6 C C')
 | .q15=>cH 1 1 (bS7 C C')
 | .q16=>cH 1 1 (bJ2 C C')
 | .q17=>cH 1 1 (cI8 C C')
 | .q18=>cH 1 1 (bJ3 C C')
 | .q19=>cH 1 1 (cI9 C C')
 | .read=>cH 1 3 (cJ0 C C')
 | .q21=>jU 1 5 (bS8 C C')
 | .q22=>jU 1 6 (bS9 C C')
 | .q23=>jU 1 2 (bT0 C C')
 | .q24=>jU 1 2 (bT1 C C')
 | .q25=>jU 1 4 (bT2 C C')
 | .q26=>jU 2 3 (bT3 C C')
 | .q27=>jU 2 3 (bT4 C C')
 | .q28=>jU 2 5 (bT5 C C')
 | .q29=>jU 3 3 (wN C C')
 | .q30=>jU 2 6 (bT6 C C')
 | .q31=>cH 1 1 (cJ1 C C')
 | .q32=>jU 2 3 (bJ4 C C')
 | .q33=>jU 1 2 (cJ2 C C')
 | .q34=>jU 1 3 (cJ3 C C')
 | .q35=>cH 1 1 (cJ4 C C')
 | .q36=>cH 1 1 (bT7 C C')
 | .q37=>cH 1 3 (bT8 C C')
 | .q38=>cH 1 4 (bT9 C C')
 | .q39=>cH 1 3 (cJ5 C C')
 | .q40=>cH 1 1 (bU0 C C')
 | .q41=>cH 1 3 (bJ5 C C')
 | .q42=>cH 1 4 (bC7 C C')
 | .q43=>cH 2 2 (bC8 C C')
 | .q44=>cH 1 2 (bU1 C C')
 | .q45=>cH 1 3 (bJ6 C C')
 | .q46=>cH 2 2 (cJ6 C C')
 | .q47=>cH 2 3 (cJ7 C C')
 | .q48=>cH 2 3 (cJ8 C C')
 | .q49=>cH 1 4 (cJ9 C C')
 | .q50=>cH 2 3 (cK0 C C')
 | .q51=>cH 1 1 (bJ7 C C')
 | .q52=>cH 4 10 (bU2 C C')
 | .q53=>cH 4 10 (bU3 C C')
 | .q54=>cH 5 9 (bU4 C C')
 | .q55=>cH 6 7 (bU5 C C')
 | .q56=>cH 2 4 (bU6 C C')
 | .q57=>cH 5 10 (bU7 C C')
 | .q58=>cH 1 8 (bU8 C C')
 | .q59=>cH 1 4 (bU9 C C')
 | .q60=>cH 1 4 (bV0 C C')
 | .q61=>cH 2 2 (bJ8 C C')
 | .law=>cH 1 5 (cK1 C C')
 | .q63=>jU 1 1 (cK2 C C')
 | .q64=>jU 1 2 (cK3 C C')
 | .skip=>jU 2 3 (cK4 C C')
 | .q66=>jU 1 1 (cK5 C C')
 |_=>fun _=>.bad
def Ph:Nat->CT
 |n+3=>Bd (Ph (n+2)) (Ph n)
 |_=>fun _ _=>.bad
end
variable{t:Fn->Addr×FuncData}{C C':CT}
section
variable [dF] [Pd]
def tb:Fn->Str×Stmt×Nat×List Str
 | .q0=>("is_whole",bZ 19,1,["thing"])
 | .q1=>("is_number",bZ 20,1,["thing"])
 | .q2=>("is_name",bZ 21,1,["thing"])
 | .q3=>("is_row",bZ 22,2,["thing","length"])
 | .q4=>("is_row_of",bZ 23,3,["thing","most","holds","item"])
 | .q5=>("is_row_of_names",bZ 24,2,["thing","most"])
 | .q6=>("all_unlike",bZ 25,1,["names"])
 | .q7=>("first_word",bZ 26,1,["thing"])
 | .q8=>("is_expression_within",bZ 27,2,["thing","around","word"])
 | .q9=>("are_parts_within",bZ 28,2,["thing","around"])
 | .q10=>("is_block",bZ 29,1,["thing"])
 | .q11=>("is_block_within",bZ 30,2,["thing","around"])
 | .q12=>("is_statement_within",bZ 31,2,["thing","around","word","sorts","sort","part"])
 | .q13=>("part_sorts_of",bZ 32,1,["word"])
 | .q14=>("is_part_within",bZ 33,3,["sort","part","around"])
 | .q15=>("is_deed",bZ 34,1,["thing"])
 | .q16=>("is_face",bZ 35,1,["thing"])
 | .q17=>("is_told_deed",bZ 36,1,["thing"])
 | .q18=>("is_unit",bZ 37,1,["thing"])
 | .q19=>("is_take",bZ 38,1,["thing"])
 | .read=>("read",bZ 41,1,["text","row","thing"])
 | .q21=>("read_face",bZ 42,1,["row","name","words","deeds","told"])
 | .q22=>("read_unit",bZ 43,1,["row","name","takes","words","deeds","block"])
 | .q23=>("read_take",bZ 44,1,["row","name"])
 | .q24=>("read_declared",bZ 45,1,["row","names"])
 | .q25=>("read_deed",bZ 46,1,["row","name","params","owns"])
 | .q26=>("read_names_until",bZ 47,2,["row","kept_word","names"])
 | .q27=>("read_block",bZ 48,2,["row","around","statements"])
 | .q28=>("read_statement",bZ 49,2,["row","around","word","parts","step"])
 | .q29=>("read_part",bZ 50,3,["row","sort","around"])
 | .q30=>("read_expression",bZ 51,2,["row","around","word","name","left","right"])
 | .q31=>("refuse_too_deep",bZ 52,1,["around"])
 | .q32=>("read_parts",bZ 53,2,["row","around","count"])
 | .q33=>("read_name",bZ 54,1,["row","word"])
 | .q34=>("read_number",bZ 55,1,["row","word","figures"])
 | .q35=>("are_figures",bZ 56,1,["text"])
 | .q36=>("written",bZ 58,1,["thing"])
 | .q37=>("face_words",bZ 59,1,["face","words","told"])
 | .q38=>("unit_words",bZ 60,1,["unit","words","take","deed"])
 | .q39=>("declared_words",bZ 61,1,["names","words","name"])
 | .q40=>("deed_words",bZ 62,1,["deed"])
 | .q41=>("block_words",bZ 63,1,["block","words","statement"])
 | .q42=>("statement_words",bZ 64,1,["statement","words","place","step"])
 | .q43=>("part_words",bZ 65,2,["sort","part"])
 | .q44=>("expression_words",bZ 66,1,["expression","word"])
 | .q45=>("counted_words",bZ 67,1,["parts","words","part"])
 | .q46=>("_law_cell_at",bZ 69,2,["_law_script","_law_k"])
 | .q47=>("_law_mixed",bZ 70,2,["_law_script","_law_k","_law_drawn_here"])
 | .q48=>("_law_drawn",bZ 71,2,["_law_number","_law_k","_law_drawn_here"])
 | .q49=>("_law_stem",bZ 72,1,["_law_number","_law_letters","_law_found","_law_k"])
 | .q50=>("_law_name",bZ 73,2,["_law_number","_law_k","_law_letters"])
 | .q51=>("_law_value",bZ 74,1,["_law_number"])
 | .q52=>("_law_expression",bZ 75,4,["_law_number","_law_names","_law_deeds_here","_law_deep","_law_kind","_law_name_here","_law_count","_law_parts","_law_left","_law_right"])
 | .q53=>("_law_short",bZ 76,4,["_law_number","_law_names","_law_deeds_here","_law_plain","_law_name_here","_law_drawn_here","_law_kind","_law_called","_law_count","_law_parts"])
 | .q54=>("_law_statement",bZ 77,5,["_law_number","_law_names","_law_deeds_here","_law_plain","_law_deep","_law_kind","_law_asked","_law_one","_law_name_here"])
 | .q55=>("_law_block",bZ 78,6,["_law_number","_law_size","_law_names","_law_deeds_here","_law_plain","_law_deep","_law_parts"])
 | .q56=>("_law_deeds",bZ 79,2,["_law_number","_law_stem_here","_law_found","_law_k"])
 | .q57=>("_law_deed",bZ 80,5,["_law_number","_law_head","_law_stem_here","_law_words","_law_deeds_here","_law_params","_law_some","_law_owns","_law_plain","_law_block_here"])
 | .q58=>("_law_unit",bZ 81,1,["_law_script","_law_stem_here","_law_words","_law_deeds_here","_law_plain","_law_made","_law_block_here","_law_k"])
 | .q59=>("_law_face",bZ 82,1,["_law_script","_law_stem_here","_law_words","_law_deeds_here"])
 | .q60=>("_law_thing",bZ 83,1,["_law_script","_law_thing_here","_law_number","_law_takes"])
 | .q61=>("_law_alike",bZ 84,2,["_law_one","_law_other"])
 | .law=>("law",bZ 85,1,["_law_script","_law_thing_here","_law_block_here","_law_k","_law_text"])
 | .q63=>("ahead",mth 40 1,1,["self"])
 | .q64=>("taken",mth 40 2,1,["self","word"])
 | .skip=>("skip",mth 40 3,2,["self","kept_word","word"])
 | .q66=>("is_over",mth 40 4,1,["self"])
abbrev nm(f:Fn):Str:=(tb f).1
abbrev st(f:Fn):Stmt:=(tb f).2.1
abbrev nl(f:Fn):List Str:=(tb f).2.2.2
abbrev pl(f:Fn):List Str:=(nl f).take (tb f).2.2.1
noncomputable def wO:List Fn:=[.q0,.q1,.q2,.q3,.q5,.q6,.q7,.q8,.q9,.q10,.q11,.q12,.q13,.q14,.q15,.q16,.q17,.q18,.q19,.read,.q31,.q35,.q36,.q37,.q38,.q39,.q40,.q41,.q42,.q43,.q44,.q45,.q46,.q47,.q48,.q49,.q50,.q51,.q52,.q53,.q54,.q55,.q56,.q57,.q58,.q59,.q60,.q61,.law]
noncomputable def rnL:List Fn:=[.q21,.q22,.q23,.q24,.q25,.q26,.q27,.q28,.q29,.q30,.q32,.q33,.q34]
noncomputable def mnL:List Fn:=[.q64,.skip]
noncomputable def qnL:List Fn:=[.q63,.q66]
abbrev tL(C:CT)(l:List Fn):List (Str×(List D->bA D)):=l.map fun f=>(nm f,C f)
def csL:List (Str×D):=[kv "GREATEST_NUMBER" vL,kv "KEPT_WORDS" bS0,kv "MOST_AROUND" gS,kv "MOST_DEEDS" bJ0,kv "MOST_LETTERS" bC3,kv "MOST_OWNS" cH9,kv "MOST_PARAMS" bS1,kv "MOST_PARTS" bC4,kv "MOST_TAKES" cI0,kv "MOST_WORDS" bJ1,kv "NAME_SORTS" vM,kv "PART_SORTS" tE,kv "SIGNS" yK]
def tsL:List (Str×List (Str×D)):=[kv "STATEMENT_FORMS" jB]
noncomputable def bsL:List Str:=["all","bool","enumerate","int","isinstance","len","list","max","min","range","set","str","tuple","zip"]
noncomputable def cpL:List ((Nat×Nat)×List Str):=[((30,15),[]),((81,11),[]),((101,39),[]),((239,17),["row","around"]),((254,15),[]),((351,21),["_law_names","_law_deeds_here","_law_number","_law_deep"]),((378,21),["_law_names","_law_deeds_here","_law_number"]),((395,17),["_law_names","_law_deeds_here","_law_plain","_law_deep","_law_number"]),((403,18),["_law_stem_here"]),((405,16),["_law_stem_here"]),((406,17),[]),((411,17),["_law_stem_here"]),((413,17),[]),((414,16),["_law_stem_here","_law_words","_law_deeds_here","_law_script"]),((421,17),["_law_stem_here"]),((422,22),["_law_stem_here","_law_script"]),((429,17),["_law_number"]),((435,15),["_law_one","_law_other"])]
noncomputable def mkL:List Str:=["WordRow"]
theorem bK1{n:α->Str}{v:α->β}:∀{l:List α} {x:Str} {m:β},(l.map fun a=>(n a,v a)).lookup x=some m->∃a,a∈l/\n a=x/\v a=m
 | [],_,_,h=>by cases h
 |a::l,x,m,h=>by
  rw[map_cons,lookup_cons]at h
  split at h
  ·rename_i q;exact⟨a,mem_cons_self,(eq_of_beq q).symm,Option.some.inj h⟩
  ·obtain⟨b,h1,h2⟩:=bK1 h
   exact⟨b,mem_cons_of_mem _ h1,h2⟩
structure mM(P:Program)(w:World)(K:W.Frag)(mg:Str->Option Value)(base:Heap)(n:Nat)(C:CT):Prop where
 k:cH6 P w K mg base n (tL C wO) csL tsL bsL (tL C rnL) (tL C mnL) (tL C qnL) mkL
 h4:∃f fd,fU K "is_row_of" "is_row_of" s4 f fd/\mg "is_row_of" =some (.ref f)/\jK K fd ["thing","most","holds"] []
variable{w:World}
theorem mM.c(T:mM P w K mg base n C)(f:Fn)(h:(tL C wO).lookup (nm f)=some (C f):=by kernel_rfl):sL P w K mg base n (nm f) (C f):=T.k.fs _ _ h
structure vN(P:Program)(w:World)(K:W.Frag)(mg:Str->Option Value)(base:Heap)(n:Nat)(C:CT):Prop where
 k:∀x m,(tL C wO).lookup x=some m->sL P w K mg base n x m
theorem vN.c(T:vN P w K mg base n C)(f:Fn)(h:(tL C wO).lookup (nm f)=some (C f):=by kernel_rfl):sL P w K mg base n (nm f) (C f):=T.k _ _ h
theorem mM.b(T:mM P w K mg base n C)(x:Str)(h:bsL.contains x=true:=by kernel_rfl):mg x=none:=T.k.bs x h
theorem mM.g(T:mM P w K mg base n C)(x:Str){d:D}(h:csL.lookup x=some d:=by kernel_rfl):vC K mg x d:=T.k.cs x d h
theorem rk(f:Fn){a:Addr}(F:fU K (nm f) q (st f) a fd)(T:mM P w K mg base n C)(ow:List Str:=[])(fz:List (Nat×Nat):=[])(ri:Option Nat:=none)(sc:kY (nl f) (pl f) (cR (st f)):=by exact⟨rfl,rfl,rfl,by decide+kernel,rfl,by decide+kernel,by decide+kernel⟩)
 (h:bC1 (rc 40) ⟨nl f,(cR (st f)).names,tL C wO,csL,tsL,bsL,cpL,tL C rnL,tL C mnL,tL C qnL,mkL,ri,false⟩ ow fz 60 0 (kD (st f))=some u:=by kernel_rfl):cS P w K mg base dA (n+1) a fd (pl f) (kF K (cH (pl f).length (nl f).length u)):=gC8 F sc T.k cpL ow fz ri h
theorem lR(f:Fn){a:Addr}(F:fU K (nm f) q (st f) a fd)(T:mM P w K mg base n C)(ow:List Str:=[])(fz:List (Nat×Nat):=[])(e:nl f=(nl f).headD "" ::(nl f).tail:=by rfl)(sc:kY (nl f) (pl f) (cR (st f)):=by exact⟨rfl,rfl,rfl,by decide+kernel,rfl,by decide+kernel,by decide+kernel⟩)
 (h:bC1 (rc 40) ⟨nl f,(cR (st f)).names,tL C wO,csL,tsL,bsL,cpL,tL C rnL,tL C mnL,tL C qnL,mkL,some 0,true⟩ ow fz 60 0 (kD (st f))=some u:=by kernel_rfl):cS P w K mg base dA (n+1) a fd (pl f) (sU K (jU (pl f).length (nl f).length u)):=gC9 e F sc T.k cpL ow fz h
end
section
variable [dF] [Pd]
theorem gD3(v:V)(cl:List (Addr×HO))(m:List D->bA D)(t o x:D):bH (dC (mT (wF 2 v cl m {@3}))) (bG (kc (.bl false))) (bM) [.val t,.val o,.is v cl,.val x]=
 ((m [x]).bind lA).bind fun b=>if b=true then .ok (.nx [.val t,.val o,.is v cl,.val x])else .ok (.rt (.bl false)):=by
 have e:wF 2 v cl m {@3} [.val t,.val o,.is v cl,.val x]=m [x]:=by
  have hc:([.val t,.val o,.is v cl,.val x]:cU)[2]? =some (.is v cl):=rfl
  unfold wF
  rw[if_pos hc];rfl
 have et:mT (wF 2 v cl m {@3}) [.val t,.val o,.is v cl,.val x]=(m [x]).bind lA:=by unfold mT;rw[e]
 unfold bH dC
 rw[et]
 cases(m [x]).bind lA with
 |ok b=>cases b<;>rfl
 |ex _=>rfl
 |bad=>rfl
theorem dH3(v:V)(cl:List (Addr×HO))(m:List D->bA D)(t o:D):∀(xs:List D) (sl:Slot),
 ((gG 3 (bH (dC (mT (wF 2 v cl m {@3}))) (bG (kc (.bl false))) (bM)) xs [.val t,.val o,.is v cl,sl]).bind (nO (bG (kc (.bl true))))).bind bL=xX m xs
 | [],sl=>rfl
 |x::r,sl=>by
  rw[gG]
  show(bA.bind (bA.bind (bA.bind (bH _ _ _ [.val t,.val o,.is v cl,.val x]) _) _) _)=_
  rw[gD3,xX]
  cases m [x]with
  |ex _=>rfl
  |bad=>rfl
  |ok d=>
   show(bA.bind (bA.bind (bA.bind (bA.bind (lA d) _) _) _) _)=bA.bind (lA d) _
   cases lA d with
   |ex _=>rfl
   |bad=>rfl
   |ok b=>
    cases b with
    |false=>rfl
    |true=>exact dH3 v cl m t o r (.val x)
theorem gD4(C:CT)(v:V)(cl:List (Addr×HO))(m:List D->bA D)(ds:List D):hU m ds= .bad\/bA5 3 4 v cl (yL C v cl m) ds=hU m ds:=by
 unfold hU
 split
 ·rename_i xs most
  right
  show((yL C v cl m) [.val (.tup xs),.val (.int most),.is v cl,.no]).bind bL=_
  unfold yL
  by_cases h:most<(xs.length:Int)
  ·rw[if_pos h]
   simp[bB,bH,gO,dC,mT,mB,m1,m2,gv,kc,fY,qF,bA.bind,lA,mA,aC,bP,cD,dJ,gN,h,bG,nO,bL]
  ·rw[if_neg h]
   have s1:bH (gO (dC (mT (m1 (fY "tuple") @0))) (mB (m2 dJ (mA cD {@0}) @1))) (bG (kc (.bl false))) (bM) [.val (.tup xs),.val (.int most),.is v cl,.no]= .ok (.nx [.val (.tup xs),.val (.int most),.is v cl,.no]):=by
    simp[bH,gO,dC,mT,mB,m1,m2,gv,kc,fY,qF,bA.bind,lA,mA,aC,bP,cD,dJ,gN,h,bM]
   show bA.bind (bA.bind (bH _ _ _ [.val (.tup xs),.val (.int most),.is v cl,.no]) _) _=_
   rw[s1]
   exact dH3 v cl m (.tup xs) (.int most) xs .no
 ·exact .inl rfl
 ·rename_i d i hd
  right
  show((yL C v cl m) [.val d,.val (.int i),.is v cl,.no]).bind bL=_
  unfold yL
  cases d with
  |tup xs=>exact absurd rfl (hd xs)
  |_=>simp[bB,bH,gO,dC,mT,mB,m1,m2,gv,kc,fY,qF,bA.bind,lA,bG,nO,bL]
 ·exact .inl rfl
theorem bK2{v:V}{vs:List V}{H:Hp}{Q:VK}{E:XK}(h:qJ K v cl (hU m) vs H Q E):qJ K v cl (bA5 3 4 v cl (yL C v cl m)) vs H Q E:=by
 obtain⟨F,ds,vs0,h1,h2,h3,h4,h5,h6⟩:=h
 refine⟨F,ds,vs0,h1,h2,h3,h4,h5,?_⟩
 rcases gD4 C v cl m ds with z|z
 ·rw[z]at h6;exact h6.elim
 ·rw[z];exact h6
section
variable{w:World}{f:Addr}
theorem sc4:kY N4 ["thing","most","holds"] (cR s4):=⟨rfl,rfl,rfl,by decide+kernel,rfl,by decide+kernel,by decide+kernel⟩
theorem cK7:hJ N4 (cR s4) 0 "thing" :=⟨rfl,Or.inl bO,bO,bO⟩
theorem gD5:hJ N4 (cR s4) 1 "most" :=⟨rfl,Or.inl bO,bO,bO⟩
theorem gD6:hJ N4 (cR s4) 2 "holds" :=⟨rfl,Or.inl bO,bO,bO⟩
theorem gD7:hJ N4 (cR s4) 3 "item" :=⟨rfl,Or.inl bO,bO,bO⟩
theorem ok4{n0:Nat}{C0:CT}{v:V}(F:fU K "is_row_of" "is_row_of" s4 f fd)(TT:mM P w K mg base n0 C0)(CB:qI P w K mg base n v cl m):cS P w K mg base dA (n+1) f fd ["thing","most","holds"] (qJ K v cl (bA5 3 4 v cl (yL C v cl m))):=by
 refine fS6 F sc4 (by decide) ?_
 intro cdv A outer s H E hr
 refine sD ?_ ?_
 ·refine wB ?_ ?_ ?_
  ·refine IW.it ?_
   refine zX ?_ ?_
   ·refine qC ?_
    refine qH ?_ ?_
    ·rfl
    ·refine cD9 (cD4 _) ?_ bO (TT.b "isinstance") bO (TT.b "tuple") boot_tuple ?_ ?_ ?_
     ·rfl
     ·kernel_rfl
     ·kernel_rfl
     ·exact gJ cK7
   ·refine zW ?_
    refine cX4 cX8 ?_ ?_ (fB5 _)
    ·refine cD8 cC7 bG8 bO (TT.b "len") boot_len ?_ ?_ ?_ ?_
     ·rfl
     ·kernel_rfl
     ·kernel_rfl
     ·refine jR ?_ ?_ ?_
      ·rfl
      ·exact gJ cK7
      ·exact kZ
    ·exact gJ gD5
  ·refine mF ?_
   refine nQ ?_
   exact tY
  ·exact tZ
 ·refine sD ?_ ?_
  ·refine cZ1 rfl never ?_ (xD (i:=3) sc4.nd ?_ (Or.inl ?_) (.inl rfl)) ?_ (wE ?_)
   ·refine bP3 ?_
    exact gJ cK7
   ·rfl
   ·kernel_rfl
   ·refine mF ?_
    refine wB ?_ ?_ ?_
    ·refine qC ?_
     refine qH ?_ ?_
     ·rfl
     ·refine fS4 CB hr gD6 ?_ ?_
      ·rfl
      ·refine jR ?_ ?_ ?_
       ·rfl
       ·exact gJ gD7
       ·exact kZ
    ·refine mF ?_
     refine nQ ?_
     exact tY
    ·exact tZ
   ·rfl
  ·refine mF ?_
   refine nQ ?_
   exact tY
theorem sc5:kY N5 ["thing","most"] (cR s5):=⟨rfl,rfl,rfl,by decide+kernel,rfl,by decide+kernel,by decide+kernel⟩
theorem gD9:hJ N5 (cR s5) 0 "thing" :=⟨rfl,Or.inl bO,bO,bO⟩
theorem gE0:hJ N5 (cR s5) 1 "most" :=⟨rfl,Or.inl bO,bO,bO⟩
theorem ok5(F:fU K "is_row_of_names" "is_row_of_names" s5 f fd)(TB:∀b:Heap,mM P w K mg b (n+2) C)(T0:∀b:Heap,vN P w K mg b n C'):cS P w K mg base dA (n+3) f fd ["thing","most"] (kF K (cH 2 2 (bS3 C C'))):=by
 have TT:=TB base
 obtain⟨fR,fdR,FR,hmR,hbR⟩:=TT.h4
 have hrow:∀(base':Heap) (v:V) (cl:List (Addr×HO)) (m:List D->bA D),qI P w K mg base' (n+1) v cl m->cS P w K mg base' dA (n+2) fR fdR ["thing","most","holds"] (qJ K v cl (hU m)):=fun base' v cl m CB=>(ok4 (C:=C) FR (TB base') CB).imp fun vs H Q E h=>bK2 h
 obtain⟨fN_is_name,hmN_is_name,CB_is_name⟩:=bQ3 ((T0 base).c .q2)
 have hrow_is_name:=hrow base _ _ _ (bQ7 CB_is_name (le_succ n))
 refine bP0 F sc5 ?_
 intro cdv A outer s H E hr
 refine mF ?_
 refine nQ ?_
 refine bQ4 hrow_is_name hr hmR FR.kp hbR hmN_is_name bO bO ?_ ?_ ?_ ?_ ?_
 ·rfl
 ·kernel_rfl
 ·kernel_rfl
 ·exact gJ gD9
 ·exact gJ gE0
theorem sc9:kY N9 ["thing","around"] (cR s9):=⟨rfl,rfl,rfl,by decide+kernel,rfl,by decide+kernel,by decide+kernel⟩
theorem gE3:hJ N9 (cR s9) 0 "thing" :=⟨rfl,Or.inl bO,bO,bO⟩
theorem gE4:(cR s9).names.lookup ("MOST_PARTS" :Str)=some .globalImplicit:=by kernel_rfl
theorem gE5:(cR s9).names.lookup ("is_row_of" :Str)=some .globalImplicit:=by kernel_rfl
abbrev bV3:Pos:=dE7 (kD s9)
abbrev gE6:Scope:=dE8 (cR s9) (kD s9)
theorem gE7:bH5 "part" "around" gE6:=dE9 rfl rfl rfl dX bO bO dX
theorem ok9(F:fU K "are_parts_within" "are_parts_within" s9 f fd)(TB:∀b:Heap,mM P w K mg b (n+2) C)(T0:∀b:Heap,vN P w K mg b n C')(LM:bQ0 K mg fd bV3 "are_parts_within.<locals>.<lambda>"):cS P w K mg base dA (n+3) f fd ["thing","around"] (kF K (cH 2 2 (bS4 C C'))):=by
 have TT:=TB base
 obtain⟨fR,fdR,FR,hmR,hbR⟩:=TT.h4
 have hrow:∀(base':Heap) (v:V) (cl:List (Addr×HO)) (m:List D->bA D),qI P w K mg base' (n+1) v cl m->cS P w K mg base' dA (n+2) fR fdR ["thing","most","holds"] (qJ K v cl (hU m)):=fun base' v cl m CB=>(ok4 (C:=C) FR (TB base') CB).imp fun vs H Q E h=>bK2 h
 obtain⟨c,Pt,hcd0,hLt,hbs⟩:=LM.ex
 refine dC2 F sc9 ?_
 intro cdv A outer s H E hcdv hr
 refine mF ?_
 refine nQ ?_
 refine dC1 (n:=n) (kr:=n+2) (M:=hU) (px:="part") (y:="around") (j:=1) (lq:="are_parts_within.<locals>.<lambda>") (c:=c) (Pt:=Pt) (f:=fR) (fd:=fdR) (ps:=["thing","most","holds"]) hrow hr gE5 hmR FR.kp hbR ?_ ?_ ?_ ?_ ?_ ?_ ?_ hLt ?_ (fun hk=>(hbs _ hk).1) ?_ (fun hk=>(hbs _ hk).2) ?_ ?_ ?_ gE7 ?_ ?_
 ·kernel_rfl
 ·rfl
 ·exact gJ gE3
 ·refine xT gE4 (TT.g "MOST_PARTS") ?_
  kernel_rfl
 ·rfl
 ·kernel_rfl
 ·rfl
 ·exact hcdv.symm.trans hcd0
 ·kernel_rfl
 ·rfl
 ·intro cells;rfl
 ·decide+kernel
 ·intro clos pm cd ct us hl;match us,hl with| [_],_=>rfl
 ·intro bs2 aa cd2 clos A2 outer2 s2 H2 hr2
  refine qX ((T0 bs2).c .q8) hr2 ?_ ?_ ?_ ?_
  ·kernel_rfl
  ·rfl
  ·kernel_rfl
  ·refine jR ?_ ?_ ?_
   ·rfl
   ·refine gJ ⟨rfl,Or.inl ?_,?_,?_⟩
    ·kernel_rfl
    ·kernel_rfl
    ·kernel_rfl
   ·refine jR ?_ ?_ ?_
    ·rfl
    ·refine gJ ⟨rfl,Or.inr (Or.inr ?_),?_,?_⟩
     ·kernel_rfl
     ·kernel_rfl
     ·kernel_rfl
    ·exact kZ
theorem gE9:kY N11 ["thing","around"] (cR rB):=⟨rfl,rfl,rfl,by decide+kernel,rfl,by decide+kernel,by decide+kernel⟩
theorem cK8:hJ N11 (cR rB) 0 "thing" :=⟨rfl,Or.inl bO,bO,bO⟩
theorem gF0:(cR rB).names.lookup ("is_row_of" :Str)=some .globalImplicit:=by kernel_rfl
theorem gF1:(cR rB).names.lookup ("isinstance" :Str)=some .globalImplicit:=by kernel_rfl
theorem gF2:(cR rB).names.lookup ("len" :Str)=some .globalImplicit:=by kernel_rfl
theorem gF3:(cR rB).names.lookup ("tuple" :Str)=some .globalImplicit:=by kernel_rfl
abbrev bV4:Pos:=dE7 (kD rB)
abbrev gF4:Scope:=dE8 (cR rB) (kD rB)
theorem gF5:bH5 "statement" "around" gF4:=dE9 rfl rfl rfl dX bO bO dX
theorem gF6(F:fU K "is_block_within" "is_block_within" rB f fd)(TB:∀b:Heap,mM P w K mg b (n+2) C)(T0:∀b:Heap,vN P w K mg b n C')(LM:bQ0 K mg fd bV4 "is_block_within.<locals>.<lambda>"):cS P w K mg base dA (n+3) f fd ["thing","around"] (kF K (cH 2 2 (bS5 C C'))):=by
 have TT:=TB base
 obtain⟨fR,fdR,FR,hmR,hbR⟩:=TT.h4
 have hrow:∀(base':Heap) (v:V) (cl:List (Addr×HO)) (m:List D->bA D),qI P w K mg base' (n+1) v cl m->cS P w K mg base' dA (n+2) fR fdR ["thing","most","holds"] (qJ K v cl (hU m)):=fun base' v cl m CB=>(ok4 (C:=C) FR (TB base') CB).imp fun vs H Q E h=>bK2 h
 obtain⟨c,Pt,hcd0,hLt,hbs⟩:=LM.ex
 refine dC2 F gE9 ?_
 intro cdv A outer s H E hcdv hr
 refine sD ?_ ?_
 ·refine wB ?_ ?_ ?_
  ·refine qC ?_
   refine qH ?_ ?_
   ·rfl
   ·refine cD9 (cD4 _) ?_ gF1 (TT.b "isinstance") gF3 (TT.b "tuple") boot_tuple ?_ ?_ ?_
    ·rfl
    ·kernel_rfl
    ·kernel_rfl
    ·exact gJ cK8
  ·refine mF ?_
   refine nQ ?_
   exact tY
  ·exact tZ
 ·refine mF ?_
  refine nQ ?_
  refine dC1 (n:=n) (kr:=n+2) (M:=hU) (px:="statement") (y:="around") (j:=1) (lq:="is_block_within.<locals>.<lambda>") (c:=c) (Pt:=Pt) (f:=fR) (fd:=fdR) (ps:=["thing","most","holds"]) hrow hr gF0 hmR FR.kp hbR ?_ ?_ ?_ ?_ ?_ ?_ ?_ hLt ?_ (fun hk=>(hbs _ hk).1) ?_ (fun hk=>(hbs _ hk).2) ?_ ?_ ?_ gF5 ?_ ?_
  ·kernel_rfl
  ·rfl
  ·exact gJ cK8
  ·refine cD8 cC7 bG8 gF2 (TT.b "len") boot_len ?_ ?_ ?_ ?_
   ·rfl
   ·kernel_rfl
   ·kernel_rfl
   ·refine jR ?_ ?_ ?_
    ·rfl
    ·exact gJ cK8
    ·exact kZ
  ·rfl
  ·kernel_rfl
  ·rfl
  ·exact hcdv.symm.trans hcd0
  ·kernel_rfl
  ·rfl
  ·intro cells;rfl
  ·decide+kernel
  ·intro clos pm cd ct us hl;match us,hl with| [_],_=>rfl
  ·intro bs2 aa cd2 clos A2 outer2 s2 H2 hr2
   refine qX ((T0 bs2).c .q12) hr2 ?_ ?_ ?_ ?_
   ·kernel_rfl
   ·rfl
   ·kernel_rfl
   ·refine jR ?_ ?_ ?_
    ·rfl
    ·refine gJ ⟨rfl,Or.inl ?_,?_,?_⟩
     ·kernel_rfl
     ·kernel_rfl
     ·kernel_rfl
    ·refine jR ?_ ?_ ?_
     ·rfl
     ·refine gJ ⟨rfl,Or.inr (Or.inr ?_),?_,?_⟩
      ·kernel_rfl
      ·kernel_rfl
      ·kernel_rfl
     ·exact kZ
theorem gF7:kY N16 ["thing"] (cR s16):=⟨rfl,rfl,rfl,by decide+kernel,rfl,by decide+kernel,by decide+kernel⟩
theorem bD1:hJ N16 (cR s16) 0 "thing" :=⟨rfl,Or.inl bO,bO,bO⟩
theorem gF8(F:fU K "is_face" "is_face" s16 f fd)(TB:∀b:Heap,mM P w K mg b (n+2) C)(T0:∀b:Heap,vN P w K mg b n C'):cS P w K mg base dA (n+3) f fd ["thing"] (kF K (cH 1 1 (bJ2 C C'))):=by
 have TT:=TB base
 obtain⟨fR,fdR,FR,hmR,hbR⟩:=TT.h4
 have hrow:∀(base':Heap) (v:V) (cl:List (Addr×HO)) (m:List D->bA D),qI P w K mg base' (n+1) v cl m->cS P w K mg base' dA (n+2) fR fdR ["thing","most","holds"] (qJ K v cl (hU m)):=fun base' v cl m CB=>(ok4 (C:=C) FR (TB base') CB).imp fun vs H Q E h=>bK2 h
 obtain⟨fN_is_told_deed,hmN_is_told_deed,CB_is_told_deed⟩:=bQ3 ((T0 base).c .q17)
 have hrow_is_told_deed:=hrow base _ _ _ (bQ7 CB_is_told_deed (le_succ n))
 refine bP0 F gF7 ?_
 intro cdv A outer s H E hr
 refine sD ?_ ?_
 ·refine wB ?_ ?_ ?_
  ·refine IW.it ?_
   refine zX ?_ ?_
   ·refine qC ?_
    refine qH ?_ ?_
    ·rfl
    ·refine qX (TT.c .q3) hr bO ?_ ?_ ?_
     ·rfl
     ·kernel_rfl
     ·refine jR ?_ ?_ ?_
      ·rfl
      ·exact gJ bD1
      ·refine jR ?_ ?_ ?_
       ·rfl
       ·exact nM
       ·exact kZ
   ·refine zW ?_
    refine qC ?_
    refine qH ?_ ?_
    ·rfl
    ·refine qX (TT.c .q2) hr bO ?_ ?_ ?_
     ·rfl
     ·kernel_rfl
     ·refine jR ?_ ?_ ?_
      ·rfl
      ·refine qG ?_ ?_ ?_
       ·rfl
       ·exact gJ bD1
       ·exact nM
      ·exact kZ
  ·refine mF ?_
   refine nQ ?_
   exact tY
  ·exact tZ
 ·refine sD ?_ ?_
  ·refine wB ?_ ?_ ?_
   ·refine IW.it ?_
    refine zX ?_ ?_
    ·refine qC ?_
     refine qH ?_ ?_
     ·rfl
     ·refine qX (TT.c .q5) hr bO ?_ ?_ ?_
      ·rfl
      ·kernel_rfl
      ·refine jR ?_ ?_ ?_
       ·rfl
       ·refine qG ?_ ?_ ?_
        ·rfl
        ·exact gJ bD1
        ·exact nM
       ·refine jR ?_ ?_ ?_
        ·rfl
        ·refine xT bO (TT.g "MOST_WORDS") ?_
         kernel_rfl
        ·exact kZ
    ·refine zW ?_
     refine qC ?_
     refine qH ?_ ?_
     ·rfl
     ·refine bQ4 hrow_is_told_deed hr hmR FR.kp hbR hmN_is_told_deed bO bO ?_ ?_ ?_ ?_ ?_
      ·rfl
      ·kernel_rfl
      ·kernel_rfl
      ·refine qG ?_ ?_ ?_
       ·rfl
       ·exact gJ bD1
       ·exact nM
      ·refine xT bO (TT.g "MOST_DEEDS") ?_
       kernel_rfl
   ·refine mF ?_
    refine nQ ?_
    exact tY
   ·exact tZ
  ·refine mF ?_
   refine nQ ?_
   refine qX (TT.c .q6) hr bO ?_ ?_ ?_
   ·rfl
   ·kernel_rfl
   ·refine jR ?_ ?_ ?_
    ·rfl
    ·refine cX3 cX5 ?_ ?_
     ·refine dB3 cY8 bG8 bO (TT.b "list") boot_list ?_ ?_ ?_ ?_
      ·rfl
      ·kernel_rfl
      ·kernel_rfl
      ·refine jR ?_ ?_ ?_
       ·rfl
       ·refine qG ?_ ?_ ?_
        ·rfl
        ·exact gJ bD1
        ·exact nM
       ·exact kZ
     ·refine fO2 (dA9 (os:=["told"]) (caps:=[]) (js:=[]) (N:=N16) (sc:=cR s16) rfl rfl rfl ?_ ?_ ?_ ?_ ?_ rfl ?_) rfl ?_ ?_ ?_ (wE ?_)
      ·decide+kernel
      ·decide+kernel
      ·decide+kernel
      ·decide+kernel
      ·decide+kernel
      ·decide+kernel
      ·refine bP3 ?_
       refine qG ?_ ?_ ?_
       ·rfl
       ·exact gJ bD1
       ·exact nM
      ·intro Cc fp ss HH EE
       exact cD7
      ·intro Cc fp ss HH EE
       refine qG ?_ ?_ ?_
       ·rfl
       ·refine gJ ⟨rfl,Or.inl ?_,?_,?_⟩
        ·kernel_rfl
        ·kernel_rfl
        ·kernel_rfl
       ·exact nM
      ·rfl
    ·exact kZ
theorem gF9:kY N18 ["thing"] (cR s18):=⟨rfl,rfl,rfl,by decide+kernel,rfl,by decide+kernel,by decide+kernel⟩
theorem bD2:hJ N18 (cR s18) 0 "thing" :=⟨rfl,Or.inl bO,bO,bO⟩
theorem gG0(F:fU K "is_unit" "is_unit" s18 f fd)(TB:∀b:Heap,mM P w K mg b (n+2) C)(T0:∀b:Heap,vN P w K mg b n C'):cS P w K mg base dA (n+3) f fd ["thing"] (kF K (cH 1 1 (bJ3 C C'))):=by
 have TT:=TB base
 obtain⟨fR,fdR,FR,hmR,hbR⟩:=TT.h4
 have hrow:∀(base':Heap) (v:V) (cl:List (Addr×HO)) (m:List D->bA D),qI P w K mg base' (n+1) v cl m->cS P w K mg base' dA (n+2) fR fdR ["thing","most","holds"] (qJ K v cl (hU m)):=fun base' v cl m CB=>(ok4 (C:=C) FR (TB base') CB).imp fun vs H Q E h=>bK2 h
 obtain⟨fN_is_deed,hmN_is_deed,CB_is_deed⟩:=bQ3 ((T0 base).c .q15)
 have hrow_is_deed:=hrow base _ _ _ (bQ7 CB_is_deed (le_succ n))
 obtain⟨fN_is_take,hmN_is_take,CB_is_take⟩:=bQ3 ((T0 base).c .q19)
 have hrow_is_take:=hrow base _ _ _ (bQ7 CB_is_take (le_succ n))
 refine bP0 F gF9 ?_
 intro cdv A outer s H E hr
 refine sD ?_ ?_
 ·refine wB ?_ ?_ ?_
  ·refine IW.it ?_
   refine zX ?_ ?_
   ·refine qC ?_
    refine qH ?_ ?_
    ·rfl
    ·refine qX (TT.c .q3) hr bO ?_ ?_ ?_
     ·rfl
     ·kernel_rfl
     ·refine jR ?_ ?_ ?_
      ·rfl
      ·exact gJ bD2
      ·refine jR ?_ ?_ ?_
       ·rfl
       ·exact nM
       ·exact kZ
   ·refine zW ?_
    refine qC ?_
    refine qH ?_ ?_
    ·rfl
    ·refine qX (TT.c .q2) hr bO ?_ ?_ ?_
     ·rfl
     ·kernel_rfl
     ·refine jR ?_ ?_ ?_
      ·rfl
      ·refine qG ?_ ?_ ?_
       ·rfl
       ·exact gJ bD2
       ·exact nM
      ·exact kZ
  ·refine mF ?_
   refine nQ ?_
   exact tY
  ·exact tZ
 ·refine sD ?_ ?_
  ·refine wB ?_ ?_ ?_
   ·refine IW.it ?_
    refine zX ?_ ?_
    ·refine qC ?_
     refine qH ?_ ?_
     ·rfl
     ·refine bQ4 hrow_is_take hr hmR FR.kp hbR hmN_is_take bO bO ?_ ?_ ?_ ?_ ?_
      ·rfl
      ·kernel_rfl
      ·kernel_rfl
      ·refine qG ?_ ?_ ?_
       ·rfl
       ·exact gJ bD2
       ·exact nM
      ·refine xT bO (TT.g "MOST_TAKES") ?_
       kernel_rfl
    ·refine zW ?_
     refine qC ?_
     refine qH ?_ ?_
     ·rfl
     ·refine qX (TT.c .q5) hr bO ?_ ?_ ?_
      ·rfl
      ·kernel_rfl
      ·refine jR ?_ ?_ ?_
       ·rfl
       ·refine qG ?_ ?_ ?_
        ·rfl
        ·exact gJ bD2
        ·exact nM
       ·refine jR ?_ ?_ ?_
        ·rfl
        ·refine xT bO (TT.g "MOST_WORDS") ?_
         kernel_rfl
        ·exact kZ
   ·refine mF ?_
    refine nQ ?_
    exact tY
   ·exact tZ
  ·refine mF ?_
   refine nQ ?_
   refine cW7 ?_ ?_
   ·refine bQ4 hrow_is_deed hr hmR FR.kp hbR hmN_is_deed bO bO ?_ ?_ ?_ ?_ ?_
    ·rfl
    ·kernel_rfl
    ·kernel_rfl
    ·refine qG ?_ ?_ ?_
     ·rfl
     ·exact gJ bD2
     ·exact nM
    ·refine xT bO (TT.g "MOST_DEEDS") ?_
     kernel_rfl
   ·refine cW6 ?_
    refine qX (TT.c .q10) hr bO ?_ ?_ ?_
    ·rfl
    ·kernel_rfl
    ·refine jR ?_ ?_ ?_
     ·rfl
     ·refine qG ?_ ?_ ?_
      ·rfl
      ·exact gJ bD2
      ·exact nM
     ·exact kZ
end
end
local macro_rules| `(tactic|simp! [$xs,*])=> `(tactic|simp[bA.bind,gv,kc,m2,gN,aC,bP,mA,bG,mB,bL,bH,bB,nO,bM,gO,mT,lA,m1,gR,fY,qF,dC, $xs,*])
section
variable [dF] [Pd]
theorem wP{d:Int}(h0:0<=d)(h1:d<4611686018427387904):jQ d=true:=by
 unfold jQ
 exact decide_eq_true ⟨by omega,by omega⟩
theorem tG{b:Int}(h:jQ a=true\/jQ b=true):jZ (.int a) (.int b)= .ok (.int (a*b)):=by
 simp only[jZ]
 rcases h with h|h<;>simp[h]
noncomputable def cK9(ns:List Int)(k:Int):Int:=
 let d:=((if k<(ns.length:Int)then ns.getD k.toNat 0 else 0)+7919*k+1)*48271%2147483647
 (d*d+7*d+k)%2147483629
theorem rE{xs:List α}{k:Int}{v:α}(h0:0<=k)(h:xs[k.toNat]? =some v):fP xs k=some v:=by
 have:=zR h
 rwa [Int.toNat_of_nonneg h0]at this
theorem gG1(n:Nat)(ns:List Int)(k:Int)(hk:0<=k):Ph (n+3) .q46 [.lst (ns.map .int),.int k]= .ok (.int (if k<(ns.length:Int)then ns.getD k.toNat 0 else 0)):=by
 show((cJ6 (Ph (n+2)) (Ph n)) #[.lst (ns.map .int),.int k]).bind bL=_
 unfold cJ6
 by_cases h:k<(ns.length:Int)
 ·have hlt:k.toNat<ns.length:=by omega
  have e:fP (ns.map D.int) k=some (.int ns[k.toNat]):=rE hk (by rw[getElem?_map,getElem?_eq_getElem hlt];rfl)
  simp! [cD,nR,h,bS,e,hlt]
 ·simp! [cD,nR,h]
theorem bV5(n:Nat)(ns:List Int)(k:Int)(hk:0<=k):Ph (n+4) .q47 [.lst (ns.map .int),.int k]= .ok (.int (cK9 ns k)):=by
 show((cJ7 (Ph (n+3)) (Ph (n+1))) #[.lst (ns.map .int),.int k,()]).bind bL=_
 unfold cJ7
 have h1:jQ 7919=true:=by decide
 have h2:jQ 48271=true:=by decide
 have h3:jQ 7=true:=by decide
 generalize hc:(if k<(ns.length:Int)then ns.getD k.toNat 0 else 0)=c
 have hce:=gG1 n ns k hk
 rw[hc]at hce
 have hd0:0<=(c+7919*k+1)*48271%2147483647:=emod_nonneg _ (by decide)
 have hd1:(c+7919*k+1)*48271%2147483647<2147483647:=emod_lt_of_pos _ (by decide)
 generalize hd:(c+7919*k+1)*48271%2147483647=d at hd0 hd1
 have hs:jQ d=true:=wP hd0 bD
 simp! [bU,hce,bN,tG (.inl h1),tG (.inr h2),tG (.inl h3),tG (.inl hs),bY,dI,hd]
 simp only[cK9,hc,hd]
noncomputable abbrev mN:Str:="abcdefghijklmnopqrstuvwxyz"
theorem cL0:mN.cps.toList.length=26:=by decide+kernel
theorem gG2{i:Int}(h0:0<=i)(h1:i<26):∃c,fP mN.cps.toList i=some c:=by
 have hl:=cL0
 have hlt:i.toNat<mN.cps.toList.length:=by omega
 exact⟨mN.cps.toList[i.toNat],rE h0 (getElem?_eq_getElem hlt)⟩
theorem wQ(c:Nat):(⟨[c].toArray⟩:Str).length=1:=rfl
theorem add_str{x y:Str}(h:x.length+y.length<=1000000):bN (.str x) (.str y)= .ok (.str (x++y)):=by
 have hs:=sizeLine_eq
 simp only[bN]
 rw[if_pos bD]
abbrev dH5:MS:=bU 2 (m2 bN @2 (m2 bS @1 (m2 bY (m2 dR @0 (m2 bN .(7) (m2 jZ .(26) @3))) .(26))))
theorem tH{m:Nat}{d:D}(h:d∈upTo 0 m):∃k:Int,d= .int k/\0<=k/\k<m:=by
 unfold R.upTo at h
 obtain⟨k,hk,rfl⟩:=List.mem_map.mp h
 have:=List.mem_range.mp hk
 exact⟨_,rfl,by omega,by omega⟩
theorem kC(lo:Int)(m:Nat):(upTo lo m).length=m:=by unfold R.upTo;rw[length_map,List.length_range]
theorem rF(a b:Int):cI (.int a) (.int b)= .ok (.bl (a==b)):=by simp[cI,cV,fV]
theorem gG3:("a" :Str).cps.toList= [97]:=by decide+kernel
theorem gG4:("z" :Str).cps.toList= [122]:=by decide+kernel
theorem bV6(a b:Nat):([a]< [b]) ↔ a<b:=by
 rw[List.cons_lt_cons_iff];simp
noncomputable def low(c:Nat):Bool:=decide (97<=c/\c<=122)
theorem gG5(c:Nat):dS cP cP .("a") @0 .("z") #[.str ⟨[c].toArray⟩]= .ok (.bl (low c)):=by
 have e1:cP (.str "a") (.str ⟨[c].toArray⟩)= .ok (.bl (!decide (c<97))):=by
  simp only[cP,gG3]
  have:decide (([c]:List Nat)< [97])=decide (c<97):=decide_eq_decide.mpr (bV6 c 97)
  show bA.ok (D.bl (!decide ([c]< [97])))=_
  rw[this]
 have e2:cP (.str ⟨[c].toArray⟩) (.str "z")= .ok (.bl (!decide (122<c))):=by
  simp only[cP,gG4]
  have:decide (([122]:List Nat)< [c])=decide (122<c):=decide_eq_decide.mpr (bV6 122 c)
  show bA.ok (D.bl (!decide ([122]< [c])))=_
  rw[this]
 by_cases h:c<97
 ·have hl:low c=false:=by unfold low;exact decide_eq_false bD
  simp[dS,kc,gv,bA.bind,e1,gN,h,hl]
 ·have hl:low c= !decide (122<c):=by
   unfold low
   by_cases h2:122<c
   ·rw[decide_eq_true h2,decide_eq_false bD];rfl
   ·rw[decide_eq_false h2,decide_eq_true bD];rfl
  simp[dS,kc,gv,bA.bind,e1,e2,gN,h,hl]
theorem dH6:∀cs:List Nat,dG (fun _=>.ok true) (dS cP cP .("a") @0 .("z")) [] (cs.map fun c=>D.str ⟨[c].toArray⟩)= .ok (cs.map fun c=>.bl (low c))
 | []=>rfl
 |c::cs=>by
  rw[map_cons,dG]
  show(bA.bind (dS cP cP .("a") @0 .("z") #[.str ⟨[c].toArray⟩]) _)=_
  rw[gG5]
  show(bA.bind (dG _ _ [] (cs.map fun c=>D.str ⟨[c].toArray⟩)) _)=_
  rw[dH6 cs];rfl
theorem cL1(f:Nat->Bool):∀cs:List Nat,wC (cs.map fun c=>.bl (f c))= .ok (cs.map f)
 | []=>rfl
 |c::cs=>by rw[map_cons,wC,cL1 f cs];rfl
theorem yM:∀ts:List Str,depL (ts.map .str)=0
 | []=>rfl
 |t::ts=>by rw[map_cons,depL,yM ts];rfl
theorem yN(z:Str):∀ts:List Str,xQ (.str z) (ts.map .str)=ts.any (· ==z)
 | []=>rfl
 |t::ts=>by
  show(fV (.str t) (.str z)||xQ (.str z) (ts.map .str))=_
  rw[yN z ts,any_cons,fV]
def bR:D->Bool
 | .str z=>decide (1<=z.length/\z.length<=8)&&(z.cps.toList.all low&& !tB.any (· ==z))
 |_=>false
theorem qN(n:Nat)(d:D):Ph (n+3) .q2 [d]= .ok (.bl (bR d)):=by
 show((cI3 (Ph (n+2)) (Ph n)) #[d]).bind bL=_
 unfold cI3
 cases d with
 |str z=>
  have hlen:cD [.str z]= .ok (.int z.length):=rfl
  by_cases h1:1<=z.length/\z.length<=8
  ·have h2:(1:Int)<=(z.length:Int):=by omega
   have h3:(z.length:Int)<=8:=by omega
   have hsz:(lQ z).length<=sizeLine:=by
    have e:(lQ z).length=z.length:=by unfold lQ;rw[length_map];rfl
    have:=sizeLine_eq
    omega
   have hcm:dG (fun _=>.ok true) (dS cP cP .("a") @0 .("z")) (fJ [] #[.str z]) (lQ z)= .ok (z.cps.toList.map fun c=>.bl (low c)):=dH6 z.cps.toList
   have hin:fQ true (.str z) bS0= .ok (.bl (!tB.any (· ==z))):=by
    unfold bS0
    simp only[fQ]
    rw[if_pos (by rw[yM];decide)];simp[yN]
   have hall:wD [.lst (z.cps.toList.map fun c=>.bl (low c))]= .ok (.bl (z.cps.toList.all low)):=by
    simp only[wD]
    rw[cL1]
    show bA.ok (D.bl ((z.cps.toList.map low).all id))=_
    rw[all_map];rfl
   have hno:bR (.str z)=(z.cps.toList.all low&& !tB.any (· ==z)):=by
    show(decide (1<=z.length/\z.length<=8)&&(z.cps.toList.all low&& !tB.any (· ==z)))=_
    rw[decide_eq_true h1,Bool.true_and]
   rw[hno]
   have hcomp:kO [] (dP @0) (fun _=>.ok true) (dS cP cP .("a") @0 .("z")) #[.str z]= .ok (.lst (z.cps.toList.map fun c=>.bl (low c))):=by
    show bA.bind (bA0 (.str z)) _=_
    show(if(lQ z).length<=sizeLine then(dG _ _ _ (lQ z)).bind _ else .bad)=_
    rw[if_pos hsz,hcm];rfl
   cases hA:z.cps.toList.all low with
   |true=>simp! [dS,cP,hlen,bC3,h2,h3,hcomp,hall,hA,hin]
   |false=>simp! [dS,cP,hlen,bC3,h2,h3,hcomp,hall,hA,hin]
  ·have hno:bR (.str z)=false:=by
    show(decide (1<=z.length/\z.length<=8)&&(z.cps.toList.all low&& !tB.any (· ==z)))=_
    rw[decide_eq_false h1,Bool.false_and]
   rw[hno]
   by_cases h2:(1:Int)<=(z.length:Int)
   ·have h3: ¬ (z.length:Int)<=8:=by omega
    simp! [dS,cP,hlen,bC3,h2,h3]
   ·simp! [dS,cP,hlen,bC3,h2]
 |_=>simp! [bR]
noncomputable def jV:D->Bool
 | .int i=>decide (-999999<=i/\i<=999999)
 |_=>false
theorem dH7(n:Nat)(d:D):Ph (n+3) .q0 [d]= .ok (.bl (match d with| .int _=>true|_=>false)):=by
 show((cI1 (Ph (n+2)) (Ph n)) #[d]).bind bL=_
 unfold cI1
 cases d<;>simp! [xL]
theorem gG6(n:Nat)(d:D):Ph (n+4) .q1 [d]= .ok (.bl (jV d)):=by
 have hw:=dH7 n d
 show((cI2 (Ph (n+3)) (Ph (n+1))) #[d]).bind bL=_
 unfold cI2
 cases d with
 |int i=>
  by_cases h1:(-999999:Int)<=i
  ·by_cases h2:i<=999999
   ·simp! [hw,dS,vA,vL,cP,h1,h2,jV]
   ·simp! [hw,dS,vA,vL,cP,h1,h2,jV]
  ·simp! [hw,dS,vA,vL,cP,h1,jV]
 |_=>simp! [hw,jV]
noncomputable def fw:D->Str
 | .tup (.str w::_)=>w
 |_=>""
theorem bV7(n:Nat)(d:D):Ph (n+3) .q7 [d]= .ok (.str (fw d)):=by
 show((cI6 (Ph (n+2)) (Ph n)) #[d]).bind bL=_
 unfold cI6
 cases d with
 |tup ds=>
  cases ds with
  |nil=>simp! [lN,cD,dJ,fw]
  |cons d r=>
   have e:fP (d::r) 0=some d:=rE (Int.le_refl 0) rfl
   cases d<;>simp! [lN,cD,dJ,fw,bS,e]
 |_=>simp! [lN,fw]
noncomputable def cY(m:Int):D->Bool
 | .tup ds=>decide ((ds.length:Int)=m)
 |_=>false
theorem bD3(n:Nat)(d:D)(m:Int):Ph (n+3) .q3 [d,.int m]= .ok (.bl (cY m d)):=by
 show((cI4 (Ph (n+2)) (Ph n)) #[d,.int m]).bind bL=_
 unfold cI4
 cases d with
 |tup ds=>
  have e:((ds.length:Int)==m)=decide ((ds.length:Int)=m):=by
   by_cases h:(ds.length:Int)=m
   ·simp[h]
   ·simp[h]
  simp! [cD,rF,e,cY]
 |_=>simp! [cY]
def jC(w:Str):Bool:=bC5.any (· ==w)
def bK:Nat->D->Bool
 |0,_=>false
 |k+1,.tup (.str w::r)=>
  if w== "number" then(match r with| [x]=>jV x|_=>false)
  else if w== "name" then(match r with| [x]=>bR x|_=>false)
  else if w== "call" then(match r with| [x,.tup xs]=>bR x&&(decide (xs.length<=4)&&xs.all (bK k))|_=>false)
  else if jC w then(match r with| [x,y]=>bK k x&&bK k y|_=>false)else false
 |_+1,_=>false
def lS(k:Nat):D->Bool
 | .tup xs=>decide (xs.length<=4)&&xs.all (bK k)
 |_=>false
theorem bK4(h:∀x,m [x]= .ok (.bl (p x))):∀xs:List D,xX m xs= .ok (.bl (xs.all p))
 | []=>rfl
 |x::r=>by
  rw[xX,h x,all_cons]
  cases hp:p x with
  |true=>simp[lA,bA.bind,bK4 h r]
  |false=>simp[lA,bA.bind]
theorem dH8(n:Nat)(k:Nat)(a:Int)(d:D)(h:∀x,Ph n .q8 [x,.int a]= .ok (.bl (bK k x))):Ph (n+3) .q9 [d,.int a]= .ok (.bl (lS k d)):=by
 show((bS4 (Ph (n+2)) (Ph n)) #[d,.int a]).bind bL=_
 unfold bS4
 have hm:∀x,kQ a (mA (Ph n .q8) {@0,@1}) [x]= .ok (.bl (bK k x)):=fun x=>by
  show Ph n .q8 [x,.int a]=_
  exact h x
 have e:xW @0 (kc bC4) 1 (fun i=>hU (kQ i (mA (Ph n .q8) {@0,@1}))) #[d,.int a]= .ok (.bl (lS k d)):=by
  show bA.bind (hU (kQ a (mA (Ph n .q8) {@0,@1})) [d,.int 4]) xV=_
  cases d with
  |tup xs=>
   unfold hU
   by_cases hl:(4:Int)<(xs.length:Int)
   ·have: ¬ xs.length<=4:=by omega
    simp[hl,bA.bind,xV,lS,this]
   ·have:xs.length<=4:=by omega
    show bA.bind (if(4:Int)<(xs.length:Int)then _ else xX (kQ a (mA (Ph n .q8) {@0,@1})) xs) xV=_
    rw[if_neg hl,bK4 hm]
    simp[bA.bind,xV,lS,this]
  |_=>rfl
 show bA.bind (bA.bind (xW _ _ _ _ #[d,.int a]) _) _=_
 rw[e];rfl
theorem dL(w t:Str):cI (.str w) (.str t)= .ok (.bl (w==t)):=by simp[cI,cV,fV]
theorem nE(w:Str):fQ true (.str w) yK= .ok (.bl (!jC w)):=by
 unfold yK
 simp only[fQ]
 rw[if_pos (by rw[yM];decide)];simp[yN,jC]
theorem dH9:jC "number" =false/\jC "name" =false/\jC "call" =false/\jC "" =false:=by decide+kernel
theorem cL2:(("" :Str)== "number")=false/\(("" :Str)== "name")=false/\(("" :Str)== "call")=false:=by decide+kernel
theorem gG7(C C':CT)(k:Nat)(a:Int)(d:D)(ha:a<=12)(h5:C .q7 [d]= .ok (.str (fw d)))(h3:∀d m,C .q3 [d,.int m]= .ok (.bl (cY m d)))(h1:∀x,C .q1 [x]= .ok (.bl (jV x)))(h2:∀x,C .q2 [x]= .ok (.bl (bR x)))
 (h8:∀x,C .q9 [x,.int (a+1)]= .ok (.bl (lS k x))) (h7:∀x,C .q8 [x,.int (a+1)]= .ok (.bl (bK k x))):((wM C C') #[d,.int a,()]).bind bL= .ok (.bl (bK (k+1) d)):=by
 have hg: ¬ (12:Int)<a:=by omega
 have none_:fw d="" ->bK (k+1) d=false->((wM C C') #[d,.int a,()]).bind bL= .ok (.bl (bK (k+1) d)):=fun hf he=>by
  rw[he]
  unfold wM
  simp! [bU,h5,hf,dJ,gS,hg,dL,cL2.1,cL2.2.1,cL2.2.2,nE,dH9.2.2.2]
 cases d with
 |tup ds=>
  cases ds with
  |nil=>exact none_ rfl rfl
  |cons x r=>
   cases x with
   |str w=>
    have hf:fw (.tup (.str w::r))=w:=rfl
    have i1:∀x r',fP (D.str w::x::r') 1=some x:=fun x r'=>rE (by decide) rfl
    have i2:∀x y r',fP (D.str w::x::y::r') 2=some y:=fun x y r'=>rE (by decide) rfl
    unfold wM
    cases w1:(w==("number" :Str))with
    |true=>
     match r with
     | []=>simp! [bU,h5,hf,dJ,gS,hg,dL,w1,bK,h3,cY]
     | [x]=>simp! [bU,h5,hf,dJ,gS,hg,dL,w1,bK,h3,cY,bS,i1,h1]
     |x::y::r'=>
      have hn: ¬ ((r'.length:Int)+1+1+1=2):=by omega
      simp! [bU,h5,hf,dJ,gS,hg,dL,w1,bK,h3,cY,hn]
    |false=>
    cases w2:(w==("name" :Str))with
    |true=>
     match r with
     | []=>simp! [bU,h5,hf,dJ,gS,hg,dL,bK,h3,cY,nE,w1,w2]
     | [x]=>simp! [bU,h5,hf,dJ,gS,hg,dL,bK,h3,cY,nE,w1,w2,bS,i1,h2]
     |x::y::r'=>
      have hn: ¬ ((r'.length:Int)+1+1+1=2):=by omega
      simp! [bU,h5,hf,dJ,gS,hg,dL,bK,h3,cY,nE,w1,w2,hn]
    |false=>
    cases w3:(w==("call" :Str))with
    |true=>
     match r with
     | []=>simp! [bU,h5,hf,dJ,gS,hg,dL,bK,h3,cY,nE,w1,w2,w3]
     | [x]=>simp! [bU,h5,hf,dJ,gS,hg,dL,bK,h3,cY,nE,w1,w2,w3]
     | [x,y]=>
      cases hx:bR x with
      |true=>cases y<;>simp! [bU,h5,hf,dJ,gS,hg,dL,bK,h3,cY,nE,w1,w2,w3,bS,i1,i2,h2,h8,hx,bN,lS]
      |false=>cases y<;>simp! [bU,h5,hf,dJ,gS,hg,dL,bK,h3,cY,nE,w1,w2,w3,bS,i1,i2,h2,hx,bN,lS]
     |x::y::z::r'=>
      have hn: ¬ ((r'.length:Int)+1+1+1+1=3):=by omega
      simp! [bU,h5,hf,dJ,gS,hg,dL,bK,h3,cY,nE,w1,w2,w3,hn]
    |false=>
    cases w4:jC w with
    |false=>
     simp! [bU,h5,hf,dJ,gS,hg,dL,bK,h3,cY,nE,w1,w2,w3,w4]
    |true=>
     match r with
     | []=>simp! [bU,h5,hf,dJ,gS,hg,dL,bK,h3,cY,nE,w1,w2,w3,w4]
     | [x]=>simp! [bU,h5,hf,dJ,gS,hg,dL,bK,h3,cY,nE,w1,w2,w3,w4]
     | [x,y]=>
      cases hx:bK k x with
      |true=>simp! [bU,h5,hf,dJ,gS,hg,dL,bK,h3,cY,nE,w1,w2,w3,w4,bS,i1,i2,h7,hx,bN]
      |false=>simp! [bU,h5,hf,dJ,gS,hg,dL,bK,h3,cY,nE,w1,w2,w3,w4,bS,i1,i2,h7,hx,bN]
     |x::y::z::r'=>
      have hn: ¬ ((r'.length:Int)+1+1+1+1=3):=by omega
      simp! [bU,h5,hf,dJ,gS,hg,dL,bK,h3,cY,nE,w1,w2,w3,w4,hn]
   |_=>exact none_ rfl rfl
 |_=>exact none_ rfl rfl
theorem bV8:∀(k n:Nat) (a:Int) (d:D),a+(k:Int)=13->Ph (n+4*k+6) .q8 [d,.int a]= .ok (.bl (bK k d))
 |0,n,a,d,h=>by
  have ha:a=13:=by omega
  subst ha
  show((wM (Ph (n+5)) (Ph (n+3))) #[d,.int 13,()]).bind bL=_
  unfold wM
  have hf:=bV7 (n+2) d
  simp! [bU,hf,dJ,gS,bK]
 |k+1,n,a,d,h=>by
  have e:n+4*(k+1)+6=(n+4*k+7)+3:=by omega
  rw[e]
  show((wM (Ph (n+4*k+7+2)) (Ph (n+4*k+7))) #[d,.int a,()]).bind bL=_
  refine gG7 _ _ k a d bD ?_ ?_ ?_ ?_ ?_ ?_
  ·exact bV7 (n+4*k+6) d
  ·exact fun d m=>bD3 (n+4*k+6) d m
  ·exact fun x=>gG6 (n+4*k+5) x
  ·exact fun x=>qN (n+4*k+6) x
  ·exact fun x=>dH8 (n+4*k+6) k (a+1) x fun y=>bV8 k n (a+1) y bD
  ·intro x
   have q:=bV8 k (n+3) (a+1) x bD
   have e2:n+3+4*k+6=n+4*k+7+2:=by omega
   rw[e2]at q
   exact q
noncomputable abbrev SG:Str:="+-*<="
theorem gG8(c:Nat):decide (c∈SG.cps.toList)=jC ⟨[c].toArray⟩:=by
 have e:SG.cps.toList= [43,45,42,60,61]:=by decide+kernel
 have e1:("+" :Str)=⟨[43].toArray⟩:=by decide+kernel
 have e2:("-" :Str)=⟨[45].toArray⟩:=by decide+kernel
 have e3:("*" :Str)=⟨[42].toArray⟩:=by decide+kernel
 have e4:("<" :Str)=⟨[60].toArray⟩:=by decide+kernel
 have e5:("=" :Str)=⟨[61].toArray⟩:=by decide+kernel
 have one:∀a:Nat,((⟨[a].toArray⟩:Str)==⟨[c].toArray⟩)=decide (c=a):=fun a=>by
  rw[Bool.eq_iff_iff]
  simp only[beq_iff_eq,decide_eq_true_eq]
  constructor
  ·intro h;injection h with h;simpa using h.symm
  ·intro h;rw[h]
 rw[e]
 unfold jC bC5
 rw[e1,e2,e3,e4,e5]
 simp only[any_cons,any_nil,one,Bool.or_false]
 simp[Bool.eq_iff_iff]
theorem gG9(h:jC w=true):w.length=1:=by
 unfold jC bC5 at h
 simp only[any_cons,any_nil,Bool.or_false,or_eq_true,beq_iff_eq]at h
 rcases h with h|h|h|h|h<;>(subst h;decide+kernel)
theorem bK5(n:Nat)(nb k:Int)(hk:jQ k=true):∃v:Int,Ph (n+3) .q48 [.int nb,.int k]= .ok (.int v):=by
 have h1:jQ 104729=true:=by decide
 have h2:jQ 69621=true:=by decide
 have h3:jQ 3=true:=by decide
 have c0:0<=(nb+104729*k+17)*69621%2147483647:=emod_nonneg _ (by decide)
 have c1:(nb+104729*k+17)*69621%2147483647<2147483647:=emod_lt_of_pos _ (by decide)
 have h4:jQ ((nb+104729*k+17)*69621%2147483647)=true:=wP c0 bD
 refine⟨((nb+104729*k+17)*69621%2147483647*((nb+104729*k+17)*69621%2147483647)+3*((nb+104729*k+17)*69621%2147483647)+k)%2147483629,?_⟩
 show((cJ8 (Ph (n+2)) (Ph n)) #[.int nb,.int k,()]).bind bL=_
 unfold cJ8
 simp[bB,bU,m2,gv,kc,bA.bind,tG (.inl h1),tG (.inr h2),tG (.inl h3),tG (.inl h4),bN,bY,dI,nO,bG,bL]
mutual
noncomputable def gd:D->Bool
 | .tup xs=>decide (xs.length<=40)&&gdL xs
 | .str z=>decide (z.length<=20)
 | .int i=>decide (i.natAbs<=1000000000000)
 |_=>false
noncomputable def gdL:List D->Bool
 | []=>true
 |x::r=>gd x&&gdL r
end
theorem bK6:∀{xs:List D},(∀x∈xs,gd x=true)->gdL xs=true
 | [],_=>by simp only[gdL]
 |x::r,h=>by simp only[gdL,h x mem_cons_self,bK6 fun y hy=>h y (mem_cons_of_mem _ hy),Bool.and_self]
theorem bK7{m:Nat}:∀{xs:List D},(∀x∈xs,cV x<=m)->depL xs<=m
 | [],_=>by simp only[depL];omega
 |x::r,h=>by
  have h1:=h x mem_cons_self
  have h2:=bK7 fun y hy=>h y (mem_cons_of_mem _ hy)
  simp only[depL];omega
theorem gH0{i:Int}(h:0<xs.length):∃x,fP xs (i%(xs.length:Int))=some x/\x∈xs:=by
 have h0:0<=i%(xs.length:Int):=emod_nonneg _ bD
 have h1:i%(xs.length:Int)<(xs.length:Int):=emod_lt_of_pos _ bD
 obtain⟨k,hk⟩:∃k:Nat,i%(xs.length:Int)=(k:Int):=⟨(i%(xs.length:Int)).toNat,by omega⟩
 have hlt:k<xs.length:=by omega
 refine⟨xs[k],?_,List.getElem_mem hlt⟩
 rw[hk]
 exact zR (by rw[getElem?_eq_getElem hlt])
theorem gH1(i:Int):∃c,fP SG.cps.toList (i%5)=some c:=by
 have h0:0<=i%5:=emod_nonneg _ (by decide)
 have h1:i%5<5:=emod_lt_of_pos _ (by decide)
 have hl:SG.cps.toList.length=5:=by decide+kernel
 obtain⟨k,hk⟩:∃k:Nat,i%5=(k:Int):=⟨(i%5).toNat,by omega⟩
 have hlt:k<SG.cps.toList.length:=by omega
 exact⟨SG.cps.toList[k],by rw[hk];exact zR (by rw[getElem?_eq_getElem hlt])⟩
theorem bK8{g:ME}{Pd:D->Prop}:∀xs:List D,(∀x∈xs,∃d,g (.val x::rest)= .ok d/\Pd d)->∃ys,dG (fun _=>.ok true) g rest xs= .ok ys/\ys.length=xs.length/\ ∀y∈ys,Pd y
 | [],_=>⟨[],rfl,rfl,fun y hy=>by cases hy⟩
 |x::r,h=>by
  obtain⟨d,e1,p1⟩:=h x mem_cons_self
  obtain⟨ys,e2,l2,p2⟩:=bK8 r fun y hy=>h y (mem_cons_of_mem _ hy)
  refine⟨d::ys,?_,by rw[length_cons,l2,length_cons],fun y hy=>?_⟩
  ·rw[dG]
   show bA.bind (g (.val x::rest)) _=_
   rw[e1]
   show bA.bind (dG _ g rest r) _=_
   rw[e2];rfl
  ·rcases List.mem_cons.mp hy with z|z
   ·subst z;exact p1
   ·exact p2 y z
mutual
noncomputable def wt:D->Nat
 | .str z=>min z.length 8+1
 | .tup xs=>wtL xs+2
 |_=>8
noncomputable def wtL:List D->Nat
 | []=>0
 |x::r=>wt x+wtL r
end
theorem rG{w:Nat}:∀{xs:List D},(∀x∈xs,wt x<=w)->wtL xs<=xs.length*w
 | [],_=>by simp[wtL]
 |x::r,h=>by
  have h1:=h x mem_cons_self
  have h2:=rG fun y hy=>h y (mem_cons_of_mem _ hy)
  simp only[wtL,length_cons,Nat.add_mul];omega
noncomputable def EW:Nat->Nat
 |0=>17
 |m+1=>4*EW m+18
theorem dI0:∀m,17<=EW m
 |0=>le_refl _
 |m+1=>by simp only[EW];omega
theorem gH2(v:Int)(m:Nat):wt (.tup [.str "number",.int v])<=EW m:=by
 have:=dI0 m
 have e:(ofString "number").length=6:=by decide+kernel
 simp only[wt,wtL,e];omega
theorem gH3(hz:z.length<=8)(m:Nat):wt (.tup [.str "name",.str z])<=EW m:=by
 have:=dI0 m
 have e:(ofString "name").length=4:=by decide+kernel
 simp only[wt,wtL,e];omega
theorem dI1:∀{xs:List D},x∈xs->cV x<=depL xs
 | [],h=>by cases h
 |y::r,h=>by
  simp only[depL]
  rcases List.mem_cons.mp h with rfl|h
  ·omega
  ·have:=dI1 h;omega
theorem dI2:∀{xs:List D},gdL xs=true->x∈xs->gd x=true
 | [],_,h=>by cases h
 |y::r,g,h=>by
  simp only[gdL,and_eq_true]at g
  rcases List.mem_cons.mp h with rfl|h
  ·exact g.1
  ·exact dI2 g.2 h
theorem gH4{xs:List α}{i:Int}{v:α}(h:fP xs i=some v):v∈xs:=by
 unfold fP at h
 cases hx:vZ xs.length i with
 |none=>rw[hx]at h;cases h
 |some j=>rw[hx]at h;exact mem_of_getElem? h
mutual
noncomputable def kJ:D->Bool
 | .tup xs=>decide (xs.length<=1000)&&widL xs
 |_=>true
noncomputable def widL:List D->Bool
 | []=>true
 |x::r=>kJ x&&widL r
end
theorem bV9:∀{xs:List D},widL xs=true->x∈xs->kJ x=true
 | [],_,h=>by cases h
 |y::r,g,h=>by
  simp only[widL,and_eq_true]at g
  rcases List.mem_cons.mp h with rfl|h
  ·exact g.1
  ·exact bV9 g.2 h
mutual
theorem dI3:∀{d:D},gd d=true->kJ d=true
 | .tup xs,h=>by
  simp only[gd,and_eq_true,decide_eq_true_eq]at h
  simp only[kJ,and_eq_true,decide_eq_true_eq]
  exact⟨by omega,gdL_wid h.2⟩
 | .non,_=>by simp only[kJ]
 | .bl _,_=>by simp only[kJ]
 | .int _,_=>by simp only[kJ]
 | .str _,_=>by simp only[kJ]
 | .lst _,_=>by simp only[kJ]
theorem gdL_wid:∀{xs:List D},gdL xs=true->widL xs=true
 | [],_=>by simp only[widL]
 |x::r,h=>by
  simp only[gdL,and_eq_true]at h
  simp only[widL,and_eq_true]
  exact⟨dI3 h.1,gdL_wid h.2⟩
end
theorem gH5{d:D}(h:∀xs,d≠ .tup xs):wt d<=9:=by
 cases d with
 |tup xs=>exact absurd rfl (h xs)
 |str z=>simp only[wt];omega
 |_=>simp only[wt];omega
theorem dI4:∀xs ys:List D,wtL (xs++ys)=wtL xs+wtL ys
 | [],ys=>by simp[wtL]
 |x::r,ys=>by rw[List.cons_append,wtL,wtL,dI4 r ys];omega
theorem dD{c:MT}{R:MS}(h:c O= .ok false):bB (bH c A bM) R O=R O:=by
 simp[bB,bH,h,bA.bind,bM,nO]
theorem fH{c:MT}{B R:MS}(h:c O= .ok true):bB (bH c A B) R O=bB A R O:=by
 simp[bB,bH,h,bA.bind,nO]
theorem mO{R:MS}{d:D}(h:f O= .ok d):bB (bU i f) R O=R (O.set i (.val d)):=by
 simp[bB,bU,h,bA.bind,nO]
theorem gT{d:D}(h:f O= .ok d):((bG f O).bind bL)= .ok d:=by
 simp[bG,h,bA.bind,bL]
theorem gP{R:MS}{d:D}(h:f O= .ok d):(bB (bG f) R O).bind bL= .ok d:=by
 simp[bB,bG,h,bA.bind,nO,bL]
theorem bK9{B D:MS}:bB (bB A B) D O=bB A (bB B D) O:=by
 unfold bB
 cases A O with
 |ok fl=>cases fl<;>rfl
 |_=>rfl
theorem gH6{B C D:MS}:bB (bB A (bB B C)) D O=bB A (bB B (bB C D)) O:=by
 rw[bK9]
 unfold bB
 cases A O with
 |ok fl=>
  cases fl with
  |nx r=>exact bK9 (A:=B) (B:=C) (D:=D) (O:=r)
  |_=>rfl
 |_=>rfl
noncomputable def jH:List (Str×List Str):=[("let",["WORD","EXPRESSION"]),("if",["EXPRESSION","BLOCK","BLOCK"]),("while",["EXPRESSION","BLOCK"]),("do",["DEED","PARTS"]),("give",["EXPRESSION"]),("tell",["EXPRESSION"]),("get",["WORD"]),("new",["WORD","DEED"]),("hand",["WORD","EXPRESSION"]),("await",["WORD","WORD"])]
def kK(e p b:D->Bool)(s:Str)(x:D):Bool:=if s== "WORD" ||s== "DEED" then bR x else if s== "EXPRESSION" then e x else if s== "PARTS" then p x else b x
def cE:Nat->D->Bool
 |0,_=>false
 |k+1,d=>match d with
  | .tup (.str w::r)=>match jH.lookup w with
   |some ss=>decide (r.length=ss.length)&&(ss.zip r).all fun q=>kK (bK k) (lS k) (fun x=>match x with| .tup xs=>xs.all (cE k)|_=>false) q.1 q.2
   |none=>false
  |_=>false
def lT(k:Nat):D->Bool
 | .tup xs=>xs.all (cE k)
 |_=>false
abbrev dZ(k:Nat):Str->D->Bool:=kK (bK k) (lS k) (lT k)
theorem yO(k:Nat)(w:Str)(r:List D):cE (k+1) (.tup (.str w::r))=match jH.lookup w with
 |some ss=>decide (r.length=ss.length)&&(ss.zip r).all fun q=>dZ k q.1 q.2
 |none=>false:=by
 have e:(fun x=>match x with|D.tup xs=>xs.all (cE k)|_=>false)=lT k:=by
  funext x;cases x<;>rfl
 simp only[cE]
 rw[e]
theorem cL3 [BEq α](w:α):∀l:List (α×β),(l.lookup w).isSome=l.any fun p=>w==p.1
 | []=>rfl
 | (a,b)::r=>by
  rw[lookup_cons,any_cons]
  cases w==a with
  |true=>rfl
  |false=>exact cL3 w r
theorem dI5(w:Str):(jB.lookup w).isSome=(jH.lookup w).isSome:=by
 rw[cL3,cL3]
 rfl
theorem bL0{b:β}:∀{l:List (Str×β)},l.lookup w=some b->(w,b)∈l
 | [],h=>by cases h
 | (a,c)::r,h=>by
  rw[lookup_cons]at h
  cases e:w==a with
  |true=>rw[e]at h;cases h;rw[eq_of_beq e];exact mem_cons_self
  |false=>rw[e]at h;exact mem_cons_of_mem _ (bL0 h)
theorem gH7(n:Nat)(h:jH.lookup w=some ss):Ph (n+3) .q13 [.str w]= .ok (.lst (ss.map .str)):=by
 have m:=bL0 h
 show((dH2 (Ph (n+2)) (Ph n)) #[.str w]).bind bL=_
 simp only[jH,mem_cons,not_mem_nil,or_false,Prod.mk.injEq]at m
 rcases m with⟨rfl,rfl⟩|⟨rfl,rfl⟩|⟨rfl,rfl⟩|⟨rfl,rfl⟩|⟨rfl,rfl⟩|⟨rfl,rfl⟩|⟨rfl,rfl⟩|⟨rfl,rfl⟩|⟨rfl,rfl⟩|⟨rfl,rfl⟩<;>kernel_rfl
theorem dI6(a b:Str):(a==b)=(b==a):=by
 rw[Bool.eq_iff_iff,beq_iff_eq,beq_iff_eq];exact eq_comm
theorem gH8(C C':CT)(k:Nat)(a:Int)(s:Str)(x:D)(h1:∀x,C .q2 [x]= .ok (.bl (bR x)))(h2:∀x,C .q8 [x,.int a]= .ok (.bl (bK k x)))(h3:∀x,C .q9 [x,.int a]= .ok (.bl (lS k x)))(h4:∀x,C .q11 [x,.int a]= .ok (.bl (lT k x))):
 ((bS6 C C') #[.str s,x,.int a]).bind bL= .ok (.bl (dZ k s x)):=by
 have hin:fQ false (.str s) vM= .ok (.bl (s== "WORD" ||s== "DEED")):=by
  unfold vM
  simp only[fQ]
  rw[if_pos (by rw[yM];decide)]
  simp only[yN,rC,any_cons,any_nil,Bool.or_false,Bool.bne_false]
  rw[dI6 (ofString "WORD") s,dI6 (ofString "DEED") s]
  simp
 unfold bS6
 cases c1:(s== "WORD" ||s== "DEED")with
 |true=>
  rw[fH (by simp[mB,m2,gv,kc,bA.bind,hin,c1,gN])]
  have e:dZ k s x=bR x:=by show kK _ _ _ s x=_;unfold kK;rw[c1];rfl
  rw[e]
  exact gP (by simp[mA,aC,bP,gv,bA.bind,h1])
 |false=>
  rw[dD (by simp[mB,m2,gv,kc,bA.bind,hin,c1,gN])]
  cases c2:(s==("EXPRESSION" :Str))with
  |true=>
   rw[fH (by simp[mB,m2,gv,kc,bA.bind,dL,c2,gN])]
   have e:dZ k s x=bK k x:=by show kK _ _ _ s x=_;unfold kK;rw[c1,c2];rfl
   rw[e]
   exact gP (by simp[mA,aC,bP,gv,bA.bind,h2])
  |false=>
   rw[dD (by simp[mB,m2,gv,kc,bA.bind,dL,c2,gN])]
   cases c3:(s==("PARTS" :Str))with
   |true=>
    rw[fH (by simp[mB,m2,gv,kc,bA.bind,dL,c3,gN])]
    have e:dZ k s x=lS k x:=by show kK _ _ _ s x=_;unfold kK;rw[c1,c2,c3];rfl
    rw[e]
    exact gP (by simp[mA,aC,bP,gv,bA.bind,h3])
   |false=>
    rw[dD (by simp[mB,m2,gv,kc,bA.bind,dL,c3,gN])]
    have e:dZ k s x=lT k x:=by show kK _ _ _ s x=_;unfold kK;rw[c1,c2,c3];rfl
    rw[e]
    exact gT (by simp[mA,aC,bP,gv,bA.bind,h4])
theorem dI7(d:D)(s2 s3:Slot)(hp:∀s x,C .q14 [.str s,x,.int (a+1)]= .ok (.bl (dZ k s x))):∀(ss:List Str) (r:List D) (s4 s5:Slot),
 ((nV 4 5 (bH (dC (mT (mA (C .q14) {@4,@5,(m2 bN @1 .(1))}))) (bG (kc (.bl false))) (bM)) (R.pairD (ss.map .str) r) [.val d,.val (.int a),s2,s3,s4,s5]).bind (nO (bG (kc (.bl true))))).bind bL= .ok (.bl ((ss.zip r).all fun q=>dZ k q.1 q.2))
 | [],r,s4,s5=>by simp[R.pairD,nV,bA.bind,nO,bG,kc,bL]
 |s::ss,[],s4,s5=>by simp[R.pairD,nV,bA.bind,nO,bG,kc,bL]
 |s::ss,x::r,s4,s5=>by
  have ih:=dI7 d s2 s3 hp ss r (.val (.str s)) (.val x)
  have e:R.pairD ((s::ss).map .str) (x::r)= .tup [.str s,x]::R.pairD (ss.map .str) r:=rfl
  rw[e,nV,zip_cons_cons,all_cons]
  have eb:bH (dC (mT (mA (C .q14) {@4,@5,(m2 bN @1 .(1))}))) (bG (kc (.bl false))) (bM) (([.val d,.val (.int a),s2,s3,s4,s5].set 4 (.val (.str s))).set 5 (.val x))=
   if dZ k s x=true then .ok (.nx [.val d,.val (.int a),s2,s3,.val (.str s),.val x])else .ok (.rt (.bl false)):=by
   have e1:bN (.int a) (.int 1)= .ok (.int (a+1)):=rfl
   cases hq:dZ k s x<;>simp! [e1,hp,hq]
  show bA.bind (bA.bind (bA.bind (bH _ _ _ (([.val d,.val (.int a),s2,s3,s4,s5].set 4 (.val (.str s))).set 5 (.val x))) _) _) _=_
  rw[eb]
  cases hq:dZ k s x with
  |true=>
   rw[if_pos rfl,Bool.true_and]
   exact ih
  |false=>
   rw[if_neg (by simp),Bool.false_and]
   rfl
theorem gH9(C C':CT)(k:Nat)(a:Int)(d:D)(ha:a<=12)(h5:C .q7 [d]= .ok (.str (fw d)))(hs:∀w ss,jH.lookup w=some ss->C .q13 [.str w]= .ok (.lst (ss.map .str)))
 (hp:∀s x,C .q14 [.str s,x,.int (a+1)]= .ok (.bl (dZ k s x))) (hd:jH.lookup (fw d)≠none->∃w r,d= .tup (.str w::r)):
 ((bC6 C C') #[d,.int a,(),(),(),()]).bind bL= .ok (.bl (cE (k+1) d)):=by
 have ha': ¬ (12:Int)<a:=by omega
 have hin:sP jB true (.str (fw d))= .ok (.bl (!(jH.lookup (fw d)).isSome)):=by
  show bA.ok (D.bl ((jB.lookup (fw d)).isSome != true))=_
  rw[dI5]
  simp
 unfold bC6
 rw[mO (d:=.str (fw d)) (by simp[mA,aC,bP,gv,bA.bind,h5])]
 show(bB (bH _ _ bM) _ #[d,.int a,.str (fw d),(),(),()]).bind bL=_
 cases hl:jH.lookup (fw d)with
 |none=>
  rw[hl]at hin
  rw[fH (by simp[gO,mB,m1,m2,gv,kc,bA.bind,gS,dJ,gN,ha',hin])]
  have e:cE (k+1) d=false:=by
   cases d with
   |tup xs=>
    cases xs with
    |nil=>rfl
    |cons x r=>
     cases x with
     |str w=>rw[yO];have:jH.lookup w=none:=hl;rw[this]
     |_=>rfl
   |_=>rfl
  rw[e]
  exact gP rfl
 |some ss=>
  obtain⟨w,r,rfl⟩:=hd (by rw[hl];simp)
  have hl':jH.lookup w=some ss:=hl
  have hfw:fw (.tup (.str w::r))=w:=rfl
  rw[hfw]at hin ⊢
  rw[hl']at hin
  rw[dD (by simp[gO,mB,m1,m2,gv,kc,bA.bind,gS,dJ,gN,ha',hin])]
  rw[mO (d:=.lst (ss.map .str)) (by simp[mA,aC,bP,gv,bA.bind,hs w ss hl'])]
  show(bB (bH _ _ bM) _ #[.tup (.str w::r),.int a,.str w,.lst (ss.map .str),(),()]).bind bL=_
  rw[yO,hl']
  show _=bA.ok (D.bl (decide (r.length=ss.length)&&(ss.zip r).all fun q=>dZ k q.1 q.2))
  have hdn:∀b:Bool,(b= !decide (r.length=ss.length))->mB (m2 jS (mA cD {@0}) (m2 bN (mA cD {@3}) .(1))) #[.tup (.str w::r),.int a,.str w,.lst (ss.map .str),(),()]= .ok b:=fun b hb=>by
   have e1:cD [.tup (.str w::r)]= .ok (.int ((r.length:Int)+1)):=by show bA.ok (D.int (((D.str w::r).length:Nat):Int))=_;rw[length_cons];rfl
   have e2:cD [.lst (ss.map .str)]= .ok (.int (ss.length:Int)):=by show bA.ok (D.int (((ss.map D.str).length:Nat):Int))=_;rw[length_map]
   have e3:bN (.int (ss.length:Int)) (.int 1)= .ok (.int ((ss.length:Int)+1)):=rfl
   have e4:jS (.int ((r.length:Int)+1)) (.int ((ss.length:Int)+1))= .ok (.bl b):=by
    have:(((r.length:Int)+1)==((ss.length:Int)+1))=decide (r.length=ss.length):=by
     by_cases z:r.length=ss.length
     ·rw[z,decide_eq_true rfl];simp
     ·rw[decide_eq_false z]
      exact beq_eq_false_iff_ne.mpr bD
    subst hb
    rw[<-this]
    simp[jS,cV,fV]
   simp! [e1,e2,e3,e4]
  by_cases hn:r.length=ss.length
  ·rw[dD (hdn false (by rw[decide_eq_true hn];rfl)),decide_eq_true hn,Bool.true_and]
   have hz:bA7 @3 (pP @0 (pO .(1)) (pN)) #[.tup (.str w::r),.int a,.str w,.lst (ss.map .str),(),()]= .ok (R.pairD (ss.map .str) r):=by
    have hc:jN (D.str w::r) (some 1) none=r:=by
     unfold jN
     have e1:HT.sIx (D.str w::r).length 0 (some 1)=1:=by
      simp[HT.sIx]
     have e2:HT.sIx (D.str w::r).length (D.str w::r).length none=(D.str w::r).length:=by simp[HT.sIx]
     rw[e1,e2]
     simp
    simp[bA7,pP,pO,pN,cD3,gv,kc,bA.bind,dSl,hc,xZ]
   unfold bB bH7
   rw[hz]
   exact dI7 (.tup (.str w::r)) (.val (.str w)) (.val (.lst (ss.map .str))) hp ss r .no .no
  ·rw[fH (hdn true (by rw[decide_eq_false hn];rfl)),decide_eq_false hn,Bool.false_and]
   exact gP rfl
theorem dI8(n k:Nat)(a:Int)(d:D)(h:∀x,Ph n .q12 [x,.int a]= .ok (.bl (cE k x))):Ph (n+3) .q11 [d,.int a]= .ok (.bl (lT k d)):=by
 show((bS5 (Ph (n+2)) (Ph n)) #[d,.int a]).bind bL=_
 unfold bS5
 cases d with
 |tup xs=>
  rw[dD (by simp[dC,mT,m1,gv,bA.bind,fY,qF,lA])]
  refine gT ?_
  have hm:∀x,kQ a (mA (Ph n .q12) {@0,@1}) [x]= .ok (.bl (cE k x)):=fun x=>by
   show mA (Ph n .q12) {@0,@1} #[x,.int a]=_
   simp[mA,aC,bP,gv,bA.bind,h]
  have hr:hU (kQ a (mA (Ph n .q12) {@0,@1})) [.tup xs,.int (xs.length:Int)]= .ok (.bl (xs.all (cE k))):=by
   simp only[hU]
   rw[if_neg bD,bK4 hm]
  have hci:bP9 1 #[.tup xs,.int a]= .ok a:=rfl
  have hl:cD [.tup xs]= .ok (.int (xs.length:Int)):=rfl
  have e1:mA cD {@0} #[.tup xs,.int a]= .ok (.int (xs.length:Int)):=rfl
  unfold xW
  rw[e1,hci]
  show bA.bind (hU (kQ a (mA (Ph n .q12) {@0,@1})) [.tup xs,.int (xs.length:Int)]) xV=_
  rw[hr];rfl
 |_=>
  rw[fH (by simp[dC,mT,m1,gv,bA.bind,fY,qF,lA])]
  exact gP rfl
theorem gI0{d:D}(h:jH.lookup (fw d)≠none):∃w r,d= .tup (.str w::r):=by
 have h0:jH.lookup ("" :Str)=none:=by decide+kernel
 cases d with
 |tup xs=>
  cases xs with
  |nil=>exact absurd h0 h
  |cons x r=>
   cases x with
   |str w=>exact⟨w,r,rfl⟩
   |_=>exact absurd h0 h
 |_=>exact absurd h0 h
theorem dI9:∀(k n:Nat) (a:Int) (d:D),a+(k:Int)=13->Ph (n+5*k+10) .q12 [d,.int a]= .ok (.bl (cE k d))
 |0,n,a,d,h=>by
  show((bC6 (Ph (n+9)) (Ph (n+7))) #[d,.int a,(),(),(),()]).bind bL=_
  unfold bC6
  have h5:=bV7 (n+6) d
  have ha:(12:Int)<a:=by omega
  rw[mO (d:=.str (fw d)) (by simp[mA,aC,bP,gv,bA.bind,h5])]
  show(bB (bH _ _ bM) _ #[d,.int a,.str (fw d),(),(),()]).bind bL=_
  rw[fH (by simp[gO,mB,m1,m2,gv,kc,bA.bind,gS,dJ,gN,ha])]
  exact gP rfl
 |k+1,n,a,d,h=>by
  have e:n+5*(k+1)+10=(n+5*k+12)+3:=by omega
  rw[e]
  show((bC6 (Ph (n+5*k+14)) (Ph (n+5*k+12))) #[d,.int a,(),(),(),()]).bind bL=_
  have ha:a+1+(k:Int)=13:=by omega
  refine gH9 _ _ k a d bD (bV7 (n+5*k+11) d) (fun w ss hl=>gH7 (n+5*k+11) hl) (fun s x=>?_) gI0
  show((bS6 (Ph (n+5*k+13)) (Ph (n+5*k+11))) #[.str s,x,.int (a+1)]).bind bL=_
  refine gH8 _ _ k (a+1) s x (fun x=>qN (n+5*k+10) x) (fun x=>?_) (fun x=>?_) fun x=>?_
  ·have e2:n+5*k+13=(n+k+7)+4*k+6:=by omega
   rw[e2];exact bV8 k _ (a+1) x ha
  ·refine dH8 (n+5*k+10) k (a+1) x fun y=>?_
   have e2:n+5*k+10=(n+k+4)+4*k+6:=by omega
   rw[e2];exact bV8 k _ (a+1) y ha
  ·exact dI8 (n+5*k+10) k (a+1) x fun y=>dI9 k n (a+1) y ha
theorem dJ0(n:Nat)(d:D):Ph (n+79) .q10 [d]= .ok (.bl (lT 13 d)):=by
 show((cI7 (Ph (n+78)) (Ph (n+76))) #[d]).bind bL=_
 have h:Ph (n+78) .q11 [d,.int 0]= .ok (.bl (lT 13 d)):=dI8 (n+75) 13 0 d fun x=>dI9 13 n 0 x (by decide)
 unfold cI7
 exact gT (by simp[mA,aC,bP,gv,kc,bA.bind,h])
theorem pE(k:Nat)(x:D):dZ k "EXPRESSION" x=bK k x:=by show kK _ _ _ _ x=_;unfold kK;rw[show((ofString "EXPRESSION" ==ofString "WORD" ||ofString "EXPRESSION" ==ofString "DEED")=false) by decide+kernel,show((ofString "EXPRESSION" ==ofString "EXPRESSION")=true) by decide+kernel];rfl
theorem pB(k:Nat)(x:D):dZ k "BLOCK" x=lT k x:=by show kK _ _ _ _ x=_;unfold kK;rw[show((ofString "BLOCK" ==ofString "WORD" ||ofString "BLOCK" ==ofString "DEED")=false) by decide+kernel,show((ofString "BLOCK" ==ofString "EXPRESSION")=false) by decide+kernel,show((ofString "BLOCK" ==ofString "PARTS")=false) by decide+kernel];rfl
theorem pPs(k:Nat)(x:D):dZ k "PARTS" x=lS k x:=by show kK _ _ _ _ x=_;unfold kK;rw[show((ofString "PARTS" ==ofString "WORD" ||ofString "PARTS" ==ofString "DEED")=false) by decide+kernel,show((ofString "PARTS" ==ofString "EXPRESSION")=false) by decide+kernel,show((ofString "PARTS" ==ofString "PARTS")=true) by decide+kernel];rfl
theorem pW(k:Nat)(x:D):dZ k "WORD" x=bR x:=by show kK _ _ _ _ x=_;unfold kK;rw[show((ofString "WORD" ==ofString "WORD" ||ofString "WORD" ==ofString "DEED")=true) by decide+kernel];rfl
theorem pD(k:Nat)(x:D):dZ k "DEED" x=bR x:=by show kK _ _ _ _ x=_;unfold kK;rw[show((ofString "DEED" ==ofString "WORD" ||ofString "DEED" ==ofString "DEED")=true) by decide+kernel];rfl
section
variable{r:List D}
theorem gA{g:ME}{x y:Bool}(h1:f O= .ok (.bl x))(h2:x=true->g O= .ok (.bl y)):gR f g O= .ok (.bl (x&&y)):=by
 cases x with
 |true=>simp[gR,h1,h2 rfl,bA.bind,gN]
 |false=>simp[gR,h1,bA.bind,gN]
theorem cB{b:Bool}(q:f O= .ok (.bl b)):mB f O= .ok b:=by simp[mB,q,bA.bind,gN]
theorem cT{b:Bool}(q:f O= .ok (.bl b)):mT f O= .ok b:=by simp[mT,q,bA.bind,lA]
theorem cN{f:MT}{b:Bool}(q:f O= .ok b):dC f O= .ok (!b):=by simp[dC,q,bA.bind]
theorem cA{f g:MT}{x y:Bool}(q1:f O= .ok x)(q2:x=true->g O= .ok y):lN f g O= .ok (x&&y):=by
 cases x with
 |true=>simp[lN,q1,q2 rfl,bA.bind]
 |false=>simp[lN,q1,bA.bind]
theorem cO{f g:MT}{x y:Bool}(q1:f O= .ok x)(q2:x=false->g O= .ok y):gO f g O= .ok (x||y):=by
 cases x with
 |false=>simp[gO,q1,q2 rfl,bA.bind]
 |true=>simp[gO,q1,bA.bind]
theorem c2{m:D->D->bA D}{g:ME}{z:D}(h1:f O= .ok x)(h2:g O= .ok y)(h3:m x y= .ok z):m2 m f g O= .ok z:=by simp[m2,h1,h2,bA.bind,h3]
theorem a1{z:D}(h1:f O= .ok x)(h3:m [x]= .ok z):mA m (aC f (bP)) O= .ok z:=by simp[mA,aC,bP,h1,bA.bind,h3]
theorem a2{g:ME}{z:D}(h1:f O= .ok x)(h2:g O= .ok y)(h3:m [x,y]= .ok z):mA m (aC f (aC g (bP))) O= .ok z:=by simp[mA,aC,bP,h1,h2,bA.bind,h3]
theorem a3{g h:ME}{u z:D}(h1:f O= .ok x)(h2:g O= .ok y)(h2':h O= .ok u)(h3:m [x,y,u]= .ok z):mA m (aC f (aC g (aC h (bP)))) O= .ok z:=by simp[mA,aC,bP,h1,h2,h2',bA.bind,h3]
theorem a4{g h i:ME}{u v z:D}(h1:f O= .ok x)(h2:g O= .ok y)(h2':h O= .ok u)(h2'':i O= .ok v)(h3:m [x,y,u,v]= .ok z):mA m (aC f (aC g (aC h (aC i (bP))))) O= .ok z:=by simp[mA,aC,bP,h1,h2,h2',h2'',bA.bind,h3]
end
def fS(m:Nat):D->Bool
 | .tup xs=>decide (xs.length<=m)&&xs.all bR
 |_=>false
theorem cL4(n:Nat)(m:Nat)(d:D):Ph (n+6) .q5 [d,.int (m:Int)]= .ok (.bl (fS m d)):=by
 show((bS3 (Ph (n+5)) (Ph (n+3))) #[d,.int (m:Int)]).bind bL=_
 unfold bS3
 refine gT (a2 rfl rfl ?_)
 cases d with
 |tup xs=>
  simp only[hU]
  rw[bK4 fun x=>qN n x]
  by_cases h:xs.length<=m
  ·rw[if_neg bD];simp[fS,h]
  ·rw[if_pos bD];simp[fS,h]
 |_=>rfl
theorem bW0:∀{xs:List D},xs.all bR=true->∃zs:List Str,xs=zs.map .str
 | [],_=>⟨[],rfl⟩
 |x::r,h=>by
  rw[all_cons,and_eq_true]at h
  obtain⟨zs,rfl⟩:=bW0 h.2
  cases x with
  |str z=>exact⟨z::zs,rfl⟩
  |_=>cases h.1
noncomputable def kW:List Str->List Str->Bool
 |_,[]=>true
 |acc,z::r=> !(acc.any (· ==z))&&kW (acc++ [z]) r
theorem cL5:∀(zs acc:List Str),(zs.foldl nA acc).length<=acc.length+zs.length/\((zs.foldl nA acc).length=acc.length+zs.length ↔ kW acc zs=true)
 | [],acc=>by simp[kW]
 |z::r,acc=>by
  rw[List.foldl_cons,length_cons,kW]
  cases h:acc.any (· ==z)with
  |true=>
   obtain⟨h1,_⟩:=cL5 r acc
   rw[show nA acc z=acc by unfold nA;rw[if_pos h]]
   refine⟨by omega,⟨fun e=>by omega,fun e=>by simp at e⟩⟩
  |false=>
   obtain⟨h1,h2⟩:=cL5 r (acc++ [z])
   rw[show nA acc z=acc++ [z] by unfold nA;rw[if_neg (by rw[h];simp)]]
   simp only[length_append,length_cons,length_nil]at h1 h2
   refine⟨by omega,?_⟩
   rw[Bool.not_false,Bool.true_and, <-h2]
   constructor<;>intro e<;>omega
theorem gI1(zs:List Str):((sQ zs:Int)==(zs.length:Int))=kW [] zs:=by
 have h:=(cL5 zs []).2
 simp only[length_nil,Nat.zero_add]at h
 cases hn:kW [] zs with
 |true=>
  have:=h.mpr hn
  rw[show sQ zs=zs.length from this];simp
 |false=>
  refine beq_eq_false_iff_ne.mpr fun e=>?_
  have e':sQ zs=zs.length:=by omega
  have:=h.mp e'
  rw[hn]at this;cases this
theorem dJ2:∀(zs acc:List Str),kW acc zs=true ↔ ∀k,k<zs.length->((acc++zs).take (acc.length+k)).any (· ==zs.getD k "")=false
 | [],acc=>by simp[kW]
 |z::r,acc=>by
  rw[kW,and_eq_true,dJ2 r (acc++ [z])]
  have e:acc++z::r=acc++ [z]++r:=by simp
  constructor
  ·rintro⟨h1,h2⟩ k hk
   cases k with
   |zero=>simpa using h1
   |succ k=>
    have q:=h2 k (by simpa using hk)
    rw[e]
    have e2:acc.length+(k+1)=(acc++ [z]).length+k:=by simp;omega
    rw[e2]
    simpa using q
  ·intro h
   refine⟨by simpa using h 0 (by simp),fun k hk=>?_⟩
   have q:=h (k+1) (by simpa using hk)
   rw[e]at q
   have e2:acc.length+(k+1)=(acc++ [z]).length+k:=by simp;omega
   rw[e2]at q
   simpa using q
theorem bL1(zs:List Str):nW (zs.map .str)=some zs:=by
 induction zs with
 |nil=>rfl
 |cons z r ih=>rw[map_cons,nW,ih];rfl
theorem dJ3(n:Nat)(sq:List D->D)(hq:sq= .tup\/sq= .lst)(zs:List Str)(hz:zs.length<1000):Ph (n+3) .q6 [sq (zs.map .str)]= .ok (.bl (kW [] zs)):=by
 show((cI5 (Ph (n+2)) (Ph n)) #[sq (zs.map .str)]).bind bL=_
 unfold cI5
 have e0:bA8 (zs.map .str)= .ok (.int (sQ zs)):=by
  unfold bA8
  rw[bL1]
  show(if zs.length<1000 then _ else _)=_
  rw[if_pos hz]
 have e1:bA9 (sq (zs.map .str))= .ok (.int (sQ zs)):=by rcases hq with rfl|rfl<;>exact e0
 have e2:cD [sq (zs.map .str)]= .ok (.int (zs.length:Int)):=by rcases hq with rfl|rfl<;>(show bA.ok (D.int (((zs.map D.str).length:Nat):Int))=_;rw[length_map])
 refine gT (c2 (show m1 bA9 @0 _=bA.ok (D.int (sQ zs)) by simp[m1,gv,bA.bind,e1]) (a1 rfl e2) ?_)
 rw[rF,gI1]
theorem rng{i:Int}(h0:0<=i)(h1:i<=1000):vB (.int i)= .ok (upTo 0 i.toNat):=by
 show(if _ then _ else _)=_
 rw[if_pos ⟨by omega,by omega⟩]
theorem pC{p:MT}{g:ME}{ys:List D}(h1:fl O= .ok ds)(h2:ds.length<=sizeLine)(h3:dG p g (fJ js O) ds= .ok ys):kO js fl p g O= .ok (.lst ys):=by
 unfold kO
 rw[h1]
 show(if ds.length<=sizeLine then _ else _)=_
 rw[if_pos h2,h3];rfl
theorem pF(h1:f O= .ok x)(h2:vB x= .ok ds):jG f O= .ok ds:=by
 unfold jG
 rw[h1];exact h2
def cL6:D->D->Bool
 | .tup xs,.tup ys=>match nW (xs++ys)with
  |some zs=>kW [] zs
  |none=>false
 |_,_=>false
def mP:D->Bool
 | .tup [nm,p,o,b]=>bR nm&&(fS 4 p&&(fS 6 o&&(cL6 p o&&lT 13 b)))
 |_=>false
theorem gI2{p o:D}(hp:fS 4 p=true)(ho:fS 6 o=true):∃zs ys:List Str,p= .tup (zs.map .str)/\o= .tup (ys.map .str)/\zs.length<=4/\ys.length<=6:=by
 cases p with
 |tup xs=>
  cases o with
  |tup ys=>
   simp only[fS,and_eq_true,decide_eq_true_eq]at hp ho
   obtain⟨zs,rfl⟩:=bW0 hp.2
   obtain⟨us,rfl⟩:=bW0 ho.2
   simp only[length_map]at hp ho
   exact⟨zs,us,rfl,rfl,hp.1,ho.1⟩
  |_=>cases ho
 |_=>cases hp
theorem gI3(zs ys:List Str)(h1:zs.length<=4)(h2:ys.length<=6):bN (.tup (zs.map .str)) (.tup (ys.map .str))= .ok (.tup ((zs++ys).map .str)):=by
 have hs:=sizeLine_eq
 simp only[bN]
 rw[if_pos (by simp only[length_map];omega),map_append]
theorem dJ4(zs ys:List Str):cL6 (.tup (zs.map .str)) (.tup (ys.map .str))=kW [] (zs++ys):=by
 show(match nW (zs.map D.str++ys.map D.str)with|some zs=>kW [] zs|none=>false)=_
 rw[<-map_append,bL1]
section
variable{nm p o b:D}
theorem bW1(i:Nat)(x:D)(h: [nm,p,o,b][i]? =some x):bS (.tup [nm,p,o,b]) (.int (i:Int))= .ok x:=by
 have e:fP [nm,p,o,b] (i:Int)=some x:=zR h
 simp only[bS,e]
end
theorem gI4(C C':CT)(d:D)(h3:∀d m,C .q3 [d,.int m]= .ok (.bl (cY m d)))(h2:∀x,C .q2 [x]= .ok (.bl (bR x)))(hn:∀(m:Nat) x,C .q5 [x,.int (m:Int)]= .ok (.bl (fS m x)))
 (hu:∀zs:List Str,zs.length<1000->C .q6 [.tup (zs.map .str)]= .ok (.bl (kW [] zs))) (hb:∀x,C .q10 [x]= .ok (.bl (lT 13 x))):((bS7 C C') #[d]).bind bL= .ok (.bl (mP d)):=by
 have g0:gv 0 #[d]= .ok d:=rfl
 have r4:mA (C .q3) {@0,.(4)} #[d]= .ok (.bl (cY 4 d)):=a2 g0 rfl (h3 d 4)
 unfold bS7
 cases hr:cY 4 d with
 |false=>
  rw[hr]at r4
  have e:mP d=false:=by
   cases d with
   |tup xs=>
    match xs,hr with
    | [],_=>rfl
    | [_],_=>rfl
    | [_,_],_=>rfl
    | [_,_,_],_=>rfl
    | [_,_,_,_],hr=>simp[cY]at hr
    |_::_::_::_::_::_,_=>rfl
   |_=>rfl
  rw[e,fH (show _=bA.ok (!false||false)from cO (cN (cT r4)) fun z=>by cases z)]
  exact gP rfl
 |true=>
  rw[hr]at r4
  obtain⟨nm,p,o,b,rfl⟩:∃nm p o b,d= .tup [nm,p,o,b]:=by
   cases d with
   |tup xs=>
    match xs,hr with
    | [nm,p,o,b],_=>exact⟨nm,p,o,b,rfl⟩
    | [],hr=>simp[cY]at hr
    | [_],hr=>simp[cY]at hr
    | [_,_],hr=>simp[cY]at hr
    | [_,_,_],hr=>simp[cY]at hr
    |_::_::_::_::_::r,hr=>simp[cY]at hr;omega
   |_=>cases hr
  have i0:m2 bS @0 .(0) #[.tup [nm,p,o,b]]= .ok nm:=c2 g0 rfl (bW1 0 nm rfl)
  have i1:m2 bS @0 .(1) #[.tup [nm,p,o,b]]= .ok p:=c2 g0 rfl (bW1 1 p rfl)
  have i2:m2 bS @0 .(2) #[.tup [nm,p,o,b]]= .ok o:=c2 g0 rfl (bW1 2 o rfl)
  have i3:m2 bS @0 .(3) #[.tup [nm,p,o,b]]= .ok b:=c2 g0 rfl (bW1 3 b rfl)
  have q0:=cO (cN (cT r4)) fun _=>cN (cT (a1 i0 (h2 nm)))
  have q1:=cO (cN (cT (a2 i1 (show kc bS1 _=bA.ok (D.int ((4:Nat):Int))from rfl) (hn 4 p)))) fun _=>cN (cT (a2 i2 (show kc cH9 _=bA.ok (D.int ((6:Nat):Int))from rfl) (hn 6 o)))
  show _=bA.ok (D.bl (bR nm&&(fS 4 p&&(fS 6 o&&(cL6 p o&&lT 13 b)))))
  cases c0:bR nm with
  |false=>
   rw[c0]at q0
   rw[fH q0]
   exact gP rfl
  |true=>
   rw[c0]at q0
   rw[dD q0]
   cases c1:fS 4 p with
   |false=>
    rw[c1]at q1
    rw[fH (show _=bA.ok true from q1)]
    exact gP rfl
   |true=>
    cases c3:fS 6 o with
    |false=>
     rw[c1,c3]at q1
     rw[fH (show _=bA.ok true from q1)]
     exact gP rfl
    |true=>
     rw[c1,c3]at q1
     rw[dD (show _=bA.ok false from q1)]
     obtain⟨zs,ys,rfl,rfl,l1,l2⟩:=gI2 c1 c3
     rw[dJ4,Bool.true_and,Bool.true_and,Bool.true_and]
     exact gT (gA (a1 (c2 i1 i2 (gI3 zs ys l1 l2)) (hu _ (by rw[length_append];omega))) fun _=>a1 i3 (hb b))
theorem gI5(n:Nat)(d:D):Ph (n+80) .q15 [d]= .ok (.bl (mP d)):=by
 show((bS7 (Ph (n+79)) (Ph (n+77))) #[d]).bind bL=_
 exact gI4 _ _ d (fun d m=>bD3 (n+76) d m) (fun x=>qN (n+76) x) (fun m x=>cL4 (n+73) m x) (fun zs hz=>dJ3 (n+76) _ (.inl rfl) zs hz) fun x=>dJ0 n x
noncomputable def VS:Nat->Nat
 |0=>390
 |k+1=>2*(5*VS k+2)+376
def V:Nat->Nat
 |0=>9|1=>20|2=>52|3=>90|4=>350|5=>365
 |m+6=>if m%2=0 then VS (m/2)else 5*VS (m/2)+2
theorem V_S(k:Nat):V (6+2*k)=VS k:=by
 rw[show 6+2*k=2*k+6 by omega]
 show(if 2*k%2=0 then VS (2*k/2)else _)=_
 rw[if_pos bD,show 2*k/2=k by omega]
theorem V_B(k:Nat):V (7+2*k)=5*VS k+2:=by
 rw[show 7+2*k=(2*k+1)+6 by omega]
 show(if(2*k+1)%2=0 then _ else 5*VS ((2*k+1)/2)+2)=_
 rw[if_neg bD,show(2*k+1)/2=k by omega]
theorem bW2(k:Nat):V (7+2*k+1)=2*(5*VS k+2)+376:=by rw[show 7+2*k+1=6+2*(k+1) by omega,V_S];rfl
theorem gI6(m:Nat):V m<=V (m+1):=by
 rcases Nat.lt_or_ge m 6 with h|h
 ·match m,h with
  |0,_=>decide
  |1,_=>decide
  |2,_=>decide
  |3,_=>decide
  |4,_=>decide
  |5,_=>decide
 ·obtain⟨k,h|h⟩:∃k,m=6+2*k\/m=7+2*k:=⟨(m-6)/2,by omega⟩
  ·subst h;rw[show 6+2*k+1=7+2*k by omega,V_S,V_B];omega
  ·subst h;rw[bW2,V_B];omega
theorem bW3:∀{j:Nat},i<=j->V i<=V j
 |0,h=>by rw[show i=0 by omega];exact le_refl _
 |j+1,h=>by
  rcases Nat.lt_or_ge j i with q|q
  ·rw[show i=j+1 by omega];exact le_refl _
  ·exact le_trans (bW3 q) (gI6 j)
def Gd(m:Nat)(d:D):Prop:=gd d=true/\cV d<=m/\wt d<=V m
def Ex{α:Type}(r:bA α)(P:α->Prop):Prop:=∃d,r= .ok d/\P d
def jD(r:bA Fl)(P:D->Prop):Prop:=∃d,r.bind bL= .ok d/\P d
section
variable{g:ME}{fa:MA}{c:MT}{B R:MS}{P Q:D->Prop}{m s:Nat}{b:Bool}
theorem Gd.mono{d:D}(h:Gd m d)(hj:m<=j):Gd j d:=⟨h.1,le_trans h.2.1 hj,le_trans h.2.2 (bW3 hj)⟩
theorem wR(h:Ex (f O) P):jD (bG f O) P:=let ⟨d,e,p⟩:=h;⟨d,gT e,p⟩
theorem mQ(h:Ex (f O) P):jD (bB (bG f) R O) P:=let ⟨d,e,p⟩:=h;⟨d,gP e,p⟩
theorem gK(h:Ex (f O) P)(k:∀d,P d->jD (R (O.set i (.val d))) Q):jD (bB (bU i f) R O) Q:=by
 obtain⟨d,e,p⟩:=h
 obtain⟨d',e',p'⟩:=k d p
 exact⟨d',by rw[mO e];exact e',p'⟩
theorem mR(h:c O= .ok b)(h1:b=true->jD (bB A R O) P)(h2:b=false->jD (R O) P):jD (bB (bH c A bM) R O) P:=by
 cases b with
 |true=>obtain⟨d,e,p⟩:=h1 rfl;exact⟨d,by rw[fH h];exact e,p⟩
 |false=>obtain⟨d,e,p⟩:=h2 rfl;exact⟨d,by rw[dD h];exact e,p⟩
theorem bD5(h:jD (bB A (bB B R) O) P):jD (bB (bB A B) R O) P:=by
 obtain⟨d,e,p⟩:=h
 exact⟨d,by rw[bK9];exact e,p⟩
theorem bD6(h:z.length<=8):Gd m (.str z):=⟨by simp only[gd];exact decide_eq_true bD,by simp[cV],by have:=bW3 (zero_le m);have e:V 0=9:=rfl;simp only[wt];omega⟩
theorem bW4(h:v.natAbs<=1000000):Gd m (.int v):=⟨by simp only[gd];exact decide_eq_true bD,by simp[cV],by have:=bW3 (zero_le m);have e:V 0=9:=rfl;simp only[wt];omega⟩
end
theorem bW5(h:gv i O= .ok (.lst xs)):mA cD {(gv i)} O= .ok (.int (xs.length:Int)):=a1 h rfl
theorem yP(h:gv i O= .ok (.lst xs))(hf:f O= .ok (.int v))(h0:0<xs.length):∃x,m2 bS (gv i) (m2 bY f (mA cD {(gv i)})) O= .ok x/\x∈xs:=by
 obtain⟨x,ex,mx⟩:=gH0 (xs:=xs) (i:=v) h0
 obtain⟨L,hL⟩:∃L:Int,(xs.length:Int)=L:=⟨_,rfl⟩
 have hl:=bW5 h
 rw[hL]at ex hl
 have hm:bY (.int v) (.int L)= .ok (.int (v%L)):=by
  have:0<L:=by omega
  simp[bY,dI,this]
 refine⟨x,c2 h (c2 hf hl hm) ?_,mx⟩
 simp only[bS,ex]
theorem lE(k:Int)(hk:0<k/\k<1073741824)(h:gv i O= .ok (.int v)):m2 dR (gv i) (kc (.int k)) O= .ok (.int (v/k)):=c2 h rfl (by simp[dR,dI,hk])
theorem jI(k:Int)(hk:0<k)(h:f O= .ok (.int v)):m2 bY f (kc (.int k)) O= .ok (.int (v%k)):=c2 h rfl (by simp[bY,dI,hk])
theorem ltv(k:Int)(h:f O= .ok (.int v)):mB (m2 nR f (kc (.int k))) O= .ok (decide (v<k)):=cB (c2 h rfl rfl)
theorem gtv(k:Int)(h:f O= .ok (.int v)):mB (m2 dJ f (kc (.int k))) O= .ok (decide (k<v)):=cB (c2 h rfl rfl)
theorem pG(k:Int)(h:f O= .ok (.int v)):mB (m2 cI f (kc (.int k))) O= .ok (v==k):=cB (c2 h rfl (rF v k))
section
variable(C C':CT)(ns es ps:List D)
theorem gI7(h:∀x∈xs,Gd k x)(hl:xs.length<=40)(hv:xs.length*V k+2<=V (k+1)):Gd (k+1) (.tup xs):=by
 refine⟨?_,?_,?_⟩
 ·simp only[gd,and_eq_true,decide_eq_true_eq]
  exact⟨hl,bK6 fun x hx=>(h x hx).1⟩
 ·have:=bK7 fun x hx=>(h x hx).2.1
  simp only[cV];omega
 ·have:=rG fun x hx=>(h x hx).2.2
  simp only[wt];omega
theorem blk{m:Nat}(hl:xs.length<=5)(h:∀x∈xs,Gd (6+2*m) x):Gd (7+2*m) (.tup xs):=by
 have e7:7+2*m=(6+2*m)+1:=by omega
 have hb:=V_B m
 rw[e7]at hb ⊢
 refine gI7 h bD ?_
 have:=Nat.mul_le_mul_right (VS m) hl
 rw[hb,V_S];omega
end
def dJ5(x:D):Prop:=∃(z:Str) (i:Int),x= .tup [.str z,.int i]/\z.length<=8/\0<=i/\i<=4
theorem nG(x y:D):bJ [x,y]= .ok (.tup [x,y]):=by
 have hs:=sizeLine_eq
 unfold bJ;rw[if_pos (by show 2<=sizeLine;omega)]
theorem dJ6{u:ME}{e:Int}(h1:f O= .ok (.tup xs))(h2:u O= .ok (.int e)):pP f (pN) (pO u) O= .ok (.tup (jN xs none (some e))):=by
 simp[pP,pN,pO,h1,h2,bA.bind,cD3,dSl]
section
variable(C C':CT)
def gI8(d:D):Prop:=∃(z:Str) (ps os bs:List D),d= .tup [.str z,.tup ps,.tup os,.tup bs]/\z.length<=8/\(∀y∈ps,∃z:Str,y= .str z/\z.length<=8)/\ps.length<=4/\(∀y∈os,∃z:Str,y= .str z/\z.length<=8)/\os.length<=6/\bs.length<=4/\ ∀y∈bs,Gd 10 y
noncomputable def yQ:D:=.tup [.int 0,.int 1,.int 2,.int 3,.int 4,.int 5]
noncomputable def yR:D:=.tup [.int 20,.int 21,.int 22,.int 23,.int 24,.int 6]
end
theorem cL9{m:Nat}{d:D}(h:cY (m:Int) d=true):∃xs,d= .tup xs/\xs.length=m:=by
 cases d with
 |tup xs=>exact⟨xs,rfl,by have:=of_decide_eq_true h;omega⟩
 |_=>cases h
theorem dJ7{d:D}(h:cY 2 d=true):∃a b,d= .tup [a,b]:=by
 obtain⟨xs,rfl,hl⟩:=cL9 (m:=2) h
 match xs,hl with
 | [a,b],_=>exact⟨a,b,rfl⟩
theorem gI9{d:D}(h:cY 3 d=true):∃a b c,d= .tup [a,b,c]:=by
 obtain⟨xs,rfl,hl⟩:=cL9 (m:=3) h
 match xs,hl with
 | [a,b,c],_=>exact⟨a,b,c,rfl⟩
theorem gJ0{d:D}(h:cY 5 d=true):∃a b c e f,d= .tup [a,b,c,e,f]:=by
 obtain⟨xs,rfl,hl⟩:=cL9 (m:=5) h
 match xs,hl with
 | [a,b,c,e,f],_=>exact⟨a,b,c,e,f,rfl⟩
theorem gU(i:Nat)(x:D)(h:xs[i]? =some x):bS (.tup xs) (.int (i:Int))= .ok x:=by
 have e:fP xs (i:Int)=some x:=zR h
 simp only[bS,e]
noncomputable def lF(m:Nat)(p:D->Bool):D->Bool
 | .tup xs=>decide (xs.length<=m)&&xs.all p
 |_=>false
theorem cM0{f:List D->bA D}(h:∀x,f [x]= .ok (.bl (p x)))(m:Nat)(d:D):hU f [d,.int (m:Int)]= .ok (.bl (lF m p d)):=by
 cases d with
 |tup xs=>
  simp only[hU]
  rw[bK4 h]
  by_cases hm:xs.length<=m
  ·rw[if_neg bD];simp[lF,hm]
  ·rw[if_pos bD];simp[lF,hm]
 |_=>rfl
theorem bW6{m:Nat}{d:D}(h:lF m p d=true):∃ds,d= .tup ds/\ds.length<=m/\ds.all p=true:=by
 cases d with
 |tup ds=>
  simp only[lF,and_eq_true,decide_eq_true_eq]at h
  exact⟨ds,rfl,h⟩
 |_=>cases h
theorem dJ8{m:Nat}{d:D}(h:fS m d=true):∃zs:List Str,d= .tup (zs.map .str)/\zs.length<=m:=by
 cases d with
 |tup xs=>
  simp only[fS,and_eq_true,decide_eq_true_eq]at h
  obtain⟨zs,rfl⟩:=bW0 h.2
  rw[length_map]at h
  exact⟨zs,rfl,h.1⟩
 |_=>cases h
def mS:D->Bool
 | .tup [nm,.int i]=>bR nm&&(decide (0<=i)&&decide (i<=4))
 |_=>false
def kL:D->Bool
 | .tup [a,b]=>bR a&&bR b
 |_=>false
theorem dJ9{d:D}(h:cY 2 d=false):mS d=false/\kL d=false:=by
 cases d with
 |tup xs=>
  match xs,h with
  | [],_=>exact⟨rfl,rfl⟩
  | [_],_=>exact⟨rfl,rfl⟩
  | [_,_],h=>simp[cY]at h
  |_::b::_::_,_=>cases b<;>exact⟨rfl,rfl⟩
 |_=>exact⟨rfl,rfl⟩
noncomputable def headD:D->D
 | .tup (x::_)=>x
 |_=>.non
def cM1:D->D->Bool
 | .tup ws,.tup ds=>match nW (ws++ds.map headD)with
  |some zs=>kW [] zs
  |none=>false
 |_,_=>false
def jW:D->Bool
 | .tup [nm,w,t]=>bR nm&&(fS 6 w&&(lF 6 mS t&&cM1 w t))
 |_=>false
def lU:D->Bool
 | .tup [nm,t,w,ds,b]=>bR nm&&(fS 6 w&&(lF 8 kL t&&(lF 6 mP ds&&lT 13 b)))
 |_=>false
theorem gJ1{d:D}(h:cY 3 d=false):jW d=false:=by
 cases d with
 |tup xs=>
  match xs,h with
  | [],_=>rfl
  | [_],_=>rfl
  | [_,_],_=>rfl
  | [_,_,_],h=>simp[cY]at h
  |_::_::_::_::_,_=>rfl
 |_=>rfl
theorem gJ2{d:D}(h:cY 5 d=false):lU d=false:=by
 cases d with
 |tup xs=>
  match xs,h with
  | [],_=>rfl
  | [_],_=>rfl
  | [_,_],_=>rfl
  | [_,_,_],_=>rfl
  | [_,_,_,_],_=>rfl
  | [_,_,_,_,_],h=>simp[cY]at h
  |_::_::_::_::_::_::_,_=>rfl
 |_=>rfl
theorem bW7{d:D}(h:mS d=true):∃z i,d= .tup [.str z,.int i]/\bR (.str z)=true/\0<=i/\i<=4:=by
 unfold mS at h
 split at h
 ·rename_i nm i
  rw[and_eq_true,and_eq_true,decide_eq_true_eq,decide_eq_true_eq]at h
  cases nm with
  |str z=>exact⟨z,i,rfl,h⟩
  |_=>cases h.1
 ·cases h
theorem dK0:∀ds:List D,ds.all mS=true->∃ys:List Str,ds.map headD=ys.map .str
 | [],_=>⟨[],rfl⟩
 |d::r,h=>by
  rw[all_cons,and_eq_true]at h
  obtain⟨z,i,rfl,_⟩:=bW7 h.1
  obtain⟨ys,e⟩:=dK0 r h.2
  exact⟨z::ys,by rw[map_cons,e];rfl⟩
theorem dK1:∀ds:List D,ds.all mS=true->dG (fun _=>.ok true) (0^^^0) [] ds= .ok (ds.map headD)
 | [],_=>rfl
 |d::r,h=>by
  rw[all_cons,and_eq_true]at h
  obtain⟨z,i,rfl,_⟩:=bW7 h.1
  have e0:m2 bS @0 .(0) #[.tup [.str z,.int i]]= .ok (.str z):=c2 rfl rfl (gU 0 _ rfl)
  rw[dG]
  simp only[jL,if_true,e0,dK1 r h.2];rfl
theorem dK2(zs:List Str){ys:List Str}(e:ds.map headD=ys.map .str):cM1 (.tup (zs.map .str)) (.tup ds)=kW [] (zs++ys):=by
 show(match nW (zs.map D.str++ds.map headD)with|some zs=>kW [] zs|none=>false)=_
 rw[e, <-map_append,bL1]
theorem tJ(h:f O= .ok (.tup xs)):dP f O= .ok xs:=by unfold dP;rw[h];rfl
theorem gJ3{i:Int}(h:f O= .ok (.int i)):dS cP cP .(0) f .(4) O= .ok (.bl (decide (0<=i)&&decide (i<=4))):=by
 by_cases h0:0<=i
 ·simp[dS,kc,h,bA.bind,cP,gN,h0]
 ·simp[dS,kc,h,bA.bind,cP,gN,h0]
theorem gJ4(n:Nat)(d:D):Ph (n+6) .q17 [d]= .ok (.bl (mS d)):=by
 show((cI8 (Ph (n+5)) (Ph (n+3))) #[d]).bind bL=_
 unfold cI8
 have r2:mA (Ph (n+5) .q3) {@0,.(2)} #[d]= .ok (.bl (cY 2 d)):=a2 rfl rfl (bD3 (n+2) d 2)
 cases hr:cY 2 d with
 |false=>
  rw[hr]at r2
  rw[(dJ9 hr).1]
  exact gT (show _=bA.ok (D.bl (false&&false))from gA r2 fun z=>by cases z)
 |true=>
  rw[hr]at r2
  obtain⟨a,b,rfl⟩:=dJ7 hr
  have i0:m2 bS @0 .(0) #[.tup [a,b]]= .ok a:=c2 rfl rfl (gU 0 a rfl)
  have i1:m2 bS @0 .(1) #[.tup [a,b]]= .ok b:=c2 rfl rfl (gU 1 b rfl)
  have w1:=a1 (m:=Ph (n+5) .q0) i1 (dH7 (n+2) b)
  cases b with
  |int i=>exact gT (show _=bA.ok (D.bl (true&&(bR a&&(true&&(decide (0<=i)&&decide (i<=4))))))from gA r2 fun _=>gA (a1 i0 (qN (n+2) a)) fun _=>gA w1 fun _=>gJ3 i1)
  |_=>exact(gT (gA r2 fun _=>gA (a1 i0 (qN (n+2) a)) fun _=>gA (y:=false) w1 fun z=>by simp at z)).trans (by simp[mS])
theorem gJ5(n:Nat)(d:D):Ph (n+6) .q19 [d]= .ok (.bl (kL d)):=by
 show((cI9 (Ph (n+5)) (Ph (n+3))) #[d]).bind bL=_
 unfold cI9
 have r2:mA (Ph (n+5) .q3) {@0,.(2)} #[d]= .ok (.bl (cY 2 d)):=a2 rfl rfl (bD3 (n+2) d 2)
 cases hr:cY 2 d with
 |false=>
  rw[hr]at r2
  rw[(dJ9 hr).2]
  exact gT (show _=bA.ok (D.bl (false&&false))from gA r2 fun z=>by cases z)
 |true=>
  rw[hr]at r2
  obtain⟨a,b,rfl⟩:=dJ7 hr
  exact gT (show _=bA.ok (D.bl (true&&(bR a&&bR b)))from gA r2 fun _=>gA (a1 (c2 rfl rfl (gU 0 a rfl)) (qN (n+2) a)) fun _=>a1 (c2 rfl rfl (gU 1 b rfl)) (qN (n+2) b))
section
variable(C C':CT)(d:D)
theorem gJ6(h3:∀d m,C .q3 [d,.int m]= .ok (.bl (cY m d)))(h2:∀x,C .q2 [x]= .ok (.bl (bR x)))(hn:∀(m:Nat) x,C .q5 [x,.int (m:Int)]= .ok (.bl (fS m x)))
 (ht:∀x,C' .q17 [x]= .ok (.bl (mS x))) (hu:∀zs:List Str,zs.length<1000->C .q6 [.lst (zs.map .str)]= .ok (.bl (kW [] zs))):((bJ2 C C') #[d]).bind bL= .ok (.bl (jW d)):=by
 have hs:=sizeLine_eq
 have r3:mA (C .q3) {@0,.(3)} #[d]= .ok (.bl (cY 3 d)):=a2 rfl rfl (h3 d 3)
 unfold bJ2
 cases hr:cY 3 d with
 |false=>
  rw[hr]at r3
  rw[gJ1 hr,fH (show _=bA.ok (!false||false)from cO (cN (cT r3)) fun z=>by cases z)]
  exact gP rfl
 |true=>
  rw[hr]at r3
  obtain⟨nm,w,t,rfl⟩:=gI9 hr
  have i0:m2 bS @0 .(0) #[.tup [nm,w,t]]= .ok nm:=c2 rfl rfl (gU 0 nm rfl)
  have i1:m2 bS @0 .(1) #[.tup [nm,w,t]]= .ok w:=c2 rfl rfl (gU 1 w rfl)
  have i2:m2 bS @0 .(2) #[.tup [nm,w,t]]= .ok t:=c2 rfl rfl (gU 2 t rfl)
  have q0:=cO (cN (cT r3)) fun _=>cN (cT (a1 i0 (h2 nm)))
  have q1:=cO (cN (cT (a2 i1 (show kc bJ1 _=bA.ok (D.int ((6:Nat):Int))from rfl) (hn 6 w)))) fun _=>cN (cT (a2 i2 (show kc bJ0 _=bA.ok (D.int ((6:Nat):Int))from rfl) (cM0 ht 6 t)))
  show _=bA.ok (D.bl (bR nm&&(fS 6 w&&(lF 6 mS t&&cM1 w t))))
  cases c0:bR nm with
  |false=>
   rw[c0]at q0
   rw[fH q0]
   exact gP rfl
  |true=>
   rw[c0]at q0
   rw[dD q0]
   cases c1:fS 6 w with
   |false=>
    rw[c1]at q1
    rw[fH (show _=bA.ok true from q1)]
    exact gP rfl
   |true=>
    cases c3:lF 6 mS t with
    |false=>
     rw[c1,c3]at q1
     rw[fH (show _=bA.ok true from q1)]
     exact gP rfl
    |true=>
     rw[c1,c3]at q1
     rw[dD (show _=bA.ok false from q1)]
     obtain⟨zs,rfl,lz⟩:=dJ8 c1
     obtain⟨ds,rfl,ld,ad⟩:=bW6 c3
     obtain⟨ys,ey⟩:=dK0 ds ad
     have ly:ys.length=ds.length:=by have:=congrArg List.length ey;simpa using this.symm
     rw[dK2 zs ey,Bool.true_and,Bool.true_and,Bool.true_and]
     have hc:kO [] (dP (0^^^2)) (fun _=>.ok true) (0^^^0) #[.tup [nm,.tup (zs.map .str),.tup ds]]= .ok (.lst (ys.map .str)):=pC (tJ i2) bD (by rw[<-ey];exact dK1 ds ad)
     have ha:bN (.lst (zs.map .str)) (.lst (ys.map .str))= .ok (.lst ((zs++ys).map .str)):=by
      simp only[bN]
      rw[if_pos (by simp only[length_map];omega),map_append]
     exact gT (a1 (c2 (a1 i1 rfl) hc ha) (hu _ (by rw[length_append];omega)))
theorem gJ7(h3:∀d m,C .q3 [d,.int m]= .ok (.bl (cY m d)))(h2:∀x,C .q2 [x]= .ok (.bl (bR x)))(hn:∀(m:Nat) x,C .q5 [x,.int (m:Int)]= .ok (.bl (fS m x)))
 (ht:∀x,C' .q19 [x]= .ok (.bl (kL x))) (he:∀x,C' .q15 [x]= .ok (.bl (mP x))) (hb:∀x,C .q10 [x]= .ok (.bl (lT 13 x))):((bJ3 C C') #[d]).bind bL= .ok (.bl (lU d)):=by
 have r5:mA (C .q3) {@0,.(5)} #[d]= .ok (.bl (cY 5 d)):=a2 rfl rfl (h3 d 5)
 unfold bJ3
 cases hr:cY 5 d with
 |false=>
  rw[hr]at r5
  rw[gJ2 hr,fH (show _=bA.ok (!false||false)from cO (cN (cT r5)) fun z=>by cases z)]
  exact gP rfl
 |true=>
  rw[hr]at r5
  obtain⟨nm,t,w,ds,b,rfl⟩:=gJ0 hr
  have ix:∀(i:Nat) (j:Int) (x:D),[nm,t,w,ds,b][i]? =some x->j=(i:Int)->m2 bS @0 (kc (.int j)) #[.tup [nm,t,w,ds,b]]= .ok x:=fun i j x h e=>by rw[e];exact c2 rfl rfl (gU i x h)
  have q0:=cO (cN (cT r5)) fun _=>cN (cT (a1 (ix 0 0 nm rfl rfl) (h2 nm)))
  have q1:=cO (cN (cT (a2 (ix 1 1 t rfl rfl) (show kc cI0 _=bA.ok (D.int ((8:Nat):Int))from rfl) (cM0 ht 8 t)))) fun _=>cN (cT (a2 (ix 2 2 w rfl rfl) (show kc bJ1 _=bA.ok (D.int ((6:Nat):Int))from rfl) (hn 6 w)))
  show _=bA.ok (D.bl (bR nm&&(fS 6 w&&(lF 8 kL t&&(lF 6 mP ds&&lT 13 b)))))
  cases c0:bR nm with
  |false=>
   rw[c0]at q0
   rw[fH q0]
   exact gP rfl
  |true=>
   rw[c0]at q0
   rw[dD q0]
   cases c3:lF 8 kL t with
   |false=>
    rw[c3]at q1
    rw[fH (show _=bA.ok true from q1),Bool.false_and,Bool.and_false]
    exact gP rfl
   |true=>
    cases c1:fS 6 w with
    |false=>
     rw[c1,c3]at q1
     rw[fH (show _=bA.ok true from q1)]
     exact gP rfl
    |true=>
     rw[c1,c3]at q1
     rw[dD (show _=bA.ok false from q1),Bool.true_and,Bool.true_and,Bool.true_and]
     exact gT (gA (a2 (ix 3 3 ds rfl rfl) (show kc bJ0 _=bA.ok (D.int ((6:Nat):Int))from rfl) (cM0 he 6 ds)) fun _=>a1 (ix 4 4 b rfl rfl) (hb b))
theorem gQ{R:MS}{ρ':cU}(h:A O= .ok (.nx ρ')):bB A R O=R ρ':=by
 unfold bB
 rw[h];rfl
theorem qO{body:MS}(h:fl O= .ok ds):gH i fl body O=gG i body ds O:=by
 unfold gH
 rw[h];rfl
end
theorem dK3(n:Nat)(d:D):Ph (n+12) .q16 [d]= .ok (.bl (jW d)):=by
 show((bJ2 (Ph (n+11)) (Ph (n+9))) #[d]).bind bL=_
 exact gJ6 _ _ d (fun d m=>bD3 (n+8) d m) (fun x=>qN (n+8) x) (fun m x=>cL4 (n+5) m x) (fun x=>gJ4 (n+3) x) fun zs hz=>dJ3 (n+8) _ (.inr rfl) zs hz
theorem dK4(n:Nat)(d:D):Ph (n+83) .q18 [d]= .ok (.bl (lU d)):=by
 show((bJ3 (Ph (n+82)) (Ph (n+80))) #[d]).bind bL=_
 exact gJ7 _ _ d (fun d m=>bD3 (n+79) d m) (fun x=>qN (n+79) x) (fun m x=>cL4 (n+76) m x) (fun x=>gJ5 (n+74) x) (fun x=>gI5 n x) fun x=>dJ0 (n+3) x
def dK5(xs:List D)(m:Nat):Prop:=(∀y∈xs,∃z:Str,y= .str z/\z.length<=8)/\xs.length<=m
theorem rH{P:D->Prop}{a b:D}(ha:P a)(hb:P b):∀x∈ [a,b],P x:=fun x hx=>by
 rcases List.mem_cons.mp hx with rfl|hx
 ·exact ha
 ·rw[List.mem_singleton.mp hx];exact hb
theorem pH{P:D->Prop}{a:D}{r:List D}(ha:P a)(hr:∀x∈r,P x):∀x∈a::r,P x:=fun x hx=>by
 rcases List.mem_cons.mp hx with rfl|hx
 ·exact ha
 ·exact hr x hx
theorem lV(x y z:D):bJ [x,y,z]= .ok (.tup [x,y,z]):=by
 have hs:=sizeLine_eq
 unfold bJ;rw[if_pos (by show 3<=sizeLine;omega)]
theorem cM2(x y z u v:D):bJ [x,y,z,u,v]= .ok (.tup [x,y,z,u,v]):=by
 have hs:=sizeLine_eq
 unfold bJ;rw[if_pos (by show 5<=sizeLine;omega)]
theorem a5{f1 f2 f3 f4 f5:ME}{x1 x2 x3 x4 x5 z:D}(h1:f1 O= .ok x1)(h2:f2 O= .ok x2)(h3:f3 O= .ok x3)(h4:f4 O= .ok x4)(h5:f5 O= .ok x5)(h:m [x1,x2,x3,x4,x5]= .ok z):mA m (aC f1 (aC f2 (aC f3 (aC f4 (aC f5 (bP)))))) O= .ok z:=by
 simp[mA,aC,bP,h1,h2,h3,h4,h5,h,bA.bind]
theorem cM3{ys:List D}(h:xs.length+ys.length<=1000):bN (.tup xs) (.tup ys)= .ok (.tup (xs++ys)):=by
 have hs:=sizeLine_eq
 simp only[bN];rw[if_pos bD]
theorem md5(v:Int):0<=v%5/\v%5<=4:=by omega
def gJ8(d:D):Prop:=∃(z:Str) (ws ds:List D),d= .tup [.str z,.tup ws,.tup ds]/\z.length<=8/\dK5 ws 6/\(∀y∈ds,dJ5 y)/\ds.length<=6
theorem dK7:∀{as bs:List D},x∈R.pairD as bs->∃a b,a∈as/\b∈bs/\x= .tup [a,b]
 | [],_,h=>by simp[R.pairD]at h
 |_::_,[],h=>by simp[R.pairD]at h
 |a::as,b::bs,h=>by
  have h':x∈D.tup [a,b]::R.pairD as bs:=h
  rcases List.mem_cons.mp h' with rfl|h'
  ·exact⟨a,b,mem_cons_self,mem_cons_self,rfl⟩
  ·obtain⟨c,e,h1,h2,h3⟩:=dK7 h'
   exact⟨c,e,mem_cons_of_mem _ h1,mem_cons_of_mem _ h2,h3⟩
theorem dK8{g:ME}{Pd:D->Prop}:∀xs:List D,(∀x∈xs,∃a b d,x= .tup [a,b]/\g (.val a:: .val b::rest)= .ok d/\Pd d)->∃ys,dG (kG (fun _=>.ok true)) (kG g) rest xs= .ok ys/\ys.length=xs.length/\ ∀y∈ys,Pd y
 | [],_=>⟨[],rfl,rfl,fun y hy=>by cases hy⟩
 |x::r,h=>by
  obtain⟨a,b,d,rfl,e,pd⟩:=h x mem_cons_self
  obtain⟨ys,ey,ly,py⟩:=dK8 r fun y hy=>h y (mem_cons_of_mem _ hy)
  refine⟨d::ys,?_,by rw[length_cons,length_cons,ly],pH pd py⟩
  rw[dG]
  show((bA.ok true).bind fun b'=>if b'=true then(g (.val a:: .val b::rest)).bind fun y=>(dG (kG (fun _=>.ok true)) (kG g) rest r).bind fun ys=>.ok (y::ys)else _)=_
  simp only[jL,if_true,e,ey]
section
variable(C C':CT)(ss:List D)
abbrev bW8:MS:=qK 6 (mA (C .q54) {(mA (C .q47) {@0,(m2 bN .(8) @7)}),@2,@3,@4,.(2)})
end
def Gt(d:D):Prop:=gd d=true/\cV d<=20/\wt d<=2500000
theorem nH{m:Nat}(h:∀x∈xs,gd x=true/\cV x<=m)(hl:xs.length<=40):gd (.tup xs)=true/\cV (.tup xs)<=m+1:=by
 refine⟨?_,?_⟩
 ·simp only[gd,and_eq_true,decide_eq_true_eq]
  exact⟨hl,bK6 fun x hx=>(h x hx).1⟩
 ·have:=bK7 fun x hx=>(h x hx).2
  simp only[cV];omega
theorem g0{m:Nat}{d:D}(h:Gd m d)(hk:m<=k):gd d=true/\cV d<=k:=⟨h.1,le_trans h.2.1 hk⟩
theorem bW9{m:Nat}(h:dK5 xs m)(hm:m<=40):(gd (.tup xs)=true/\cV (.tup xs)<=k+1)/\wtL xs<=m*9:=by
 have e:∀y∈xs,Gd 0 y:=fun y hy=>by obtain⟨z,rfl,hz⟩:=h.1 y hy;exact bD6 hz
 have l:=h.2
 refine⟨nH (fun y hy=>g0 (e y hy) (zero_le _)) bD,?_⟩
 have h1:=rG fun y hy=>(e y hy).2.2
 have h2:V 0=9:=rfl
 rw[h2]at h1
 have:=Nat.mul_le_mul_right 9 l
 omega
theorem V10:V 10=43180:=rfl
theorem gJ9(h:gI8 y):(gd y=true/\cV y<=14)/\wt y<=173000:=by
 obtain⟨z,ps,os,bs,rfl,hz,pp,lp,po,lo,lb,gb⟩:=h
 have h1:=bW9 (k:=12) (m:=4) ⟨pp,lp⟩ bD
 have h2:=bW9 (k:=12) (m:=6) ⟨po,lo⟩ bD
 have h3:=nH (m:=12) (fun x hx=>g0 (gb x hx) bD) bD
 have h4:=bD6 (m:=13) hz
 refine⟨nH (m:=13) (pH ⟨h4.1,h4.2.1⟩ (pH h1.1 (rH h2.1 h3))) (by simp),?_⟩
 have w:=rG fun x hx=>(gb x hx).2.2
 rw[V10]at w
 have:=Nat.mul_le_mul_right 43180 lb
 have:=h1.2
 have:=h2.2
 simp only[wt,wtL];omega
theorem cM4(h:dJ5 y):(gd y=true/\cV y<=14)/\wt y<=20:=by
 obtain⟨z,i,rfl,hz,i0,i4⟩:=h
 have h1:=bD6 (m:=0) hz
 have h2:=bW4 (m:=0) (v:=i) bD
 refine⟨⟨(nH (m:=13) (rH ⟨h1.1,le_trans h1.2.1 bD⟩ ⟨h2.1,le_trans h2.2.1 bD⟩) (by simp)).1,(nH (m:=13) (rH ⟨h1.1,le_trans h1.2.1 bD⟩ ⟨h2.1,le_trans h2.2.1 bD⟩) (by simp)).2⟩,?_⟩
 simp only[wt,wtL];omega
theorem gK0{d:D}(h:gJ8 d):Gt d:=by
 obtain⟨z,ws,ds,rfl,lz,pws,pds,lds⟩:=h
 have h1:=bW9 (k:=18) pws bD
 have h2:=nH (m:=18) (fun x hx=>⟨(cM4 (pds x hx)).1.1,le_trans (cM4 (pds x hx)).1.2 bD⟩) (show ds.length<=40 by omega)
 have h4:=bD6 (m:=19) lz
 have h3:=nH (m:=19) (pH ⟨h4.1,h4.2.1⟩ (rH h1.1 h2)) (by simp)
 refine⟨h3.1,h3.2,?_⟩
 have w:=rG fun x hx=>(cM4 (pds x hx)).2
 have:=h1.2
 simp only[wt,wtL];omega
section
variable(C C':CT)(ss:List D)
end
noncomputable abbrev Ls(z:Str):List Nat:=z.cps.toList
theorem wS(a b:Str):Ls (a++b)=Ls a++Ls b:=by
 show(a.cps++b.cps).toList=_
 rw[Array.toList_append]
theorem gK1{a b:Str}(h:Ls a=Ls b):a=b:=by
 obtain⟨⟨x⟩⟩:=a
 obtain⟨⟨y⟩⟩:=b
 cases(show x=y from h);rfl
theorem bL3(z:Str):(Ls z).length=z.length:=rfl
def cJ:List Str->List Nat
 | []=>[]
 |h::t=>32::(Ls h++cJ t)
def tl:List Str->List Nat
 | []=>[]
 |h::t=>Ls h++cJ t
theorem lG:∀a b:List Str,cJ (a++b)=cJ a++cJ b
 | [],_=>rfl
 |h::t,b=>by simp only[List.cons_append,cJ,lG t b,append_assoc]
theorem dL0{a:List Str}(h:a≠ []):32::tl a=cJ a:=by
 cases a with
 |nil=>exact absurd rfl h
 |cons x r=>rfl
theorem cM5:∀ws:List Str,Ls (Txt.join " " ws)=tl ws:=fun ws=>by
 unfold Txt.join
 rw[PySem.StrLaws.glued_eq_join]
 exact go ws
where
 go:∀ws:List Str,Ls (Str.join " " ws)=tl ws
  | []=>rfl
  | [x]=>by simp[Str.join,tl,cJ]
  |x::y::r=>by
   have ih:=go (y::r)
   show Ls (x++(" " :Str)++Str.join " " (y::r))=_
   rw[wS,wS,ih]
   show(Ls x++ [32])++_=Ls x++(32::_)
   simp[tl,cJ]
theorem dL1(sep:Str):∀(ws:List Str) (k:Nat),ws.foldl (fun a w=>a+w.length+sep.length) k=k+(ws.map fun w=>w.length+sep.length).sum
 | [],k=>by simp
 |w::r,k=>by rw[List.foldl_cons,dL1 sep r];simp only[map_cons,List.sum_cons];omega
theorem gK2(sep:Str)(ws:List Str)(h:(ws.map fun w=>w.length+sep.length).sum<=sizeLine):JoinOk sep ws=true:=by
 unfold JoinOk
 rw[List.foldl_toArray,dL1]
 show(!decide (_>sizeLine))=true
 rw[decide_eq_false bD];rfl
theorem dL2:∀ws:List Str,(cJ ws).length=(ws.map fun w=>w.length+1).sum
 | []=>rfl
 |w::r=>by simp only[cJ,length_cons,length_append,map_cons,List.sum_cons,dL2 r,bL3];omega
theorem dL3(ws:List Str):(tl ws).length<=(cJ ws).length:=by
 cases ws with
 |nil=>exact le_refl _
 |cons w r=>simp only[tl,cJ,length_cons,length_append];omega
theorem gK3{ws:List Str}(h:(cJ ws).length<=sizeLine):∃t,vG " " [.lst (ws.map .str)]= .ok (.str t)/\Ls t=tl ws:=by
 refine⟨_,?_,cM5 ws⟩
 simp only[vG,bL1]
 have h1:=dL3 ws
 have e:(Txt.join " " ws).length=(tl ws).length:=by rw[<-cM5 ws];rfl
 exact if_pos ⟨gK2 _ _ (by rw[dL2]at h;exact h),by rw[e];omega⟩
theorem yS(hij:i≠j){g:ME}{f:D->List Str}:∀(ds:List D) (O:cU) (acc:List Str),O[j]? =some (.own (acc.map .str))->i<O.length->
 (∀x∈ds,∀ρ':cU,ρ'[i]? =some (.val x)->(∀k,k≠i->k≠j->ρ'[k]? =O[k]?)->g ρ'= .ok (.lst ((f x).map .str)))->acc.length+(ds.flatMap f).length<=sizeLine->
 ∃ρ',gG i (kT j g) ds O= .ok (.nx ρ')/\ρ'[j]? =some (.own ((acc++ds.flatMap f).map .str))/\(∀k,k≠i->k≠j->ρ'[k]? =O[k]?)/\ρ'.length=O.length
 | [],O,acc,hj,_,_,_=>⟨O,rfl,by simpa using hj,fun _ _ _=>rfl,rfl⟩
 |x::r,O,acc,hj,hi,hg,hl=>by
  rw[flatMap_cons,length_append]at hl
  have q1:=hg x mem_cons_self (O.set i (.val x)) (getElem?_set_self hi) fun k hk _=>getElem?_set_ne (symm hk)
  have hj':(O.set i (.val x))[j]? =some (.own (acc.map .str)):=by rw[getElem?_set_ne hij];exact hj
  have hjl:j<(O.set i (.val x)).length:=(List.getElem?_eq_some_iff.mp hj').1
  have st:kT j g (O.set i (.val x))= .ok (.nx ((O.set i (.val x)).set j (.own ((acc++f x).map .str)))):=by
   unfold kT bB1
   rw[q1]
   show(match(O.set i (.val x))[j]?,D.lst ((f x).map .str)with|some (.own ds),.lst es=>if ds.length+es.length<=sizeLine then bA.ok (Fl.nx ((O.set i (.val x)).set j (.own (ds++es))))else .bad|_,_=>.bad)=_
   rw[hj']
   show(if _ then _ else _)=_
   rw[if_pos (by simp only[length_map];omega),map_append]
  obtain⟨ρ',e1,e2,e3,e4⟩:=yS hij r ((O.set i (.val x)).set j (.own ((acc++f x).map .str))) (acc++f x) (getElem?_set_self hjl) (by simpa using hi)
   (fun y hy ρ' h1 h2=>hg y (mem_cons_of_mem _ hy) ρ' h1 fun k k1 k2=>by rw[h2 k k1 k2,getElem?_set_ne (symm k2),getElem?_set_ne (symm k1)]) (by rw[length_append];omega)
  refine⟨ρ',?_,by rw[e2,flatMap_cons,append_assoc],fun k k1 k2=>by rw[e3 k k1 k2,getElem?_set_ne (symm k2),getElem?_set_ne (symm k1)],by rw[e4];simp⟩
  rw[gG,st]
  exact e1
theorem pI{d:D}(h:O[i]? =some (.val d)):gv i O= .ok d:=by unfold gv;rw[h]
theorem pJ{R:MS}(h:O[i]? =some (.own ds)):bB (kB i) R O=R (O.set i (.val (.lst ds))):=by
 unfold bB kB
 rw[h];rfl
theorem pT{g:ME}{a b:List Str}(h1:f O= .ok (.lst (a.map .str)))(h2:g O= .ok (.lst (b.map .str)))(h:a.length+b.length<=sizeLine):m2 bN f g O= .ok (.lst ((a++b).map .str)):=c2 h1 h2 (by simp only[bN];rw[if_pos (by simpa using h),map_append])
noncomputable abbrev iS(i:Int):Str:=ofString (toString i)
def fK(f:D->List Str)(xs:List D):List Str:=iS (xs.length:Int)::xs.flatMap f
def eW:Nat->D->List Str
 |0,_=>[]
 |k+1,d=>match d with
  | .tup [_,.int i]=>[iS i]
  | .tup [_,.str z]=>[z]
  | .tup [_,.str z,.tup xs]=>"call" ::z::fK (eW k) xs
  | .tup [.str w,x,y]=>w::(eW k x++eW k y)
  |_=>[]
theorem pK{d:D}(h:bR d=true):∃z:Str,d= .str z/\1<=z.length/\z.length<=8:=by
 cases d with
 |str z=>
  simp only[bR,and_eq_true,decide_eq_true_eq]at h
  exact⟨z,rfl,h.1⟩
 |_=>cases h
theorem gK4{d:D}(h:jV d=true):∃i:Int,d= .int i/\(iS i).length<=7/\i.natAbs<2^64:=by
 cases d with
 |int i=>
  simp only[jV,decide_eq_true_eq]at h
  refine⟨i,rfl,?_,by omega⟩
  have:=int_text_length_le10 (a:=i) (k:=6) (by decide) bD
  rw[PySem.ofString_length];omega
 |_=>cases h
inductive bL4(k:Nat):D->Prop
 |num (i:Int) (h:(iS i).length<=7) (h2:i.natAbs<2^64):bL4 k (.tup [.str "number",.int i])
 |nam (z:Str) (h:1<=z.length) (h2:z.length<=8):bL4 k (.tup [.str "name",.str z])
 |cal (z:Str) (xs:List D) (h:1<=z.length) (h2:z.length<=8) (l:xs.length<=4) (a:∀x∈xs,bK k x=true):bL4 k (.tup [.str "call",.str z,.tup xs])
 |two (w:Str) (x y:D) (h:jC w=true) (hx:bK k x=true) (hy:bK k y=true):bL4 k (.tup [.str w,x,y])
theorem bD7{d:D}(h:bK (k+1) d=true):bL4 k d:=by
 cases d with
 |tup l=>
  match l,h with
  | [],h=>cases h
  | .str w::r,h=>
   simp only[bK]at h
   by_cases w1:(w== "number")=true
   ·rw[if_pos w1]at h
    rw[eq_of_beq w1]
    match r,h with
    | [x],h=>
     obtain⟨i,rfl,h1,h2⟩:=gK4 h
     exact .num i h1 h2
   ·rw[if_neg w1]at h
    by_cases w2:(w== "name")=true
    ·rw[if_pos w2]at h
     rw[eq_of_beq w2]
     match r,h with
     | [x],h=>
      obtain⟨z,rfl,h1,h2⟩:=pK h
      exact .nam z h1 h2
    ·rw[if_neg w2]at h
     by_cases w3:(w== "call")=true
     ·rw[if_pos w3]at h
      rw[eq_of_beq w3]
      match r,h with
      | [x,.tup xs],h=>
       simp only[and_eq_true,decide_eq_true_eq,all_eq_true]at h
       obtain⟨z,rfl,h1,h2⟩:=pK h.1
       exact .cal z xs h1 h2 h.2.1 h.2.2
     ·rw[if_neg w3]at h
      by_cases w4:jC w=true
      ·rw[if_pos w4]at h
       match r,h with
       | [x,y],h=>
        rw[and_eq_true]at h
        exact .two w x y w4 h.1 h.2
      ·rw[if_neg w4]at h;cases h
  | .non::r,h=>cases h
  | .bl _::r,h=>cases h
  | .int _::r,h=>cases h
  | .tup _::r,h=>cases h
  | .lst _::r,h=>cases h
 |_=>cases h
theorem yT{d:D}(h:bK k d=true):∃a b r,d= .tup (a::b::r):=by
 cases k with
 |zero=>cases h
 |succ k=>cases bD7 h<;>exact⟨_,_,_,rfl⟩
theorem bX0(hx:bK k x=true)(hy:bK k y=true):eW (k+1) (.tup [.str w,x,y])=w::(eW k x++eW k y):=by
 obtain⟨a,b,r,rfl⟩:=yT hx
 obtain⟨a',b',r',rfl⟩:=yT hy
 rfl
theorem bX1{f:D->List Str}:∀{xs:List D},(∀x∈xs,(cJ (f x)).length<=wt x)->(cJ (xs.flatMap f)).length<=wtL xs
 | [],_=>zero_le _
 |x::r,h=>by
  have h1:=h x mem_cons_self
  have h2:=bX1 fun y hy=>h y (mem_cons_of_mem _ hy)
  rw[flatMap_cons,lG,length_append,wtL];omega
theorem dE(w:Str)(r:List Str):(cJ (w::r)).length=w.length+1+(cJ r).length:=by
 simp only[cJ,length_cons,length_append,bL3];omega
theorem cM6(n:Nat)(h:n<=4):(iS (n:Int)).length=1:=by
 match n,h with
 |0,_=>decide+kernel
 |1,_=>decide+kernel
 |2,_=>decide+kernel
 |3,_=>decide+kernel
 |4,_=>decide+kernel
theorem dL4:(ofString "call").length=4:=by decide+kernel
theorem tK:∀(k:Nat) (d:D),bK k d=true->(cJ (eW k d)).length<=wt d/\eW k d≠ []
 |0,_,h=>by cases h
 |k+1,d,h=>by
  cases bD7 h with
  |num i h1 h2=>
   refine⟨?_,fun z=>by cases z⟩
   show(cJ [iS i]).length<=_
   rw[dE];simp only[wt,wtL,cJ,length_nil];omega
  |nam z h1 h2=>
   refine⟨?_,fun z=>by cases z⟩
   show(cJ [z]).length<=_
   rw[dE];simp only[wt,wtL,cJ,length_nil];omega
  |cal z xs h1 h2 l a=>
   refine⟨?_,fun z=>by cases z⟩
   show(cJ ("call" ::z::fK (eW k) xs)).length<=_
   have:=bX1 fun x hx=>(tK k x (a x hx)).1
   have e:=cM6 _ l
   unfold fK
   rw[dE,dE,dE,e,dL4]
   simp only[wt,wtL,dL4];omega
  |two w x y hs hx hy=>
   have l1:=(tK k x hx).1
   have l2:=(tK k y hy).1
   have l3:=gG9 hs
   rw[bX0 hx hy]
   refine⟨?_,fun z=>by cases z⟩
   rw[dE,lG,length_append]
   simp only[wt,wtL];omega
theorem rJ(ws:List Str):ws.length<=(cJ ws).length:=by
 induction ws with
 |nil=>exact le_refl _
 |cons w r ih=>rw[dE,length_cons];omega
noncomputable abbrev NN:Nat:=8000000
abbrev fZ(C:CT)(f:Fn)(d:D)(ws:List Str):Prop:=C f [d]= .ok (.lst (ws.map .str))
abbrev Txd(C:CT)(f:Fn)(ds:List D)(ws:List Str):Prop:=∃t,C f ds= .ok (.str t)/\Ls t=tl ws
theorem tM(a:D):dM [a]= .ok (.lst [a]):=by
 have hs:=sizeLine_eq
 unfold dM;rw[if_pos (by show 1<=sizeLine;omega)]
theorem cM7(a b:D):dM [a,b]= .ok (.lst [a,b]):=by
 have hs:=sizeLine_eq
 unfold dM;rw[if_pos (by show 2<=sizeLine;omega)]
theorem bX2:∀{xs:List D},x∈xs->wt x<=wtL xs
 |y::r,h=>by
  rw[wtL]
  rcases List.mem_cons.mp h with rfl|h
  ·omega
  ·have:=bX2 h;omega
section
variable(C C':CT)
theorem dL5(l:xs.length<=4)(a:∀x∈xs,bK k x=true)(hw:wtL xs<=NN)(he:∀x,bK k x=true->wt x<=NN->fZ C .q44 x (eW k x)):((bJ6 C C') #[.tup xs,(),()]).bind bL= .ok (.lst ((fK (eW k) xs).map .str)):=by
 have hs:=sizeLine_eq
 unfold bJ6
 have q0:lD 1 (nB {(mA mI {(mA cD {@0})})}) #[.tup xs,(),()]= .ok (.nx [.val (.tup xs),.own [.str (iS (xs.length:Int))],.no]):=by
  have e1:mA mI {(mA cD {@0})} #[.tup xs,(),()]= .ok (.str (iS (xs.length:Int))):=a1 (a1 rfl (rfl:cD [.tup xs]= .ok (.int (xs.length:Int)))) (by simp only[mI];rw[if_pos bD])
  unfold lD nB
  simp only[aC,bP,e1,jL]
  show bA.bind (if 1<=sizeLine then _ else _) _=_
  rw[if_pos bD];rfl
 rw[gQ q0]
 have hfl:=bX1 fun x hx=>(tK k x (a x hx)).1
 have hfl2:=rJ (xs.flatMap (eW k))
 obtain⟨ρ',t1,t2,t3,t4⟩:=yS (i:=2) (j:=1) (by decide) (g:=mA (C .q44) {@2}) (f:=eW k) xs [.val (.tup xs),.own [.str (iS (xs.length:Int))],.no] [iS (xs.length:Int)] rfl (by simp)
  (fun x hx ρ' h1 _=>a1 (pI h1) (he x (a x hx) (by have:=bX2 hx;omega))) (by simp only[length_cons,length_nil];unfold NN at hw;omega)
 rw[gQ (show gH 2 (dP @0) _ _=bA.ok (Fl.nx ρ') by rw[qO (tJ rfl)];exact t1),pJ t2]
 exact gT (pI (getElem?_set_self (by rw[t4];simp)))
theorem gK6{d:D}(hp:bK (k+1) d=true)(hw:wt d<=NN)(he:∀x,bK k x=true->wt x<=NN->fZ C .q44 x (eW k x))
 (hc:∀xs:List D,xs.length<=4->(∀x∈xs,bK k x=true)->wtL xs<=NN->fZ C .q45 (.tup xs) (fK (eW k) xs)):((bU1 C C') #[d,()]).bind bL= .ok (.lst ((eW (k+1) d).map .str)):=by
 have hs:=sizeLine_eq
 have hlen:=(tK (k+1) d hp).1
 have hl2:=rJ (eW (k+1) d)
 unfold bU1
 have ix:∀{l:List D} {s:Slot} (i:Nat) (x:D),l[i]? =some x->m2 bS @0 (kc (.int (i:Int))) [.val (.tup l),s]= .ok x:=fun i x h=>c2 rfl rfl (gU i x h)
 have st0:∀{r:List D} {w:D} {s:Slot},m2 bS @0 .(0) [.val (.tup (w::r)),s]= .ok w:=c2 rfl rfl (gU 0 _ rfl)
 have eq:∀{l:List D} {w:Str} (v:Str),mB (m2 cI @1 (kc (.str v))) #[.tup l,.str w]= .ok (w==v):=fun v=>cB (c2 rfl rfl (dL _ v))
 cases bD7 hp with
 |num i h1 h2=>
  rw[mO st0]
  show(bB (bH _ _ bM) _ #[.tup [.str "number",.int i],.str "number"]).bind bL=_
  rw[fH (show _=bA.ok true from eq "number")]
  exact gP (a1 (a1 (ix 1 (.int i) rfl) (by simp only[mI];rw[if_pos h2])) (tM _))
 |nam z h1 h2=>
  rw[mO st0]
  show(bB (bH _ _ bM) _ #[.tup [.str "name",.str z],.str "name"]).bind bL=_
  rw[dD (show _=bA.ok false by rw[eq "number"];kernel_rfl),fH (show _=bA.ok true from eq "name")]
  exact gP (a1 (ix 1 (.str z) rfl) (tM _))
 |cal z xs h1 h2 l a=>
  have hx:wtL xs<=NN:=by simp only[wt,wtL]at hw;omega
  rw[mO st0]
  show(bB (bH _ _ bM) _ #[.tup [.str "call",.str z,.tup xs],.str "call"]).bind bL=_
  rw[dD (show _=bA.ok false by rw[eq "number"];kernel_rfl),dD (show _=bA.ok false by rw[eq "name"];kernel_rfl),fH (show _=bA.ok true from eq "call")]
  have hl3:(fK (eW k) xs).length+2<=sizeLine:=by
   have e:eW (k+1) (.tup [.str "call",.str z,.tup xs])=ofString "call" ::z::fK (eW k) xs:=rfl
   rw[e]at hl2 hlen
   rw[length_cons,length_cons]at hl2
   unfold NN at hw;omega
  exact gP (pT (a:=[ofString "call",z]) (b:=fK (eW k) xs) (a2 rfl (ix 1 (.str z) rfl) (cM7 _ _)) (a1 (ix 2 (.tup xs) rfl) (hc xs l a hx)) (by simp only[length_cons,length_nil];omega))
 |two w x y hs' hx hy=>
  have n0:=dH9
  have w1:(w== "number")=false:=by cases e:(w== "number")with|false=>rfl|true=>rw[eq_of_beq e,n0.1]at hs';cases hs'
  have w2:(w== "name")=false:=by cases e:(w== "name")with|false=>rfl|true=>rw[eq_of_beq e,n0.2.1]at hs';cases hs'
  have w3:(w== "call")=false:=by cases e:(w== "call")with|false=>rfl|true=>rw[eq_of_beq e,n0.2.2.1]at hs';cases hs'
  have hwx:wt x<=NN/\wt y<=NN:=by simp only[wt,wtL]at hw;omega
  rw[bX0 hx hy]at hl2 hlen ⊢
  rw[length_cons,length_append]at hl2
  rw[mO st0]
  show(bB (bH _ _ bM) _ #[.tup [.str w,x,y],.str w]).bind bL=_
  rw[dD (show _=bA.ok false by rw[eq "number",w1]),dD (show _=bA.ok false by rw[eq "name",w2]),dD (show _=bA.ok false by rw[eq "call",w3])]
  unfold NN at hw
  exact gT (pT (a:=w::eW k x) (b:=eW k y) (pT (a:=[w]) (b:=eW k x) (a1 rfl (tM _)) (a1 (ix 1 x rfl) (he x hx hwx.1)) (by simp only[length_cons,length_nil];omega)) (a1 (ix 2 y rfl) (he y hy hwx.2)) (by simp only[length_cons];omega))
end
theorem bX3:∀(k n:Nat) (d:D),bK k d=true->wt d<=NN->fZ (Ph (n+4*k+3)) .q44 d (eW k d)
 |0,_,_,h,_=>by cases h
 |k+1,n,d,h,hw=>by
  have e:n+4*(k+1)+3=(n+4*k+4)+3:=by omega
  unfold fZ
  rw[e]
  show((bU1 (Ph (n+4*k+6)) (Ph (n+4*k+4))) #[d,()]).bind bL=_
  refine gK6 _ _ h hw (fun x hx wx=>?_) fun xs l a wx=>?_
  ·have e2:n+4*k+6=(n+3)+4*k+3:=by omega
   unfold fZ
   rw[e2];exact bX3 k (n+3) x hx wx
  ·show((bJ6 (Ph (n+4*k+5)) (Ph (n+4*k+3))) #[.tup xs,(),()]).bind bL=_
   refine dL5 _ _ l a wx fun x hx wx'=>?_
   have e2:n+4*k+5=(n+2)+4*k+3:=by omega
   unfold fZ
   rw[e2];exact bX3 k (n+2) x hx wx'
theorem gK7(k n:Nat)(xs:List D)(l:xs.length<=4)(a:∀x∈xs,bK k x=true)(hw:wtL xs<=NN):fZ (Ph (n+4*k+6)) .q45 (.tup xs) (fK (eW k) xs):=by
 show((bJ6 (Ph (n+4*k+5)) (Ph (n+4*k+3))) #[.tup xs,(),()]).bind bL=_
 refine dL5 _ _ l a hw fun x hx wx=>?_
 have e2:n+4*k+5=(n+2)+4*k+3:=by omega
 unfold fZ
 rw[e2];exact bX3 k (n+2) x hx wx
theorem gW1:Ls (ofString " ")= [32]:=by decide+kernel
theorem rSq{R:MS}{l:List Nat}(h:∃t,f O= .ok (.str t)/\Ls t=l):∃t,(bB (bG f) R O).bind bL= .ok (.str t)/\Ls t=l:=let ⟨t,e,l⟩:=h;⟨t,gP e,l⟩
section
variable(C C':CT)
end
noncomputable def vO(w:Str):Str:=if w== "new" then "deed" else if w== "await" then "and" else if w== "hand" then "to" else "be"
def sW:Nat->D->List Str
 |0,_=>[]
 |k+1,d=>match d with
  | .tup [.str w,e,.tup a,.tup b]=>w::(eW k e++(ofString "then" ::((a.flatMap (sW k)++ [ofString "end"])++(ofString "else" ::(b.flatMap (sW k)++ [ofString "end"])))))
  | .tup [.str w,.str z,.str u]=>[w,z,vO w,u]
  | .tup [.str w,.str z,.tup xs]=>if w== "do" then w::z::fK (eW k) xs else w::z::vO w::eW k (.tup xs)
  | .tup [.str w,e,.tup a]=>w::(eW k e++(ofString "do" ::(a.flatMap (sW k)++ [ofString "end"])))
  | .tup [.str w,.str z]=>[w,z]
  | .tup [.str w,e]=>w::eW k e
  |_=>[]
abbrev bW(k:Nat)(xs:List D):List Str:=xs.flatMap (sW k)++ [ofString "end"]
inductive wT(k:Nat):D->Prop
 |ife (e:D) (a b:List D) (he:bK k e=true) (ha:∀x∈a,cE k x=true) (hb:∀x∈b,cE k x=true):wT k (.tup [.str "if",e,.tup a,.tup b])
 |whi (e:D) (a:List D) (he:bK k e=true) (ha:∀x∈a,cE k x=true):wT k (.tup [.str "while",e,.tup a])
 |doo (z:Str) (xs:List D) (hz:z.length<=8) (l:xs.length<=4) (a:∀x∈xs,bK k x=true):wT k (.tup [.str "do",.str z,.tup xs])
 |one (w:Str) (h:w="give" \/w="tell") (e:D) (he:bK k e=true):wT k (.tup [.str w,e])
 |get (z:Str) (hz:z.length<=8):wT k (.tup [.str "get",.str z])
 |nam (w:Str) (h:w="new" \/w="await") (z u:Str) (hz:z.length<=8) (hu:u.length<=8):wT k (.tup [.str w,.str z,.str u])
 |lets (w:Str) (h:w="let" \/w="hand") (z:Str) (e:D) (hz:z.length<=8) (he:bK k e=true):wT k (.tup [.str w,.str z,e])
theorem wU(hs:s="WORD" \/s="DEED")(h:dZ k s x=true):∃z:Str,x= .str z/\z.length<=8:=by
 have h':bR x=true:=by rcases hs with rfl|rfl<;>exact h
 obtain⟨z,e,_,l⟩:=pK h'
 exact⟨z,e,l⟩
theorem bD8(h:dZ k "EXPRESSION" x=true):bK k x=true:=h
theorem yU(h:dZ k "BLOCK" x=true):∃xs,x= .tup xs/\ ∀y∈xs,cE k y=true:=by
 have h':lT k x=true:=h
 cases x with
 |tup xs=>exact⟨xs,rfl,List.all_eq_true.mp h'⟩
 |_=>cases h'
theorem bX4(h:dZ k "PARTS" x=true):∃xs,x= .tup xs/\xs.length<=4/\ ∀y∈xs,bK k y=true:=by
 have h':lS k x=true:=h
 cases x with
 |tup xs=>
  simp only[lS,and_eq_true,decide_eq_true_eq,all_eq_true]at h'
  exact⟨xs,rfl,h'.1,h'.2⟩
 |_=>cases h'
theorem cM8{d:D}(h:cE (k+1) d=true):wT k d:=by
 cases d with
 |tup l=>
  match l,h with
  | [],h=>cases h
  | .str w::r,h=>
   rw[yO]at h
   cases hl:jH.lookup w with
   |none=>rw[hl]at h;cases h
   |some ss=>
    rw[hl]at h
    simp only[and_eq_true,decide_eq_true_eq,all_eq_true]at h
    obtain⟨h1,h2⟩:=h
    have go1:∀{s:Str},ss= [s]->∃x,r= [x]/\dZ k s x=true:=fun{s} e=>by
     subst e
     match r,h1 with
     | [x],_=>exact⟨x,rfl,h2 (s,x) (by simp)⟩
    have go2:∀{s t:Str},ss= [s,t]->∃x y,r= [x,y]/\dZ k s x=true/\dZ k t y=true:=fun{s t} e=>by
     subst e
     match r,h1 with
     | [x,y],_=>exact⟨x,y,rfl,h2 (s,x) (by simp),h2 (t,y) (by simp)⟩
    have go3:∀{s t u:Str},ss= [s,t,u]->∃x y z,r= [x,y,z]/\dZ k s x=true/\dZ k t y=true/\dZ k u z=true:=fun{s t u} e=>by
     subst e
     match r,h1 with
     | [x,y,z],_=>exact⟨x,y,z,rfl,h2 (s,x) (by simp),h2 (t,y) (by simp),h2 (u,z) (by simp)⟩
    simp only[jH,lookup_cons]at hl
    have eqw:∀{v:Str},(w==v)=true->w=v:=fun e=>eq_of_beq e
    split at hl
    ·rename_i e;cases hl
     obtain⟨x,y,rfl,p1,p2⟩:=go2 rfl
     obtain⟨z,rfl,lz⟩:=wU (.inl rfl) p1
     exact .lets w (.inl (eqw e)) z y lz (bD8 p2)
    split at hl
    ·rename_i e;cases hl
     obtain⟨x,y,z,rfl,p1,p2,p3⟩:=go3 rfl
     obtain⟨a,rfl,ha⟩:=yU p2
     obtain⟨b,rfl,hb⟩:=yU p3
     rw[eqw e]
     exact .ife x a b (bD8 p1) ha hb
    split at hl
    ·rename_i e;cases hl
     obtain⟨x,y,rfl,p1,p2⟩:=go2 rfl
     obtain⟨a,rfl,ha⟩:=yU p2
     rw[eqw e]
     exact .whi x a (bD8 p1) ha
    split at hl
    ·rename_i e;cases hl
     obtain⟨x,y,rfl,p1,p2⟩:=go2 rfl
     obtain⟨z,rfl,lz⟩:=wU (.inr rfl) p1
     obtain⟨xs,rfl,l,a⟩:=bX4 p2
     rw[eqw e]
     exact .doo z xs lz l a
    split at hl
    ·rename_i e;cases hl
     obtain⟨x,rfl,p1⟩:=go1 rfl
     exact .one w (.inl (eqw e)) x (bD8 p1)
    split at hl
    ·rename_i e;cases hl
     obtain⟨x,rfl,p1⟩:=go1 rfl
     exact .one w (.inr (eqw e)) x (bD8 p1)
    split at hl
    ·rename_i e;cases hl
     obtain⟨x,rfl,p1⟩:=go1 rfl
     obtain⟨z,rfl,lz⟩:=wU (.inl rfl) p1
     rw[eqw e]
     exact .get z lz
    split at hl
    ·rename_i e;cases hl
     obtain⟨x,y,rfl,p1,p2⟩:=go2 rfl
     obtain⟨z,rfl,lz⟩:=wU (.inl rfl) p1
     obtain⟨u,rfl,lu⟩:=wU (.inr rfl) p2
     exact .nam w (.inl (eqw e)) z u lz lu
    split at hl
    ·rename_i e;cases hl
     obtain⟨x,y,rfl,p1,p2⟩:=go2 rfl
     obtain⟨z,rfl,lz⟩:=wU (.inl rfl) p1
     exact .lets w (.inr (eqw e)) z y lz (bD8 p2)
    split at hl
    ·rename_i e;cases hl
     obtain⟨x,y,rfl,p1,p2⟩:=go2 rfl
     obtain⟨z,rfl,lz⟩:=wU (.inl rfl) p1
     obtain⟨u,rfl,lu⟩:=wU (.inl rfl) p2
     exact .nam w (.inr (eqw e)) z u lz lu
    ·cases hl
  | .non::r,h=>cases h
  | .bl _::r,h=>cases h
  | .int _::r,h=>cases h
  | .tup _::r,h=>cases h
  | .lst _::r,h=>cases h
 |_=>cases h
section
theorem cM9(w:Str)(e:D)(a b:List D):sW (k+1) (.tup [.str w,e,.tup a,.tup b])=w::(eW k e++(ofString "then" ::(bW k a++(ofString "else" ::bW k b)))):=rfl
theorem cN0(w:Str)(he:bK k e=true)(a:List D):sW (k+1) (.tup [.str w,e,.tup a])=w::(eW k e++(ofString "do" ::bW k a)):=by
 obtain⟨_,_,_,rfl⟩:=yT he;rfl
theorem dL7(w z:Str)(xs:List D):sW (k+1) (.tup [.str w,.str z,.tup xs])=if(w==ofString "do")=true then w::z::fK (eW k) xs else w::z::vO w::eW k (.tup xs):=rfl
theorem cN1(z:Str)(xs:List D):sW (k+1) (.tup [.str "do",.str z,.tup xs])=ofString "do" ::z::fK (eW k) xs:=by
 rw[dL7,if_pos (beq_self_eq_true _)]
theorem cN2(w:Str)(he:bK k e=true):sW (k+1) (.tup [.str w,e])=w::eW k e:=by
 obtain⟨_,_,_,rfl⟩:=yT he;rfl
theorem gK8(w z:Str):sW (k+1) (.tup [.str w,.str z])= [w,z]:=rfl
theorem bL5(w z u:Str):sW (k+1) (.tup [.str w,.str z,.str u])= [w,z,vO w,u]:=rfl
theorem cN3(h:w="let" \/w="hand")(z:Str)(he:bK k e=true):sW (k+1) (.tup [.str w,.str z,e])=w::z::vO w::eW k e:=by
 obtain⟨_,_,_,rfl⟩:=yT he
 rw[dL7,if_neg]
 rcases h with rfl|rfl<;>decide+kernel
theorem dL8(d:D):1<=wt d:=by cases d<;>simp only[wt]<;>omega
theorem gK9(he:bK k e=true):4<=wt e:=by
 obtain⟨a,b,r,rfl⟩:=yT he
 have:=dL8 a
 have:=dL8 b
 simp only[wt,wtL];omega
end
theorem cN4{f:D->List Str}:∀{xs:List D},(∀x∈xs,(cJ (f x)).length<=2*wt x)->(cJ (xs.flatMap f)).length<=2*wtL xs
 | [],_=>zero_le _
 |x::r,h=>by
  have h1:=h x mem_cons_self
  have h2:=cN4 fun y hy=>h y (mem_cons_of_mem _ hy)
  rw[flatMap_cons,lG,length_append,wtL];omega
theorem dL9:(ofString "if").length=2/\(ofString "then").length=4/\(ofString "else").length=4/\(ofString "end").length=3/\(ofString "while").length=5/\(ofString "do").length=2/\(ofString "get").length=3:=by decide+kernel
theorem gL0:(ofString "give").length=4/\(ofString "tell").length=4/\(ofString "new").length=3/\(ofString "await").length=5/\(ofString "let").length=3/\(ofString "hand").length=4:=by decide+kernel
theorem cN5:vO "new" =ofString "deed" /\vO "await" =ofString "and" /\vO "let" =ofString "be" /\vO "hand" =ofString "to" :=by decide+kernel
theorem gL1:(ofString "deed").length=4/\(ofString "and").length=3/\(ofString "be").length=2/\(ofString "to").length=2:=by decide+kernel
theorem bD9{a:List D}(h:∀x∈a,(cJ (sW k x)).length<=2*wt x):(cJ (bW k a)).length<=2*wt (.tup a):=by
 have:=cN4 h
 have l:=dL9
 unfold bW
 rw[lG,length_append,dE]
 simp only[cJ,length_nil,wt];omega
theorem vP:∀(k:Nat) (d:D),cE k d=true->(cJ (sW k d)).length<=2*wt d/\sW k d≠ []
 |0,_,h=>by cases h
 |k+1,d,h=>by
  have L1:=dL9
  have L2':=gL0
  have M:=cN5
  have ML:=gL1
  cases cM8 h with
  |ife e a b he ha hb=>
   have h1:=(tK k e he).1
   have h2:=bD9 fun x hx=>(vP k x (ha x hx)).1
   have h3:=bD9 fun x hx=>(vP k x (hb x hx)).1
   have h4:=gK9 he
   rw[cM9]
   refine⟨?_,by simp⟩
   rw[dE,lG,length_append,dE,lG,length_append,dE]
   simp only[wt,wtL]at h2 h3 ⊢;omega
  |whi e a he ha=>
   have h1:=(tK k e he).1
   have h2:=bD9 fun x hx=>(vP k x (ha x hx)).1
   rw[cN0 _ he]
   refine⟨?_,by simp⟩
   rw[dE,lG,length_append,dE]
   simp only[wt,wtL]at h2 ⊢;omega
  |doo z xs hz l a=>
   have h1:=bX1 fun x hx=>(tK k x (a x hx)).1
   have e:=cM6 _ l
   rw[cN1]
   refine⟨?_,by simp⟩
   unfold fK
   rw[dE,dE,dE,e]
   simp only[wt,wtL];omega
  |one w hw e he=>
   have h1:=(tK k e he).1
   rw[cN2 _ he]
   refine⟨?_,by simp⟩
   rw[dE]
   rcases hw with rfl|rfl<;>simp only[wt,wtL]<;>omega
  |get z hz=>
   rw[gK8]
   refine⟨?_,by simp⟩
   rw[dE,dE]
   simp only[wt,wtL,cJ,length_nil];omega
  |nam w hw z u hz hu=>
   rw[bL5]
   refine⟨?_,by simp⟩
   rw[dE,dE,dE,dE]
   rcases hw with rfl|rfl
   ·rw[M.1];simp only[wt,wtL,cJ,length_nil];omega
   ·rw[M.2.1];simp only[wt,wtL,cJ,length_nil];omega
  |lets w hw z e hz he=>
   have h1:=(tK k e he).1
   rw[cN3 hw z he]
   refine⟨?_,by simp⟩
   rw[dE,dE,dE]
   rcases hw with rfl|rfl
   ·rw[M.2.2.1];simp only[wt,wtL];omega
   ·rw[M.2.2.2];simp only[wt,wtL];omega
def fO(s:Str):Bool:=bS2.any (· ==s)
def fW(pw:Str->D->List Str)(l:List D):List Str->Nat->List Str
 | [],_=>[]
 |s::r,p=>if fO s=true then pw s (l.getD p .non)++fW pw l r (p+1)else s::fW pw l r p
def mU(C:CT)(pw:Str->D->List Str)(l:List D):List Str->Nat->Prop
 | [],_=>True
 |s::r,p=>if fO s=true then(∃x,l[p]? =some x/\C .q43 [.str s,x]= .ok (.lst ((pw s x).map .str)))/\mU C pw l r (p+1)else mU C pw l r p
abbrev tN(C:CT):MS:=bH (mB (m2 (fQ false) @3 (kc tE))) (bB (kT 1 (mA (C .q43) {@3,(m2 bS @0 @2)})) (bI1 2 .(1))) (qK 1 @3)
theorem dM0(s:Str):fQ false (.str s) tE= .ok (.bl (fO s)):=by
 unfold tE
 simp only[fQ]
 rw[if_pos (by rw[yM];decide)];simp[yN,fO]
theorem cN6(C:CT)(pw:Str->D->List Str)(l:List D):∀(ss:List Str) (p:Nat) (acc:List Str) (s3:Slot),mU C pw l ss p->acc.length+(fW pw l ss p).length<=sizeLine->
 ∃p' s',gG 3 (tN C) (ss.map .str) [.val (.tup l),.own (acc.map .str),.val (.int (p:Int)),s3]= .ok (.nx [.val (.tup l),.own ((acc++fW pw l ss p).map .str),.val (.int p'),s'])
 | [],p,acc,s3,_,_=>⟨_,_,by simp only[List.map_nil,gG,fW,append_nil];rfl⟩
 |s::r,p,acc,s3,h,hl=>by
  have t0:mB (m2 (fQ false) @3 (kc tE)) [.val (.tup l),.own (acc.map .str),.val (.int (p:Int)),.val (.str s)]= .ok (fO s):=cB (c2 rfl rfl (dM0 s))
  rw[map_cons,gG]
  show ∃p' s',bA.bind (tN C [.val (.tup l),.own (acc.map .str),.val (.int (p:Int)),.val (.str s)]) _=_
  cases hp:fO s with
  |true=>
   simp only[mU,hp,if_true]at h
   simp only[fW,hp,if_true]at hl ⊢
   obtain⟨⟨x,hx,hc⟩,h⟩:=h
   have hg:l.getD p .non=x:=by rw[getD_eq_getElem?_getD,hx];rfl
   rw[hg,length_append]at hl
   obtain⟨p',s',ih⟩:=cN6 C pw l r (p+1) (acc++pw s x) (.val (.str s)) h (by rw[length_append];omega)
   refine⟨p',s',?_⟩
   have e1:tN C [.val (.tup l),.own (acc.map .str),.val (.int (p:Int)),.val (.str s)]= .ok (.nx [.val (.tup l),.own ((acc++pw s x).map .str),.val (.int ((p+1:Nat):Int)),.val (.str s)]):=by
    unfold tN bH
    rw[t0,hp,jL,if_pos rfl]
    have q:mA (C .q43) {@3,(m2 bS @0 @2)} [.val (.tup l),.own (acc.map .str),.val (.int (p:Int)),.val (.str s)]= .ok (.lst ((pw s x).map .str)):=a2 rfl (c2 rfl rfl (gU p x hx)) hc
    have q2:kT 1 (mA (C .q43) {@3,(m2 bS @0 @2)}) [.val (.tup l),.own (acc.map .str),.val (.int (p:Int)),.val (.str s)]= .ok (.nx [.val (.tup l),.own ((acc++pw s x).map .str),.val (.int (p:Int)),.val (.str s)]):=by
     unfold kT
     rw[q]
     show(if(acc.map D.str).length+((pw s x).map D.str).length<=sizeLine then _ else _)=_
     rw[if_pos (by simp only[length_map];omega),map_append];rfl
    rw[gQ q2]
    show bA.ok (Fl.nx _)=_
    rfl
   rw[e1]
   show gG 3 (tN C) (r.map .str) _=_
   rw[ih,hg,append_assoc]
  |false=>
   simp only[mU,hp,false_eq_true,if_false]at h
   simp only[fW,hp,false_eq_true,if_false]at hl ⊢
   rw[length_cons]at hl
   obtain⟨p',s',ih⟩:=cN6 C pw l r p (acc++ [s]) (.val (.str s)) h (by simp only[length_append,length_cons,length_nil];omega)
   refine⟨p',s',?_⟩
   have e1:tN C [.val (.tup l),.own (acc.map .str),.val (.int (p:Int)),.val (.str s)]= .ok (.nx [.val (.tup l),.own ((acc++ [s]).map .str),.val (.int (p:Int)),.val (.str s)]):=by
    unfold tN bH
    rw[t0,hp,jL,if_neg (by simp)]
    unfold qK
    show(if(acc.map D.str).length<sizeLine then _ else _)=_
    rw[if_pos (by simp only[length_map];omega),map_append];rfl
   rw[e1]
   show gG 3 (tN C) (r.map .str) _=_
   rw[ih,append_assoc];rfl
def dU(k:Nat)(s:Str)(x:D):List Str:=match x with
 | .str z=>[z]
 | .tup xs=>if s== "EXPRESSION" then eW k (.tup xs)else if s== "PARTS" then fK (eW k) xs else bW k xs
 |_=>[]
theorem isP:fO "WORD" =true/\fO "DEED" =true/\fO "EXPRESSION" =true/\fO "PARTS" =true/\fO "BLOCK" =true:=by decide+kernel
theorem isN:fO "be" =false/\fO "then" =false/\fO "else" =false/\fO "do" =false/\fO "deed" =false/\fO "to" =false/\fO "and" =false:=by decide+kernel
theorem lW(he:bK k e=true):dU k "EXPRESSION" e=eW k e:=by
 obtain⟨a,b,r,rfl⟩:=yT he
 show(if(ofString "EXPRESSION" ==ofString "EXPRESSION")=true then eW k (.tup (a::b::r))else if(ofString "EXPRESSION" ==ofString "PARTS")=true then fK (eW k) (a::b::r)else bW k (a::b::r))=_
 rw[if_pos (beq_self_eq_true _)]
theorem bL6(k:Nat)(xs:List D):dU k "PARTS" (.tup xs)=fK (eW k) xs:=by
 show(if(ofString "PARTS" ==ofString "EXPRESSION")=true then eW k (.tup xs)else if(ofString "PARTS" ==ofString "PARTS")=true then fK (eW k) xs else bW k xs)=_
 rw[if_neg dX,if_pos (beq_self_eq_true _)]
theorem rK(k:Nat)(xs:List D):dU k "BLOCK" (.tup xs)=bW k xs:=by
 show(if(ofString "BLOCK" ==ofString "EXPRESSION")=true then eW k (.tup xs)else if(ofString "BLOCK" ==ofString "PARTS")=true then fK (eW k) xs else bW k xs)=_
 rw[if_neg dX,if_neg dX]
theorem bE0{l:List D}(h:kJ (.tup l)=true)(m:D.tup xs∈l):xs.length<=1000/\widL xs=true:=by
 simp only[kJ,and_eq_true]at h
 have:=bV9 h.2 m
 simpa only[kJ,and_eq_true,decide_eq_true_eq]using this
section
variable(C C':CT)
structure PWk(C:CT)(k:Nat):Prop where
 nam:∀(s:Str) (z:Str),s="WORD" \/s="DEED" ->C .q43 [.str s,.str z]= .ok (.lst [.str z])
 ex:∀e,bK k e=true->wt e<=NN->C .q43 [.str "EXPRESSION",e]= .ok (.lst ((eW k e).map .str))
 pa:∀xs:List D,xs.length<=4->(∀x∈xs,bK k x=true)->wtL xs<=NN->C .q43 [.str "PARTS",.tup xs]= .ok (.lst ((fK (eW k) xs).map .str))
 bl:∀xs:List D,(∀x∈xs,cE k x=true)->xs.length<=1000/\widL xs=true->wtL xs<=NN->C .q43 [.str "BLOCK",.tup xs]= .ok (.lst ((bW k xs).map .str))
theorem gL2{r:List D}(hform:kS jB (.str w)= .ok (.tup (form.map .str)))(hf:mU C (dU k) (.str w::r) form 1)(hl:1+(fW (dU k) (.str w::r) form 1).length<=sizeLine):
 ((bC7 C C') #[.tup (.str w::r),(),(),()]).bind bL= .ok (.lst ((w::fW (dU k) (.str w::r) form 1).map .str)):=by
 have hs:=sizeLine_eq
 unfold bC7
 have st0:∀{s1 s2 s3:Slot},m2 bS @0 .(0) [.val (.tup (.str w::r)),s1,s2,s3]= .ok (.str w):=c2 rfl rfl (gU 0 _ rfl)
 have q0:lD 1 (nB {0^^^0}) #[.tup (.str w::r),(),(),()]= .ok (.nx [.val (.tup (.str w::r)),.own [.str w],.no,.no]):=by
  unfold lD nB
  simp only[aC,bP,st0,jL]
  show bA.bind (if 1<=sizeLine then _ else _) _=_
  rw[if_pos bD];rfl
 rw[gQ q0,mO (d:=.int 1) rfl]
 show(bB (gH 3 _ (tN C)) _ [.val (.tup (.str w::r)),.own [.str w],.val (.int 1),.no]).bind bL=_
 obtain⟨p',s',t⟩:=cN6 C (dU k) (.str w::r) form 1 [w] .no hf (by simpa using hl)
 have q1:dP (m1 (kS jB) (0^^^0)) [.val (.tup (.str w::r)),.own [.str w],.val (.int 1),.no]= .ok (form.map .str):=tJ (by unfold m1;rw[st0];exact hform)
 rw[gQ (show gH 3 (dP (m1 (kS jB) (0^^^0))) (tN C) [.val (.tup (.str w::r)),.own [.str w],.val (.int 1),.no]=_ by rw[qO q1];exact t),pJ rfl]
 exact gT rfl
theorem gL3{d:D}(hp:cE (k+1) d=true)(hw:wt d<=NN)(P:PWk C k)(hwid:kJ d=true):((bC7 C C') #[d,(),(),()]).bind bL= .ok (.lst ((sW (k+1) d).map .str)):=by
 have hs:=sizeLine_eq
 have hlen:=(vP (k+1) d hp).1
 have hl2:=rJ (sW (k+1) d)
 have I1:=isP
 have I2:=isN
 have M:=cN5
 unfold NN at hw
 have key:∀{w:Str} {r:List D} {form:List Str},d= .tup (.str w::r)->kS jB (.str w)= .ok (.tup (form.map .str))->mU C (dU k) (.str w::r) form 1->sW (k+1) d=w::fW (dU k) (.str w::r) form 1->((bC7 C C') #[d,(),(),()]).bind bL= .ok (.lst ((sW (k+1) d).map .str)):=fun{w r form} e1 e2 e3 e4=>by
  rw[e4]at hl2 hlen ⊢
  subst e1
  rw[length_cons]at hl2
  exact gL2 C C' e2 e3 bD
 cases cM8 hp with
 |ife e a b he ha hb=>
  have hx:wt e<=NN/\wtL a<=NN/\wtL b<=NN:=by simp only[wt,wtL]at hw;unfold NN;omega
  refine key (form:=["EXPRESSION","then","BLOCK","else","BLOCK"]) rfl bO ?_ ?_
  ·simp only[mU,I1,I2,if_true,false_eq_true,if_false]
   exact⟨⟨_,rfl,by rw[lW he];exact P.ex e he hx.1⟩,⟨_,rfl,by rw[rK];exact P.bl a ha (bE0 hwid (by simp)) hx.2.1⟩,⟨_,rfl,by rw[rK];exact P.bl b hb (bE0 hwid (by simp)) hx.2.2⟩,trivial⟩
  ·simp only[fW,I1,I2,if_true,false_eq_true,if_false]
   show _=_::(dU k "EXPRESSION" e++_::(dU k "BLOCK" (.tup a)++_::(dU k "BLOCK" (.tup b)++ [])))
   rw[cM9,lW he,rK,rK,append_nil]
 |whi e a he ha=>
  have hx:wt e<=NN/\wtL a<=NN:=by simp only[wt,wtL]at hw;unfold NN;omega
  refine key (form:=["EXPRESSION","do","BLOCK"]) rfl bO ?_ ?_
  ·simp only[mU,I1,I2,if_true,false_eq_true,if_false]
   exact⟨⟨_,rfl,by rw[lW he];exact P.ex e he hx.1⟩,⟨_,rfl,by rw[rK];exact P.bl a ha (bE0 hwid (by simp)) hx.2⟩,trivial⟩
  ·simp only[fW,I1,I2,if_true,false_eq_true,if_false]
   show _=_::(dU k "EXPRESSION" e++_::(dU k "BLOCK" (.tup a)++ []))
   rw[cN0 _ he,lW he,rK,append_nil]
 |doo z xs hz l a=>
  have hx:wtL xs<=NN:=by simp only[wt,wtL]at hw;unfold NN;omega
  refine key (form:=["DEED","PARTS"]) rfl bO ?_ ?_
  ·simp only[mU,I1,I2,if_true,false_eq_true,if_false]
   exact⟨⟨_,rfl,P.nam _ z (.inr rfl)⟩,⟨_,rfl,by rw[bL6];exact P.pa xs l a hx⟩,trivial⟩
  ·simp only[fW,I1,I2,if_true,false_eq_true,if_false]
   show _=_::([z]++(dU k "PARTS" (.tup xs)++ []))
   rw[cN1,bL6,append_nil];rfl
 |one w hw' e he=>
  have hx:wt e<=NN:=by simp only[wt,wtL]at hw;unfold NN;omega
  refine key (form:=["EXPRESSION"]) rfl (by rcases hw' with rfl|rfl<;>kernel_rfl) ?_ ?_
  ·simp only[mU,I1,I2,if_true,false_eq_true,if_false]
   exact⟨⟨_,rfl,by rw[lW he];exact P.ex e he hx⟩,trivial⟩
  ·simp only[fW,I1,I2,if_true,false_eq_true,if_false]
   show _=_::(dU k "EXPRESSION" e++ [])
   rw[cN2 _ he,lW he,append_nil]
 |get z hz=>
  refine key (form:=["WORD"]) rfl bO ?_ ?_
  ·simp only[mU,I1,I2,if_true,false_eq_true,if_false]
   exact⟨⟨_,rfl,P.nam _ z (.inl rfl)⟩,trivial⟩
  ·simp only[fW,I1,I2,if_true,false_eq_true,if_false]
   rfl
 |nam w hw' z u hz hu=>
  rcases hw' with rfl|rfl
  ·refine key (form:=["WORD","deed","DEED"]) rfl bO ?_ ?_
   ·simp only[mU,I1,I2,if_true,false_eq_true,if_false]
    exact⟨⟨_,rfl,P.nam _ z (.inl rfl)⟩,⟨_,rfl,P.nam _ u (.inr rfl)⟩,trivial⟩
   ·simp only[fW,I1,I2,if_true,false_eq_true,if_false]
    rw[bL5,M.1];rfl
  ·refine key (form:=["WORD","and","WORD"]) rfl bO ?_ ?_
   ·simp only[mU,I1,I2,if_true,false_eq_true,if_false]
    exact⟨⟨_,rfl,P.nam _ z (.inl rfl)⟩,⟨_,rfl,P.nam _ u (.inl rfl)⟩,trivial⟩
   ·simp only[fW,I1,I2,if_true,false_eq_true,if_false]
    rw[bL5,M.2.1];rfl
 |lets w hw' z e hz he=>
  have hx:wt e<=NN:=by simp only[wt,wtL]at hw;unfold NN;omega
  have e4:=cN3 hw' z he
  rcases hw' with rfl|rfl
  ·refine key (form:=["WORD","be","EXPRESSION"]) rfl bO ?_ ?_
   ·simp only[mU,I1,I2,if_true,false_eq_true,if_false]
    exact⟨⟨_,rfl,P.nam _ z (.inl rfl)⟩,⟨_,rfl,by rw[lW he];exact P.ex e he hx⟩,trivial⟩
   ·simp only[fW,I1,I2,if_true,false_eq_true,if_false]
    show _=_::([z]++_::(dU k "EXPRESSION" e++ []))
    rw[e4,M.2.2.1,lW he,append_nil];rfl
  ·refine key (form:=["WORD","to","EXPRESSION"]) rfl bO ?_ ?_
   ·simp only[mU,I1,I2,if_true,false_eq_true,if_false]
    exact⟨⟨_,rfl,P.nam _ z (.inl rfl)⟩,⟨_,rfl,by rw[lW he];exact P.ex e he hx⟩,trivial⟩
   ·simp only[fW,I1,I2,if_true,false_eq_true,if_false]
    show _=_::([z]++_::(dU k "EXPRESSION" e++ []))
    rw[e4,M.2.2.2,lW he,append_nil];rfl
theorem dM4(a:∀x∈xs,cE k x=true)(hw:wtL xs<=NN)(hwid:widL xs=true)(hst:∀x,cE k x=true->wt x<=NN->kJ x=true->fZ C .q42 x (sW k x)):((bJ5 C C') #[.tup xs,(),()]).bind bL= .ok (.lst ((bW k xs).map .str)):=by
 have hs:=sizeLine_eq
 unfold bJ5
 rw[gQ (show hV 1 #[.tup xs,(),()]=bA.ok (Fl.nx [.val (.tup xs),.own [],.no])from rfl)]
 have hfl:=cN4 fun x hx=>(vP k x (a x hx)).1
 have hfl2:=rJ (xs.flatMap (sW k))
 obtain⟨ρ',t1,t2,t3,t4⟩:=yS (i:=2) (j:=1) (by decide) (g:=mA (C .q42) {@2}) (f:=sW k) xs [.val (.tup xs),.own [],.no] [] rfl (by simp)
  (fun x hx ρ' h1 _=>a1 (pI h1) (hst x (a x hx) (by have:=bX2 hx;omega) (bV9 hwid hx))) (by simp only[length_nil];unfold NN at hw;omega)
 rw[gQ (show gH 2 (dP @0) _ _=bA.ok (Fl.nx ρ') by rw[qO (tJ rfl)];exact t1),pJ t2]
 unfold NN at hw
 exact gT (pT (a:=xs.flatMap (sW k)) (b:=[ofString "end"]) (pI (getElem?_set_self (by rw[t4];simp))) (a1 rfl (tM _)) (by simp only[length_cons,length_nil];omega))
theorem bL7(s:Str):fQ false (.str s) vM= .ok (.bl (rC.any (· ==s))):=by
 unfold vM
 simp only[fQ]
 rw[if_pos (by rw[yM];decide)];simp[yN]
theorem gL4(he:∀e,bK k e=true->wt e<=NN->fZ C .q44 e (eW k e))(hc:∀xs:List D,xs.length<=4->(∀x∈xs,bK k x=true)->wtL xs<=NN->fZ C .q45 (.tup xs) (fK (eW k) xs))
 (hb:∀xs:List D,(∀x∈xs,cE k x=true)->widL xs=true->wtL xs<=NN->fZ C .q41 (.tup xs) (bW k xs)) (B:CT) (hB:∀s x,B .q43 [.str s,x]=((bC8 C C') #[.str s,x]).bind bL):PWk B k:=by
 have t1:∀(s:Str) (x:D),mB (m2 (fQ false) @0 (kc vM)) #[.str s,x]= .ok (rC.any (· ==s)):=fun s x=>cB (c2 rfl rfl (bL7 s))
 have t2:∀(s v:Str) (x:D),mB (m2 cI @0 (kc (.str v))) #[.str s,x]= .ok (s==v):=fun s v x=>cB (c2 rfl rfl (dL s v))
 refine⟨fun s z h=>?_,fun e h w=>?_,fun xs l a w=>?_,fun xs a l w=>?_⟩
 ·rw[hB]
  unfold bC8
  rw[fH (show _=bA.ok true by rw[t1];rcases h with rfl|rfl<;>kernel_rfl)]
  exact gP (a1 rfl (tM _))
 ·rw[hB]
  unfold bC8
  rw[dD (show _=bA.ok false by rw[t1];kernel_rfl),fH (show _=bA.ok true by rw[t2];kernel_rfl)]
  exact gP (a1 rfl (he e h w))
 ·rw[hB]
  unfold bC8
  rw[dD (show _=bA.ok false by rw[t1];kernel_rfl),dD (show _=bA.ok false by rw[t2];kernel_rfl),fH (show _=bA.ok true by rw[t2];kernel_rfl)]
  exact gP (a1 rfl (hc xs l a w))
 ·rw[hB]
  unfold bC8
  rw[dD (show _=bA.ok false by rw[t1];kernel_rfl),dD (show _=bA.ok false by rw[t2];kernel_rfl),dD (show _=bA.ok false by rw[t2];kernel_rfl)]
  exact gT (a1 rfl (hb xs a l.2 w))
end
theorem dM5:∀(k n:Nat) (d:D),cE k d=true->wt d<=NN->kJ d=true->fZ (Ph (n+5*k+10)) .q42 d (sW k d)
 |0,_,_,h,_,_=>by cases h
 |k+1,n,d,h,hw,hd=>by
  have e:n+5*(k+1)+10=(n+5*k+12)+3:=by omega
  unfold fZ
  rw[e]
  show((bC7 (Ph (n+5*k+14)) (Ph (n+5*k+12))) #[d,(),(),()]).bind bL=_
  refine gL3 _ _ h hw (gL4 (Ph (n+5*k+13)) (Ph (n+5*k+11)) (fun x hx wx=>?_) (fun xs l a wx=>?_) (fun xs a l wx=>?_) _ fun s x=>rfl) hd
  ·have e2:n+5*k+13=(n+k+10)+4*k+3:=by omega
   unfold fZ
   rw[e2];exact bX3 k _ x hx wx
  ·have e2:n+5*k+13=(n+k+7)+4*k+6:=by omega
   unfold fZ
   rw[e2];exact gK7 k _ xs l a wx
  ·show((bJ5 (Ph (n+5*k+12)) (Ph (n+5*k+10))) #[.tup xs,(),()]).bind bL=_
   refine dM4 _ _ a wx l fun x hx wx' dx=>?_
   have e2:n+5*k+12=(n+2)+5*k+10:=by omega
   unfold fZ
   rw[e2];exact dM5 k (n+2) x hx wx' dx
theorem dM6(n:Nat)(xs:List D)(a:∀x∈xs,cE 13 x=true)(hw:wtL xs<=NN)(hd:widL xs=true):fZ (Ph (n+76)) .q41 (.tup xs) (bW 13 xs):=by
 show((bJ5 (Ph (n+75)) (Ph (n+73))) #[.tup xs,(),()]).bind bL=_
 exact dM4 _ _ a hw hd fun x hx wx dx=>dM5 13 n x hx wx dx
section
variable(C C':CT)
end
def qP(ps:List D):List Str:=(nW ps).getD []
theorem wV(zs:List Str):qP (zs.map .str)=zs:=by unfold qP;rw[bL1];rfl
def dW:D->List Str
 | .tup [.str z,.tup ps,.tup os,.tup bs]=>ofString "deed" ::z::ofString "with" ::(qP ps++(ofString "own" ::(qP os++(ofString "do" ::bW 13 bs))))
 |_=>[]
def lX:D->List Str
 | .tup [.str z,.int i]=>[ofString "deed",z,iS i]
 |_=>[]
noncomputable def jJ:D->List Str
 | .tup [.str a,.str b]=>[ofString "take",b,ofString "from",a]
 |_=>[]
theorem bL8:(ofString "deed").length=4/\(ofString "with").length=4/\(ofString "own").length=3/\(ofString "do").length=2/\(ofString "word").length=4/\(ofString "take").length=4/\(ofString "from").length=4:=by decide+kernel
theorem cN7:∀{zs:List Str},(∀z∈zs,z.length<=8)->(cJ zs).length=wtL (zs.map .str)
 | [],_=>rfl
 |z::r,h=>by
  have h1:=h z mem_cons_self
  rw[dE,cN7 fun y hy=>h y (mem_cons_of_mem _ hy)]
  simp only[map_cons,wtL,wt];omega
inductive yV:D->Prop
 |mk (z:Str) (ps os:List Str) (bs:List D) (hz:z.length<=8) (hp:∀y∈ps,y.length<=8) (lp:ps.length<=4) (ho:∀y∈os,y.length<=8) (lo:os.length<=6) (hb:∀x∈bs,cE 13 x=true):yV (.tup [.str z,.tup (ps.map .str),.tup (os.map .str),.tup bs])
theorem bX5{m:Nat}{d:D}(h:fS m d=true):∃zs:List Str,d= .tup (zs.map .str)/\zs.length<=m/\ ∀z∈zs,z.length<=8:=by
 obtain⟨zs,rfl,l⟩:=dJ8 h
 refine⟨zs,rfl,l,fun z hz=>?_⟩
 simp only[fS,and_eq_true,all_eq_true]at h
 obtain⟨_,e,_,l8⟩:=pK (h.2 (.str z) (List.mem_map.mpr ⟨z,hz,rfl⟩))
 cases e;exact l8
theorem dM7{d:D}(h:lT 13 d=true):∃bs,d= .tup bs/\ ∀x∈bs,cE 13 x=true:=yU h
theorem bX6{d:D}(h:mP d=true):yV d:=by
 unfold mP at h
 split at h
 ·rename_i nm p o b
  simp only[and_eq_true]at h
  obtain⟨h1,h2,h3,_,h5⟩:=h
  obtain⟨z,rfl,_,lz⟩:=pK h1
  obtain⟨ps,rfl,lp,hp⟩:=bX5 h2
  obtain⟨os,rfl,lo,ho⟩:=bX5 h3
  obtain⟨bs,rfl,hb⟩:=dM7 h5
  exact .mk z ps os bs lz hp lp ho lo hb
 ·cases h
theorem dM8{d:D}(h:yV d):(cJ (dW d)).length<=2*wt d+10/\dW d≠ []:=by
 cases h with
 |mk z ps os bs hz hp lp ho lo hb=>
  have L1:=bL8
  have h1:=cN7 hp
  have h2:=cN7 ho
  have h3:=bD9 fun x hx=>(vP 13 x (hb x hx)).1
  refine⟨?_,by simp[dW]⟩
  show(cJ (_::_::_::(qP (ps.map .str)++(_::(qP (os.map .str)++(_::bW 13 bs)))))).length<=_
  rw[wV,wV,dE,dE,dE,lG,length_append,dE,lG,length_append,dE,h1,h2]
  simp only[wt,wtL]at h3 ⊢;omega
theorem dM9(xs:List D):xS [.tup xs]= .ok (.lst xs):=rfl
theorem dN0(a b c:D):dM [a,b,c]= .ok (.lst [a,b,c]):=by
 have hs:=sizeLine_eq
 unfold dM;rw[if_pos (by show 3<=sizeLine;omega)]
section
variable(C C':CT)
theorem gL5{d:D}(h:yV d)(hw:wt d<=NN)(hd:kJ d=true)(hb:∀xs:List D,(∀x∈xs,cE 13 x=true)->wtL xs<=NN->widL xs=true->fZ C .q41 (.tup xs) (bW 13 xs)):((bU0 C C') #[d]).bind bL= .ok (.lst ((dW d).map .str)):=by
 have hs:=sizeLine_eq
 have hl:=(dM8 h).1
 have hl2:=rJ (dW d)
 cases h with
 |mk z ps os bs hz hp lp ho lo hbs=>
  have e:dW (.tup [.str z,.tup (ps.map .str),.tup (os.map .str),.tup bs])=((((([ofString "deed",z,ofString "with"]++ps)++ [ofString "own"])++os)++ [ofString "do"])++bW 13 bs):=by
   show _::_::_::(qP (ps.map .str)++(_::(qP (os.map .str)++(_::bW 13 bs))))=_
   rw[wV,wV];simp
  rw[e]at ⊢
  clear hl hl2
  have lb:(bW 13 bs).length<=sizeLine-100:=by
   have:=rJ (bW 13 bs)
   have h3:=bD9 fun x hx=>(vP 13 x (hbs x hx)).1
   simp only[wt,wtL]at h3 hw
   unfold NN at hw;omega
  have ix:∀(i:Nat) (x:D),[D.str z,.tup (ps.map .str),.tup (os.map .str),.tup bs][i]? =some x->m2 bS @0 (kc (.int (i:Int))) #[.tup [D.str z,.tup (ps.map .str),.tup (os.map .str),.tup bs]]= .ok x:=fun i x h=>c2 rfl rfl (gU i x h)
  have hwb:wtL bs<=NN:=by simp only[wt,wtL]at hw;omega
  have q:=hb bs hbs hwb (bE0 hd (by simp)).2
  unfold fZ at q
  generalize bW 13 bs=A at lb q ⊢
  unfold bU0
  refine gT (pT (pT (pT (pT (pT (a:=[ofString "deed",z,ofString "with"]) (a3 rfl (ix 0 _ rfl) rfl (dN0 _ _ _)) (a1 (ix 1 _ rfl) (dM9 _)) ?_) (b:=[ofString "own"]) (a1 rfl (tM _)) ?_) (a1 (ix 2 _ rfl) (dM9 _)) ?_) (b:=[ofString "do"]) (a1 rfl (tM _)) ?_) (a1 (ix 3 _ rfl) q) ?_)
  all_goals simp only[length_append,length_cons,length_nil];omega
end
theorem gL6(n:Nat)(d:D)(h:yV d)(hw:wt d<=NN)(hd:kJ d=true):fZ (Ph (n+77)) .q40 d (dW d):=by
 show((bU0 (Ph (n+76)) (Ph (n+74))) #[d]).bind bL=_
 exact gL5 _ _ h hw hd fun xs a w l=>dM6 n xs a w l
noncomputable def rM:D->List Str
 | .str z=>[ofString "word",z]
 |_=>[]
abbrev fA(zs:List Str):List Str:=(zs.map D.str).flatMap rM
theorem bX7(h:∀z∈zs,z.length<=8)(l:zs.length<=6):(cJ (fA zs)).length<=wtL (zs.map .str)+30:=by
 have L1:=bL8
 have key:∀zs:List Str,(∀z∈zs,z.length<=8)->(cJ (fA zs)).length=wtL (zs.map .str)+5*zs.length:=fun zs=>by
  induction zs with
  |nil=>exact fun _=>rfl
  |cons z r ih=>
   intro h
   have h1:=h z mem_cons_self
   have h2:=ih fun y hy=>h y (mem_cons_of_mem _ hy)
   show(cJ ((ofString "word" ::z:: [])++fA r)).length=_
   rw[lG,length_append,dE,dE,h2]
   simp only[map_cons,wtL,wt,cJ,length_nil,length_cons];omega
 rw[key zs h];omega
inductive yW:D->Prop
 |mk (z:Str) (ws:List Str) (ts:List D) (hz:z.length<=8) (hw:∀y∈ws,y.length<=8) (lw:ws.length<=6) (ht:∀x∈ts,mS x=true) (lt:ts.length<=6):yW (.tup [.str z,.tup (ws.map .str),.tup ts])
inductive yX:D->Prop
 |mk (z:Str) (ts:List D) (ws:List Str) (ds bs:List D) (hz:z.length<=8) (ht:∀x∈ts,kL x=true) (lt:ts.length<=8) (hw:∀y∈ws,y.length<=8) (lw:ws.length<=6) (hd:∀x∈ds,yV x) (ld:ds.length<=6) (hb:∀x∈bs,cE 13 x=true):yX (.tup [.str z,.tup ts,.tup (ws.map .str),.tup ds,.tup bs])
theorem bE1{d:D}(h:jW d=true):yW d:=by
 unfold jW at h
 split at h
 ·rename_i nm w t
  simp only[and_eq_true]at h
  obtain⟨h1,h2,h3,_⟩:=h
  obtain⟨z,rfl,_,lz⟩:=pK h1
  obtain⟨ws,rfl,lw,hw⟩:=bX5 h2
  obtain⟨ts,rfl,lt,ht⟩:=bW6 h3
  exact .mk z ws ts lz hw lw (List.all_eq_true.mp ht) lt
 ·cases h
theorem bE2{d:D}(h:lU d=true):yX d:=by
 unfold lU at h
 split at h
 ·rename_i nm t w ds b
  simp only[and_eq_true]at h
  obtain⟨h1,h2,h3,h4,h5⟩:=h
  obtain⟨z,rfl,_,lz⟩:=pK h1
  obtain⟨ws,rfl,lw,hw⟩:=bX5 h2
  obtain⟨ts,rfl,lt,ht⟩:=bW6 h3
  obtain⟨es,rfl,ld,hd⟩:=bW6 h4
  obtain⟨bs,rfl,hb⟩:=dM7 h5
  exact .mk z ts ws es bs lz (List.all_eq_true.mp ht) lt hw lw (fun x hx=>bX6 (List.all_eq_true.mp hd x hx)) ld hb
 ·cases h
theorem dN1{d:D}(h:mS d=true):∃(z:Str) (i:Int),d= .tup [.str z,.int i]/\z.length<=8/\(iS i).length=1/\i.natAbs<2^64:=by
 obtain⟨z,i,rfl,h1,h2,h3⟩:=bW7 h
 obtain⟨_,e,_,l⟩:=pK h1
 cases e
 refine⟨z,i,rfl,l,?_,by omega⟩
 obtain⟨n,rfl⟩:∃n:Nat,i=(n:Int):=⟨i.toNat,by omega⟩
 exact cM6 n bD
theorem bL9{d:D}(h:kL d=true):∃a b:Str,d= .tup [.str a,.str b]/\a.length<=8/\b.length<=8:=by
 unfold kL at h
 split at h
 ·rw[and_eq_true]at h
  obtain⟨a,rfl,_,la⟩:=pK h.1
  obtain⟨b,rfl,_,lb⟩:=pK h.2
  exact⟨a,b,rfl,la,lb⟩
 ·cases h
def fG:D->List Str
 | .tup [.str z,.tup ws,.tup ts]=>ofString "face" ::z::(ws.flatMap rM++(ts.flatMap lX++ [ofString "done"]))
 | .tup [.str z,.tup ts,.tup ws,.tup ds,.tup bs]=>ofString "unit" ::z::(ts.flatMap jJ++(ws.flatMap rM++(ds.flatMap dW++(ofString "do" ::(bW 13 bs++ [ofString "done"])))))
 |_=>[]
theorem bM0{f:D->List Str}{c:Nat}:∀{xs:List D},(∀x∈xs,(cJ (f x)).length<=2*wt x+c)->(cJ (xs.flatMap f)).length<=2*wtL xs+c*xs.length
 | [],_=>zero_le _
 |x::r,h=>by
  have h1:=h x mem_cons_self
  have h2:=bM0 fun y hy=>h y (mem_cons_of_mem _ hy)
  have e:c*(r.length+1)=c*r.length+c:=Nat.mul_succ _ _
  rw[flatMap_cons,lG,length_append,wtL,length_cons,e];omega
theorem dN2(h:mS x=true):(cJ (lX x)).length<=2*wt x+10:=by
 obtain⟨z,i,rfl,lz,li,_⟩:=dN1 h
 have L1:=bL8
 show(cJ [_,z,iS i]).length<=_
 rw[dE,dE,dE,li]
 simp only[wt,wtL,cJ,length_nil];omega
theorem gL7(h:kL x=true):(cJ (jJ x)).length<=2*wt x+10:=by
 obtain⟨a,b,rfl,la,lb⟩:=bL9 h
 have L1:=bL8
 show(cJ [_,b,_,a]).length<=_
 rw[dE,dE,dE,dE]
 simp only[wt,wtL,cJ,length_nil];omega
theorem gL8:(ofString "face").length=4/\(ofString "unit").length=4/\(ofString "done").length=4:=by decide+kernel
section
variable(C C':CT)
theorem dN3(h:∀z∈zs,z.length<=8)(l:zs.length<=6):((cJ5 C C') #[.tup (zs.map .str),(),()]).bind bL= .ok (.lst ((fA zs).map .str)):=by
 have hs:=sizeLine_eq
 have hl:=bX7 h l
 have hl2:((zs.map D.str).flatMap rM).length<=(cJ (fA zs)).length:=rJ _
 have hw:wtL (zs.map D.str)<=100:=by
  have:=rG (w:=9) (xs:=zs.map D.str) fun x hx=>by obtain⟨z,_,rfl⟩:=List.mem_map.mp hx;exact gH5 fun _ e=>by cases e
  rw[length_map]at this;omega
 unfold cJ5
 rw[gQ (show hV 1 #[.tup (zs.map .str),(),()]=bA.ok (Fl.nx [.val (.tup (zs.map .str)),.own [],.no])from rfl)]
 obtain⟨ρ',t1,t2,t3,t4⟩:=yS (i:=2) (j:=1) (by decide) (g:=mA dM {.("word"),@2}) (f:=rM) (zs.map .str) [.val (.tup (zs.map .str)),.own [],.no] [] rfl (by simp)
  (fun x hx ρ' h1 _=>by obtain⟨z,_,rfl⟩:=List.mem_map.mp hx;exact a2 rfl (pI h1) (cM7 _ _)) (by simp only[length_nil];omega)
 rw[gQ (show gH 2 (dP @0) _ _=bA.ok (Fl.nx ρ') by rw[qO (tJ rfl)];exact t1),pJ t2]
 exact gT (pI (getElem?_set_self (by rw[t4];simp)))
theorem gL9{d:D}(h:yW d)(hw:wt d<=NN)(hd:∀zs:List Str,(∀z∈zs,z.length<=8)->zs.length<=6->fZ C .q39 (.tup (zs.map .str)) (fA zs)):((bT8 C C') #[d,(),()]).bind bL= .ok (.lst ((fG d).map .str)):=by
 have hs:=sizeLine_eq
 cases h with
 |mk z ws ts hz hws lw ht lt=>
  have h1:=bX7 hws lw
  have h1':=rJ (fA ws)
  have h2:=bM0 (f:=lX) fun x hx=>dN2 (ht x hx)
  have h2':=rJ (ts.flatMap lX)
  have hww:wtL (ws.map D.str)+wtL ts<=8000000:=by simp only[wt,wtL]at hw;unfold NN at hw;omega
  have q:=hd ws hws lw
  unfold fZ at q
  unfold bT8
  have st:∀{s1 s2:Slot} (i:Nat) (x:D),[D.str z,.tup (ws.map .str),.tup ts][i]? =some x->m2 bS @0 (kc (.int (i:Int))) [.val (.tup [.str z,.tup (ws.map .str),.tup ts]),s1,s2]= .ok x:=fun i x h=>c2 rfl rfl (gU i x h)
  have q0:lD 1 (bB0 (mA dM {.("face"),0^^^0}) (mA (C .q39) {0^^^1})) #[.tup [.str z,.tup (ws.map .str),.tup ts],(),()]= .ok (.nx [.val (.tup [.str z,.tup (ws.map .str),.tup ts]),.own ((([ofString "face",z]++fA ws)).map .str),.no]):=by
   unfold lD bB0
   have e1:mA dM {.("face"),0^^^0} #[.tup [.str z,.tup (ws.map .str),.tup ts],(),()]= .ok (.lst [.str "face",.str z]):=a2 rfl (st 0 _ rfl) (cM7 _ _)
   have e2:mA (C .q39) {0^^^1} #[.tup [.str z,.tup (ws.map .str),.tup ts],(),()]= .ok (.lst ((fA ws).map .str)):=a1 (st 1 _ rfl) q
   rw[e1,e2]
   show bA.bind (if [D.str "face",.str z].length+((fA ws).map D.str).length<=sizeLine then _ else _) _=_
   rw[if_pos (by rw[length_map];show 2+_<=_;omega),map_append];rfl
  rw[gQ q0]
  obtain⟨ρ',t1,t2,t3,t4⟩:=yS (i:=2) (j:=1) (by decide) (g:=mA dM {.("deed"),2^^^0,(mA mI {2^^^1})}) (f:=lX) ts [.val (.tup [.str z,.tup (ws.map .str),.tup ts]),.own ((([ofString "face",z]++fA ws)).map .str),.no] ([ofString "face",z]++fA ws) rfl (by simp)
   (fun x hx ρ' g1 _=>by
     obtain⟨y,i,rfl,ly,li,l64⟩:=dN1 (ht x hx)
     exact a3 rfl (c2 (pI g1) rfl (gU 0 _ rfl)) (a1 (c2 (pI g1) rfl (gU 1 _ rfl)) (show mI [.int i]= .ok (.str (iS i)) by simp only[mI];rw[if_pos l64])) (dN0 _ _ _)) (by rw[length_append];show 2+_+_<=_;omega)
  have q3:dP (0^^^2) [.val (.tup [.str z,.tup (ws.map .str),.tup ts]),.own ((([ofString "face",z]++fA ws)).map .str),.no]= .ok ts:=tJ (st 2 (.tup ts) rfl)
  rw[gQ (show gH 2 (dP (0^^^2)) _ _=bA.ok (Fl.nx ρ') by rw[qO q3];exact t1),pJ t2]
  have e:fG (.tup [.str z,.tup (ws.map .str),.tup ts])=(([ofString "face",z]++fA ws)++ts.flatMap lX)++ [ofString "done"]:=by
   show _::z::((ws.map D.str).flatMap rM++(ts.flatMap lX++ [_]))=_
   simp
  rw[e]
  exact gT (pT (pI (getElem?_set_self (by rw[t4];simp))) (a1 rfl (tM _)) (by simp only[length_append,length_cons,length_nil];have:((ws.map D.str).flatMap rM).length=(fA ws).length:=rfl;omega))
end
theorem gM0(a b c d:D):dM [a,b,c,d]= .ok (.lst [a,b,c,d]):=by
 have hs:=sizeLine_eq
 unfold dM;rw[if_pos (by show 4<=sizeLine;omega)]
theorem cN8{d:D}(h:yW d\/yX d):(cJ (fG d)).length<=2*wt d+200/\fG d≠ []:=by
 have L1:=bL8
 have L2':=gL8
 rcases h with h|h
 ·cases h with
  |mk z ws ts hz hws lw ht lt=>
   have h1:=bX7 hws lw
   have h2:=bM0 (f:=lX) fun x hx=>dN2 (ht x hx)
   refine⟨?_,by simp[fG]⟩
   show(cJ (_::z::(fA ws++(ts.flatMap lX++ [_])))).length<=_
   rw[dE,dE,lG,length_append,lG,length_append,dE]
   simp only[wt,wtL,cJ,length_nil];omega
 ·cases h with
  |mk z ts ws ds bs hz ht lt hws lw hds ld hb=>
   have h1:=bX7 hws lw
   have h2:=bM0 (f:=jJ) fun x hx=>gL7 (ht x hx)
   have h3:=bM0 (f:=dW) fun x hx=>(dM8 (hds x hx)).1
   have h4:=bD9 fun x hx=>(vP 13 x (hb x hx)).1
   refine⟨?_,by simp[fG]⟩
   show(cJ (_::z::(ts.flatMap jJ++(fA ws++(ds.flatMap dW++(_::(bW 13 bs++ [_]))))))).length<=_
   rw[dE,dE,lG,length_append,lG,length_append,lG,length_append,dE,lG,length_append,dE]
   simp only[wt,wtL,cJ,length_nil]at h4 ⊢;omega
section
variable(C C':CT)
theorem gM1{d:D}(h:yX d)(hw:wt d<=NN)(hwid:kJ d=true)(hd:∀zs:List Str,(∀z∈zs,z.length<=8)->zs.length<=6->fZ C .q39 (.tup (zs.map .str)) (fA zs))
 (he:∀x,yV x->wt x<=NN->kJ x=true->fZ C .q40 x (dW x)) (hb:∀xs:List D,(∀x∈xs,cE 13 x=true)->wtL xs<=NN->widL xs=true->fZ C .q41 (.tup xs) (bW 13 xs)):((bT9 C C') #[d,(),(),()]).bind bL= .ok (.lst ((fG d).map .str)):=by
 have hs:=sizeLine_eq
 have hlen:=(cN8 (.inr h)).1
 have hl2:=rJ (fG d)
 unfold NN at hw
 cases h with
 |mk z ts ws ds bs hz ht lt hws lw hds ld hbs=>
  have e:fG (.tup [.str z,.tup ts,.tup (ws.map .str),.tup ds,.tup bs])=((((([ofString "unit",z]++ts.flatMap jJ)++fA ws)++ds.flatMap dW)++ [ofString "do"])++bW 13 bs)++ [ofString "done"]:=by
   show _::z::(ts.flatMap jJ++((ws.map D.str).flatMap rM++(ds.flatMap dW++(_::(bW 13 bs++ [_])))))=_
   simp
  have q:=hd ws hws lw
  have wb:wtL bs<=NN/\wtL ds<=NN:=by simp only[wt,wtL]at hw;unfold NN;omega
  have q2:=hb bs hbs wb.1 (bE0 hwid (by simp)).2
  have wds:=(bE0 (xs:=ds) hwid (by simp)).2
  unfold fZ at q q2
  rw[e]at hl2 hlen ⊢
  generalize fA ws=DC at q hl2 hlen ⊢
  generalize bW 13 bs=A at q2 hl2 hlen ⊢
  simp only[length_append,length_cons,length_nil]at hl2
  have st:∀{s1 s2 s3:Slot} (i:Nat) (x:D),[D.str z,.tup ts,.tup (ws.map .str),.tup ds,.tup bs][i]? =some x->m2 bS @0 (kc (.int (i:Int))) [.val (.tup [D.str z,.tup ts,.tup (ws.map .str),.tup ds,.tup bs]),s1,s2,s3]= .ok x:=fun i x h=>c2 rfl rfl (gU i x h)
  have stv:∀{O:cU} (i:Nat) (x:D),O[0]? =some (.val (.tup [D.str z,.tup ts,.tup (ws.map .str),.tup ds,.tup bs]))-> [D.str z,.tup ts,.tup (ws.map .str),.tup ds,.tup bs][i]? =some x->m2 bS @0 (kc (.int (i:Int))) O= .ok x:=fun i x h0 h=>c2 (pI h0) rfl (gU i x h)
  unfold bT9
  have q0:lD 1 (nB {.("unit"),0^^^0}) #[.tup [D.str z,.tup ts,.tup (ws.map .str),.tup ds,.tup bs],(),(),()]= .ok (.nx [.val (.tup [D.str z,.tup ts,.tup (ws.map .str),.tup ds,.tup bs]),.own ([ofString "unit",z].map .str),.no,.no]):=by
   have e1:m2 bS @0 .(0) #[.tup [D.str z,.tup ts,.tup (ws.map .str),.tup ds,.tup bs],(),(),()]= .ok (.str z):=st 0 _ rfl
   unfold lD nB
   simp only[aC,bP,kc,e1,jL]
   show bA.bind (if 2<=sizeLine then _ else _) _=_
   rw[if_pos bD];rfl
  rw[gQ q0]
  obtain⟨ρ1,t1,t2,t3,t4⟩:=yS (i:=2) (j:=1) (by decide) (g:=mA dM {.("take"),2^^^1,.("from"),2^^^0}) (f:=jJ) ts [.val (.tup [D.str z,.tup ts,.tup (ws.map .str),.tup ds,.tup bs]),.own ([ofString "unit",z].map .str),.no,.no] [ofString "unit",z] rfl (by simp)
   (fun x hx ρ' g1 _=>by
     obtain⟨a,b,rfl,la,lb⟩:=bL9 (ht x hx)
     exact a4 rfl (c2 (pI g1) rfl (gU 1 _ rfl)) rfl (c2 (pI g1) rfl (gU 0 _ rfl)) (gM0 _ _ _ _)) (by show 2+_<=_;omega)
  have p1:dP (0^^^1) [.val (.tup [D.str z,.tup ts,.tup (ws.map .str),.tup ds,.tup bs]),.own ([ofString "unit",z].map .str),.no,.no]= .ok ts:=tJ (st 1 (.tup ts) rfl)
  rw[gQ (show gH 2 (dP (0^^^1)) _ _=bA.ok (Fl.nx ρ1) by rw[qO p1];exact t1)]
  have r0:ρ1[0]? =some (.val (.tup [D.str z,.tup ts,.tup (ws.map .str),.tup ds,.tup bs])):=t3 0 (by decide) (by decide)
  have hl1:1<ρ1.length:=by rw[t4];simp
  have q3:kT 1 (mA (C .q39) {0^^^2}) ρ1= .ok (.nx (ρ1.set 1 (.own ((([ofString "unit",z]++ts.flatMap jJ)++DC).map .str)))):=by
   have e1:mA (C .q39) {0^^^2} ρ1= .ok (.lst (DC.map .str)):=a1 (stv 2 _ r0 rfl) q
   unfold kT
   rw[e1]
   show bB1 1 ρ1 (.lst (DC.map .str))=_
   unfold bB1
   rw[t2]
   show(if _ then _ else _)=_
   rw[if_pos (by simp only[length_map,length_append,length_cons,length_nil];omega)]
   simp only[map_append]
  rw[gQ q3]
  have r0':(ρ1.set 1 (.own ((([ofString "unit",z]++ts.flatMap jJ)++DC).map .str)))[0]? =some (.val (.tup [D.str z,.tup ts,.tup (ws.map .str),.tup ds,.tup bs])):=by rw[getElem?_set_ne (by decide)];exact r0
  obtain⟨ρ2,u1,u2,u3,u4⟩:=yS (i:=3) (j:=1) (by decide) (g:=mA (C .q40) {@3}) (f:=dW) ds (ρ1.set 1 (.own ((([ofString "unit",z]++ts.flatMap jJ)++DC).map .str))) (([ofString "unit",z]++ts.flatMap jJ)++DC) (getElem?_set_self hl1) (by simp[t4])
   (fun x hx ρ' g1 _=>a1 (pI g1) (he x (hds x hx) (by have:=bX2 hx;omega) (bV9 wds hx))) (by simp only[length_append,length_cons,length_nil];omega)
  have p2:dP (0^^^3) (ρ1.set 1 (.own ((([ofString "unit",z]++ts.flatMap jJ)++DC).map .str)))= .ok ds:=tJ (stv 3 _ r0' rfl)
  rw[gQ (show gH 3 (dP (0^^^3)) _ _=bA.ok (Fl.nx ρ2) by rw[qO p2];exact u1),pJ u2]
  have r2:ρ2[0]? =some (.val (.tup [D.str z,.tup ts,.tup (ws.map .str),.tup ds,.tup bs])):=by rw[u3 0 (by decide) (by decide)];exact r0'
  have l2:1<ρ2.length:=by rw[u4];simpa using hl1
  refine gT (pT (pT (pT (pI (getElem?_set_self l2)) (b:=[ofString "do"]) (a1 rfl (tM _)) ?_) (a1 (stv 4 (.tup bs) (by rw[getElem?_set_ne (by decide)];exact r2) rfl) q2) ?_) (b:=[ofString "done"]) (a1 rfl (tM _)) ?_)
  all_goals simp only[length_append,length_cons,length_nil];omega
theorem gM2{d:D}(h:jW d=true\/(jW d=false/\lU d=true))(hw:wt d<=NN)(h1:C .q16 [d]= .ok (.bl (jW d)))(h2:C .q18 [d]= .ok (.bl (lU d)))
 (h3:yW d->fZ C .q37 d (fG d)) (h4:yX d->fZ C .q38 d (fG d)):∃t,((bT7 C C') #[d]).bind bL= .ok (.str t)/\Ls t=tl (fG d):=by
 have hs:=sizeLine_eq
 unfold bT7
 have key:∀{f:Fn},(yW d\/yX d)->fZ C f d (fG d)->∃t,pQ vG .(" ") {(mA (C f) {@0})} #[d]= .ok (.str t)/\Ls t=tl (fG d):=fun{f} hc hq=>by
  have hl:=(cN8 hc).1
  obtain⟨t,e1,e2⟩:=gK3 (ws:=fG d) (by unfold NN at hw;omega)
  refine⟨t,?_,e2⟩
  have e3:mA (C f) {@0} #[d]= .ok (.lst ((fG d).map .str)):=a1 rfl hq
  show(bA.ok (D.str " ")).bind (fun d'=>(cD5 d').bind fun z=>(aC (mA (C f) {@0}) (bP) #[d]).bind fun ds=>vG z ds)=_
  simp only[jL,cD5,aC,bP,e3]
  exact e1
 rcases h with h|⟨ha,h⟩
 ·rw[fH (cT (a1 rfl (h1.trans (by rw[h]))))]
  exact rSq (key (.inl (bE1 h)) (h3 (bE1 h)))
 ·rw[dD (cT (a1 rfl (h1.trans (by rw[ha])))),fH (cT (a1 rfl (h2.trans (by rw[h]))))]
  exact rSq (key (.inr (bE2 h)) (h4 (bE2 h)))
end
theorem gM3(n:Nat)(d:D)(h:jW d=true\/(jW d=false/\lU d=true))(hw:wt d<=NN)(hd:kJ d=true):Txd (Ph (n+84)) .q36 [d] (fG d):=by
 show ∃t,((bT7 (Ph (n+83)) (Ph (n+81))) #[d]).bind bL= .ok (.str t)/\_
 refine gM2 _ _ h hw (dK3 (n+71) d) (dK4 n d) (fun hf=>?_) fun hu=>?_
 ·show((bT8 (Ph (n+82)) (Ph (n+80))) #[d,(),()]).bind bL=_
  exact gL9 _ _ hf hw fun zs a l=>dN3 _ _ a l
 ·show((bT9 (Ph (n+82)) (Ph (n+80))) #[d,(),(),()]).bind bL=_
  exact gM1 _ _ hu hw hd (fun zs a l=>dN3 _ _ a l) (fun x hx wx dx=>gL6 (n+5) x hx wx dx) fun xs a w l=>dM6 (n+6) xs a w l
def At(ws:List D)(k:Nat)(l:List Str):Prop:=∃r,ws.drop k=l.map D.str++r
section
variable{l':List Str}
theorem At.one(h:At ws k (w::l)):ws[k]? =some (.str w):=by
 obtain⟨r,h⟩:=h
 have e:(ws.drop k)[0]? =some (.str w):=by rw[h];rfl
 rw[List.getElem?_drop]at e;exact e
theorem At.tl(h:At ws k (w::l)):At ws (k+1) l:=by
 obtain⟨r,h⟩:=h
 refine⟨r,?_⟩
 have e:ws.drop (k+1)=(ws.drop k).drop 1:=by rw[List.drop_drop]
 rw[e,h];rfl
theorem At.left(h:At ws k (l++l')):At ws k l:=by
 obtain⟨r,h⟩:=h
 exact⟨l'.map .str++r,by rw[h,map_append,append_assoc]⟩
theorem At.right(h:At ws k (l++l')):At ws (k+l.length) l':=by
 obtain⟨r,h⟩:=h
 refine⟨r,?_⟩
 have e:ws.drop (k+l.length)=(ws.drop k).drop l.length:=by rw[List.drop_drop]
 rw[e,h,map_append,append_assoc,List.drop_append_of_le_length (by rw[length_map];exact le_refl _),List.drop_of_length_le (by rw[length_map];exact le_refl _)];rfl
end
abbrev Rd(C:CT)(f:Fn)(as:List D)(ws:List D)(k:Nat)(d:D)(k':Nat):Prop:=C f (.lst ws:: .int (k:Int)::as)= .ok (.tup [d,.int (k':Int)])
section
variable{fa:MA}{g:MX}{R:MS}{p:Bool}{k k':Int}{d:D}
theorem cW(hi:O[i]? =some (.row p ws k))(hf:fa O= .ok ds)(hm:m (.lst ws:: .int k::ds)= .ok (.tup [d,.int k'])):bT i m fa O= .ok (d,k'):=by
 unfold bT
 rw[hi]
 show(fa O).bind _=_
 rw[hf]
 show yB (m (.lst ws:: .int k::ds))=_
 rw[hm];rfl
theorem qQ(hi:O[i]? =some (.row p ws k))(hf:f O= .ok d):xP i f O= .ok (d,k):=by
 unfold xP
 rw[hf,hi];rfl
theorem bE3{kk:D->MS}(hi:O[i]? =some (.row p ws k))(hg:g O= .ok (d,k')):vH i g kk O=kk d (O.set i (.row p ws k')):=by
 unfold vH
 rw[hi]
 show(g O).bind _=_
 rw[hg];rfl
theorem nI(hi:O[i]? =some (.row p ws k))(hg:g O= .ok (d,k')):bB (fX i g) R O=R (O.set i (.row p ws k')):=by
 unfold bB fX
 rw[bE3 hi hg];rfl
theorem kX(hi:O[i]? =some (.row p ws k))(hg:g O= .ok (d,k')):bB (fB i j g) R O=R ((O.set i (.row p ws k')).set j (.val d)):=by
 unfold bB fB
 rw[bE3 hi hg];rfl
theorem mV(hi:O[i]? =some (.row p ws k))(hg:g O= .ok (d,k')):(fM i g O).bind cF=bB6 d (O.set i (.row p ws k')):=by
 unfold fM
 rw[bE3 hi hg];rfl
theorem bE4(hi:O[i]? =some (.row p ws k))(hg:g O= .ok (d,k')):(bB (fM i g) R O).bind cF=bB6 d (O.set i (.row p ws k')):=by
 unfold bB fM
 rw[bE3 hi hg];rfl
theorem bE5(hi:O[i]? =some (.row p ws k))(hm:m [.lst ws,.int k]= .ok (.tup [d,.int k])):hX i m O= .ok d:=by
 unfold hX
 rw[hi]
 show(yB (m [.lst ws,.int k])).bind _=_
 rw[hm]
 show(if k=k then _ else _)=_
 rw[if_pos rfl]
theorem yY(hj:O[j]? =some (.own xs))(hij:i≠j)(hi:O[i]? =some (.row p ws k))(hg:g O= .ok (d,k'))(hl:xs.length<sizeLine):kU i j g O= .ok (.nx ((O.set i (.row p ws k')).set j (.own (xs++ [d])))):=by
 unfold kU
 rw[hj]
 show vH i g _ O=_
 rw[bE3 hi hg]
 show(match(O.set i (.row p ws k'))[j]? with|some (.own ds)=>if ds.length<sizeLine then _ else _|_=>_)=_
 rw[getElem?_set_ne hij,hj]
 exact if_pos hl
theorem gM4{t:MT}(n:Nat)(h:t O= .ok false):qL t u (n+1) O= .ok (.nx O):=by
 rw[qL,h];rfl
theorem gM5{t:MT}{ρ':cU}(n:Nat)(h:t O= .ok true)(h2:u O= .ok (.nx ρ')):qL t u (n+1) O=qL t u n ρ':=by
 rw[qL,h]
 show(u O).bind _=_
 rw[h2];rfl
end
theorem yZ{t:MT}{e:Str}{r:Nat->List D->Slot->cU}{f:D->List Str}(stop:∀k acc s,At ws k [e]->t (r k acc s)= .ok false):∀(xs:List D) (n k:Nat) (acc:List D) (s:Slot),xs.length<n->acc.length+xs.length<=10000000->
 (∀x∈xs,∀k acc s,acc.length<10000000->At ws k (f x)->t (r k acc s)= .ok true/\ ∃s',u (r k acc s)= .ok (.nx (r (k+(f x).length) (acc++ [x]) s')))->At ws k (xs.flatMap f++ [e])->
 ∃s',qL t u n (r k acc s)= .ok (.nx (r (k+(xs.flatMap f).length) (acc++xs) s'))
 | [],n+1,k,acc,s,_,_,_,h=>⟨s,by rw[gM4 n (stop k acc s h)];simp⟩
 |x::xs,n+1,k,acc,s,hn,hl,go,h=>by
  rw[flatMap_cons,append_assoc]at h
  rw[length_cons]at hn hl
  obtain⟨h1,s1,h2⟩:=go x mem_cons_self k acc s bD h.left
  obtain⟨s',e'⟩:=yZ stop xs n (k+(f x).length) (acc++ [x]) s1 bD (by rw[length_append];simp only[length_cons,length_nil];omega) (fun y hy=>go y (mem_cons_of_mem _ hy)) h.right
  refine⟨s',?_⟩
  rw[gM5 n h1 h2,e',flatMap_cons,length_append,Nat.add_assoc,append_assoc];rfl
 | [],0,_,_,_,h,_,_,_=>absurd h (Nat.not_lt_zero _)
 |_::_,0,_,_,_,h,_,_,_=>absurd h (Nat.not_lt_zero _)
section
theorem gM6(C C':CT)(h:ws[k]? =some (.str w)):((cK2 C C') [.row true ws (k:Int)]).bind cF= .ok (.tup [.str w,.int (k:Int)]):=by
 have hk:k<ws.length:=(List.getElem?_eq_some_iff.mp h).1
 unfold cK2
 refine(mV (p:=true) (ws:=ws) (k:=(k:Int)) (k':=(k:Int)) (d:=.str w) rfl (qQ rfl ?_)).trans rfl
 have t:mB (m2 nR (yE 0) (mA cD {(yD 0)})) [.row true ws (k:Int)]= .ok true:=by
  have e:nR (.int (k:Int)) (.int (ws.length:Int))= .ok (.bl true):=by
   show bA.ok (D.bl (decide ((k:Int)<(ws.length:Int))))=_
   rw[decide_eq_true bD]
  exact cB (c2 rfl (a1 rfl rfl) e)
 unfold wA
 rw[t,jL,if_pos rfl]
 refine c2 rfl rfl ?_
 have e:fP ws (k:Int)=some (.str w):=zR h
 simp only[bS,e]
theorem dN4(n:Nat)(h:ws[k]? =some (.str w)):Rd (Ph (n+3)) .q63 [] ws k (.str w) k:=gM6 (Ph (n+2)) (Ph n) h
theorem bX8(n:Nat)(h:ws[k]? =some (.str w)):Rd (Ph (n+4)) .q64 [] ws k (.str w) (k+1):=by
 show((cK3 (Ph (n+3)) (Ph (n+1))) [.row true ws (k:Int),.no]).bind cF=_
 unfold cK3
 rw[mO (bE5 (p:=true) (ws:=ws) (k:=(k:Int)) rfl (dN4 n h))]
 show(bB (bB4 0 1) _ #[.row true ws (k:Int),.str w]).bind cF=_
 have e:bB (bB4 0 1) (fM 0 (xP 0 @1)) #[.row true ws (k:Int),.str w]=fM 0 (xP 0 @1) #[.row true ws ((k:Int)+1),.str w]:=rfl
 rw[e]
 exact(mV (p:=true) (ws:=ws) (k:=(k:Int)+1) rfl (qQ rfl rfl)).trans rfl
theorem gM7(n:Nat)(h:ws[k]? =some (.str w)):Rd (Ph (n+5)) .skip [.str w] ws k .non (k+1):=by
 show((cK4 (Ph (n+4)) (Ph (n+2))) #[.row true ws (k:Int),.str w,()]).bind cF=_
 unfold cK4
 rw[kX (p:=true) (ws:=ws) (k:=(k:Int)) rfl (cW rfl rfl (bX8 n h))]
 show(bH _ _ bM #[.row true ws ((k+1:Nat):Int),.str w,.str w]).bind cF=_
 have t:mB (m2 jS @2 @1) #[.row true ws ((k+1:Nat):Int),.str w,.str w]= .ok false:=cB (c2 rfl rfl (by simp[jS,cV,fV]))
 unfold bH
 rw[t];rfl
theorem gM8(n:Nat)(h:ws.length=k):Rd (Ph (n+3)) .q66 [] ws k (.bl true) k:=by
 show((cK5 (Ph (n+2)) (Ph n)) [.row true ws (k:Int)]).bind cF=_
 unfold cK5
 refine(mV (p:=true) (ws:=ws) (k:=(k:Int)) (k':=(k:Int)) (d:=.bl true) rfl (qQ rfl ?_)).trans rfl
 refine c2 rfl (a1 rfl rfl) ?_
 rw[h,rF,beq_self_eq_true]
theorem gM9(n:Nat)(h:ws[k]? =some (.str w))(hn:bR (.str w)=true):Rd (Ph (n+5)) .q33 [] ws k (.str w) (k+1):=by
 show((cJ2 (Ph (n+4)) (Ph (n+2))) [.row true ws (k:Int),.no]).bind cF=_
 unfold cJ2
 rw[kX (p:=true) (ws:=ws) (k:=(k:Int)) rfl (cW rfl rfl (bX8 n h))]
 show(bB (bH _ _ bM) _ #[.row true ws ((k+1:Nat):Int),.str w]).bind cF=_
 have q:=qN (n+1) (.str w)
 rw[hn]at q
 rw[dD (cN (cT (a1 rfl q)))]
 exact(mV (p:=true) (ws:=ws) (k:=((k+1:Nat):Int)) rfl (qQ rfl rfl)).trans rfl
end
noncomputable def rN(c:Nat):Bool:=decide (48<=c/\c<=57)
theorem gN0:("0" :Str).cps.toList= [48]:=by decide+kernel
theorem gN1:("9" :Str).cps.toList= [57]:=by decide+kernel
theorem gN2(c:Nat):dS cP cP .("0") @0 .("9") #[.str ⟨[c].toArray⟩]= .ok (.bl (rN c)):=by
 have e1:cP (.str "0") (.str ⟨[c].toArray⟩)= .ok (.bl (!decide (c<48))):=by
  simp only[cP,gN0]
  have:decide (([c]:List Nat)< [48])=decide (c<48):=decide_eq_decide.mpr (bV6 c 48)
  show bA.ok (D.bl (!decide ([c]< [48])))=_
  rw[this]
 have e2:cP (.str ⟨[c].toArray⟩) (.str "9")= .ok (.bl (!decide (57<c))):=by
  simp only[cP,gN1]
  have:decide (([57]:List Nat)< [c])=decide (57<c):=decide_eq_decide.mpr (bV6 57 c)
  show bA.ok (D.bl (!decide ([57]< [c])))=_
  rw[this]
 by_cases h:c<48
 ·have hl:rN c=false:=by unfold rN;exact decide_eq_false bD
  simp[dS,kc,gv,bA.bind,e1,gN,h,hl]
 ·have hl:rN c= !decide (57<c):=by
   unfold rN
   by_cases h2:57<c
   ·rw[decide_eq_true h2,decide_eq_false bD];rfl
   ·rw[decide_eq_false h2,decide_eq_true bD];rfl
  simp[dS,kc,gv,bA.bind,e1,e2,gN,h,hl]
theorem dN5:∀cs:List Nat,dG (fun _=>.ok true) (dS cP cP .("0") @0 .("9")) [] (cs.map fun c=>D.str ⟨[c].toArray⟩)= .ok (cs.map fun c=>.bl (rN c))
 | []=>rfl
 |c::cs=>by
  rw[map_cons,dG]
  show(bA.bind (dS cP cP .("0") @0 .("9") #[.str ⟨[c].toArray⟩]) _)=_
  rw[gN2]
  show(bA.bind (dG _ _ [] (cs.map fun c=>D.str ⟨[c].toArray⟩)) _)=_
  rw[dN5 cs];rfl
theorem gN3(n:Nat)(z:Str)(h1:1<=z.length)(h6:z.length<=6)(h:z.cps.toList.all rN=true):Ph (n+3) .q35 [.str z]= .ok (.bl true):=by
 show((cJ4 (Ph (n+2)) (Ph n)) #[.str z]).bind bL=_
 unfold cJ4
 have hs:=sizeLine_eq
 have l1:mA cD {@0} #[.str z]= .ok (.int (z.length:Int)):=a1 rfl rfl
 have l2:mA cD {(mA mI {(kc vL)})} #[.str z]= .ok (.int 6):=by kernel_rfl
 have t:mB (dS cP cP .(1) (mA cD {@0}) (mA cD {(mA mI {(kc vL)})})) #[.str z]= .ok true:=by
  have h2:(1:Int)<=(z.length:Int):=by omega
  have h3:(z.length:Int)<=6:=by omega
  unfold mB dS
  rw[l1,l2]
  simp[kc,bA.bind,cP,gN,h2,h3]
 rw[dD (cN t)]
 have hsz:(lQ z).length<=sizeLine:=by
  have e:(lQ z).length=z.length:=by unfold lQ;rw[length_map];rfl
  omega
 have hcomp:kO [] (dP @0) (fun _=>.ok true) (dS cP cP .("0") @0 .("9")) #[.str z]= .ok (.lst (z.cps.toList.map fun c=>.bl (rN c))):=by
  show bA.bind (bA0 (.str z)) _=_
  show(if(lQ z).length<=sizeLine then(dG _ _ _ (lQ z)).bind _ else .bad)=_
  rw[if_pos hsz,show dG (fun _=>.ok true) (dS cP cP .("0") @0 .("9")) (fJ [] #[.str z]) (lQ z)=_ from dN5 z.cps.toList];rfl
 refine gT (a1 hcomp ?_)
 simp only[wD]
 rw[cL1]
 show bA.ok (D.bl ((z.cps.toList.map rN).all id))=_
 rw[all_map]
 exact congrArg (fun b=>bA.ok (D.bl b)) h
noncomputable abbrev dg(m:Nat):List Nat:=(toDigits 10 m).map Char.toNat
theorem bE6(m:Nat):PySem.NumText.AllDigits (dg m):=fun c hc=>by
 obtain⟨ch,hch,e⟩:=List.mem_map.mp hc
 have r:=PyProof.Rows.digit_range (Nat.isDigit_of_mem_toDigits (by decide) (by decide) hch)
 rw[<-e];exact r
theorem dN6{m:Nat}(h:m<1000000):(dg m).length<=6/\1<=(dg m).length:=by
 rw[length_map]
 exact⟨PySem.toDigits_len_pow (by decide) (by decide) h,PySem.toDigits_len_ge 10 m⟩
theorem dc:∀d:Nat,d<10->0<d->49<=(Nat.digitChar d).toNat:=by decide
theorem cN9(m:Nat)(h:0<m):∃c r,dg m=c::r/\49<=c:=by
 induction m using Nat.strongRecOn with
 |_ m ih=>
  by_cases h10:m<10
  ·refine⟨(Nat.digitChar m).toNat,[],?_,dc m h10 h⟩
   show(toDigits 10 m).map _=_
   rw[Nat.toDigits_of_lt_base h10];rfl
  ·have hm:m%10<10:=Nat.mod_lt m (by decide)
   have t:toDigits 10 (m/10)++toDigits 10 (m%10)=toDigits 10 (10*(m/10)+m%10):=Nat.toDigits_append_toDigits (by decide) bD hm
   rw[Nat.div_add_mod]at t
   obtain⟨c,r,e,hc⟩:=ih (m/10) bD bD
   refine⟨c,r++(toDigits 10 (m%10)).map Char.toNat,?_,hc⟩
   show(toDigits 10 m).map _=_
   rw[<-t,map_append]
   exact congrArg (· ++_) e
theorem cO0(m:Nat):Ls (iS (-((m+1:Nat):Int)))=45::dg (m+1):=by
 show(ofString (toString (-((m+1:Nat):Int)))).cps.toList=_
 rw[signs_ofString]
 have e:toString (-((m+1:Nat):Int))="-" ++Nat.repr (m+1):=rfl
 rw[e,String.toList_append,map_append,Nat.toList_repr];rfl
theorem cO1(m:Nat):Ls (iS ((m:Nat):Int))=dg m:=W.KIN.signs_num m
theorem bX9{c:Nat}{r:List Nat}(h:Ls z=c::r)(b:Nat):Txt.startswith z ⟨[b].toArray⟩=(c==b):=by
 obtain⟨⟨x⟩⟩:=z
 cases(show x=c::r from h)
 unfold Txt.startswith PySem.Builtin.Str.subAt
 show(decide (0+1<=(c::r).length)&&((c::r).toArray.extract 0 (0+1)== [b].toArray))=_
 rw[decide_eq_true (by simp),Bool.true_and]
 simp
theorem gN4{c:Nat}{r:List Nat}(h:Ls z=c::r):sJ z (some 1) none=⟨r.toArray⟩:=by
 unfold sJ
 rw[show z.cps.toList=c::r from h]
 unfold jN
 rw[HT.sIx_none,show(1:Int)=((1:Nat):Int)from rfl,HT.sIx_nat,show min 1 (c::r).length=1 by simp]
 have e:((c::r).drop 1).take ((c::r).length-1)=r:=by simp
 rw[e]
theorem gN5(n:Nat){i:Int}(hi:jV (.int i)=true)(h:ws[k]? =some (.str (iS i))):Rd (Ph (n+5)) .q34 [] ws k (.int i) (k+1):=by
 simp only[jV,decide_eq_true_eq]at hi
 show((cJ3 (Ph (n+4)) (Ph (n+2))) [.row true ws (k:Int),.no,.no]).bind cF=_
 unfold cJ3
 rw[kX (p:=true) (ws:=ws) (k:=(k:Int)) rfl (cW rfl rfl (bX8 n h))]
 show(bB (bU 2 _) _ #[.row true ws ((k+1:Nat):Int),.str (iS i),()]).bind cF=_
 have key:∃F:Str,wA (mT (pQ sK @1 {.("-")})) (pP @1 (pO .(1)) (pN)) @1 #[.row true ws ((k+1:Nat):Int),.str (iS i),()]= .ok (.str F)/\(1<=F.length/\F.length<=6/\F.cps.toList.all rN=true)/\(Txt.startswith F "0" && !(iS i==ofString "0"))=false/\PySem.intText? (iS i)=some i/\(iS i).length<=640:=by
  have one:("-" :Str)=⟨[45].toArray⟩:=by decide+kernel
  have zer:("0" :Str)=⟨[48].toArray⟩:=by decide+kernel
  rcases Int.lt_or_le i 0 with hneg|hpos
  ·obtain⟨m,rfl⟩:∃m:Nat,i= -((m+1:Nat):Int):=⟨(-i).toNat-1,by omega⟩
   have hx:=cO0 m
   obtain⟨l6,l1⟩:=dN6 (m:=m+1) bD
   obtain⟨c,r,e,hc⟩:=cN9 (m+1) bD
   have hlen:(iS (-((m+1:Nat):Int))).length=(dg (m+1)).length+1:=by rw[<-bL3,hx,length_cons]
   refine⟨⟨(dg (m+1)).toArray⟩,?_,⟨?_,?_,?_⟩,?_,?_,by omega⟩
   ·unfold wA
    rw[show mT (pQ sK @1 {.("-")}) #[.row true ws ((k+1:Nat):Int),.str (iS (-((m+1:Nat):Int))),()]= .ok true from cT (show bA.ok (D.bl (Txt.startswith (iS (-((m+1:Nat):Int))) "-"))=_ by rw[one,bX9 hx];rfl),jL,if_pos rfl]
    show bA.ok (D.str (sJ (iS (-((m+1:Nat):Int))) (some 1) none))=_
    rw[gN4 hx]
   ·show 1<=(dg (m+1)).toArray.size;rw[size_toArray];exact l1
   ·show(dg (m+1)).toArray.size<=6;rw[size_toArray];exact l6
   ·show(dg (m+1)).all rN=true
    rw[all_eq_true]
    exact fun c hc=>decide_eq_true (bE6 (m+1) c hc)
   ·rw[zer,bX9 (c:=c) (r:=r) (show(dg (m+1))=c::r from e),show(c==48)=false from beq_eq_false_iff_ne.mpr bD,Bool.false_and]
   ·rw[PySem.intText_neg hx (bE6 _) (by intro z;rw[z]at l1;simp at l1) bD,W.KIN.val_back]
  ·obtain⟨m,rfl⟩:=Int.eq_ofNat_of_zero_le hpos
   have hx:=cO1 m
   obtain⟨l6,l1⟩:=dN6 (m:=m) bD
   have hlen:(iS ((m:Nat):Int)).length=(dg m).length:=by rw[<-bL3,hx]
   have hd:∃c r,dg m=c::r/\48<=c:=by
    cases q:dg m with
    |nil=>rw[q]at l1;simp at l1
    |cons c r=>exact⟨c,r,rfl,(bE6 m c (by rw[q];exact mem_cons_self)).1⟩
   obtain⟨c,r,e,hc⟩:=hd
   refine⟨iS (m:Int),?_,⟨by omega,by omega,?_⟩,?_,W.KIN.num_reads bD bD,by omega⟩
   ·unfold wA
    rw[show mT (pQ sK @1 {.("-")}) #[.row true ws ((k+1:Nat):Int),.str (iS (m:Int)),()]= .ok false from cT (show bA.ok (D.bl (Txt.startswith (iS (m:Int)) "-"))=_ by rw[one,bX9 (hx.trans e),show(c==45)=false from beq_eq_false_iff_ne.mpr bD]),jL,if_neg Bool.false_ne_true]
    rfl
   ·rw[show(iS (m:Int)).cps.toList=dg m from hx,all_eq_true]
    exact fun c hc=>decide_eq_true (bE6 m c hc)
   ·rw[zer,bX9 (hx.trans e)]
    by_cases hm:m=0
    ·subst hm
     have:(iS (((0:Nat)):Int)==⟨[48].toArray⟩)=true:=by decide+kernel
     rw[this];simp
    ·obtain⟨c',r',e',hc'⟩:=cN9 m bD
     rw[e]at e'
     cases e'
     rw[show(c==48)=false from beq_eq_false_iff_ne.mpr bD,Bool.false_and]
 obtain⟨F,hF,⟨f1,f6,fa⟩,hz,hv,hl⟩:=key
 rw[mO hF]
 show(bB (bH _ _ bM) _ #[.row true ws ((k+1:Nat):Int),.str (iS i),.str F]).bind cF=_
 have t:gO (dC (mT (mA ((Ph (n+4)) .q35) {@2}))) (lN (mT (pQ sK @2 {.("0")})) (mB (m2 jS @1 .("0")))) #[.row true ws ((k+1:Nat):Int),.str (iS i),.str F]= .ok false:=by
  refine(cO (x:=false) (y:=false) (cN (cT (a1 rfl (gN3 (n+1) F f1 f6 fa)))) fun _=>?_)
  have e1:mT (pQ sK @2 {.("0")}) #[.row true ws ((k+1:Nat):Int),.str (iS i),.str F]= .ok (Txt.startswith F "0"):=cT rfl
  have e2:mB (m2 jS @1 .("0")) #[.row true ws ((k+1:Nat):Int),.str (iS i),.str F]= .ok (!(iS i==ofString "0")):=cB (c2 rfl rfl (by simp[jS,cV,fV]))
  have:=cA e1 fun _=>e2
  rw[hz]at this
  exact this
 rw[dD t]
 refine(mV (p:=true) (ws:=ws) (k:=((k+1:Nat):Int)) (k':=((k+1:Nat):Int)) (d:=.int i) rfl (qQ rfl (a1 rfl ?_))).trans rfl
 show(match PySem.intText? (iS i)with|some n=>if(iS i).length<=640 then bA.ok (D.int n)else .bad|none=>.bad)=_
 rw[hv]
 exact if_pos hl
theorem dN7(w:Str):fQ false (.str w) yK= .ok (.bl (jC w)):=by
 unfold yK
 simp only[fQ]
 rw[if_pos (by rw[yM];decide)];simp[yN,jC]
theorem gN6{i:Int}:∃c r,Ls (iS i)=c::r/\((48<=c/\c<=57)\/(c=45/\r≠ [])):=by
 rcases Int.lt_or_le i 0 with hneg|hpos
 ·obtain⟨m,rfl⟩:∃m:Nat,i= -((m+1:Nat):Int):=⟨(-i).toNat-1,by omega⟩
  obtain⟨c,r,e,hc⟩:=cN9 (m+1) bD
  exact⟨45,_,cO0 m,.inr ⟨rfl,by rw[e];simp⟩⟩
 ·obtain⟨m,rfl⟩:=Int.eq_ofNat_of_zero_le hpos
  have l1:1<=(dg m).length:=by rw[length_map];exact PySem.toDigits_len_ge 10 m
  cases q:dg m with
  |nil=>rw[q]at l1;simp at l1
  |cons c r=>exact⟨c,r,(cO1 m).trans q,.inl (bE6 m c (by rw[q];exact mem_cons_self))⟩
theorem gN7{c:Nat}{r:List Nat}(h:Ls z=c::r)(hc:c<97):bR (.str z)=false:=by
 simp only[bR]
 rw[show z.cps.toList=c::r from h,all_cons,show low c=false from decide_eq_false bD]
 simp
theorem bY0(h:jC w=true):w="+" \/w="-" \/w="*" \/w="<" \/w="=" :=by
 unfold jC bC5 at h
 simp only[any_cons,any_nil,Bool.or_false,or_eq_true,beq_iff_eq]at h
 rcases h with h|h|h|h|h
 ·exact .inl h.symm
 ·exact .inr (.inl h.symm)
 ·exact .inr (.inr (.inl h.symm))
 ·exact .inr (.inr (.inr (.inl h.symm)))
 ·exact .inr (.inr (.inr (.inr h.symm)))
theorem gN8(h:jC w=true):bR (.str w)=false/\(w==ofString "call")=false:=by
 rcases bY0 h with rfl|rfl|rfl|rfl|rfl<;>decide+kernel
theorem gN9(i:Int):bR (.str (iS i))=false/\(iS i==ofString "call")=false/\jC (iS i)=false:=by
 obtain⟨c,r,e,h⟩:=gN6 (i:=i)
 refine⟨gN7 e bD,?_,?_⟩
 ·refine beq_eq_false_iff_ne.mpr fun z=>?_
  rw[z]at e
  have:Ls (ofString "call")= [99,97,108,108]:=by decide+kernel
  rw[this]at e;cases e;omega
 ·cases q:jC (iS i)with
  |false=>rfl
  |true=>
   exfalso
   have l:Ls "+" = [43]/\Ls "-" = [45]/\Ls "*" = [42]/\Ls "<" = [60]/\Ls "=" = [61]:=by decide+kernel
   obtain⟨l1,l2,l3,l4,l5⟩:=l
   rcases bY0 q with z|z|z|z|z
   ·rw[z,l1]at e;cases e;omega
   ·rw[z,l2]at e;cases e;rcases h with h|⟨_,h⟩;omega;exact h rfl
   ·rw[z,l3]at e;cases e;omega
   ·rw[z,l4]at e;cases e;omega
   ·rw[z,l5]at e;cases e;omega
theorem gO0:bR (.str "call")=false:=by decide+kernel
structure Rb(C:CT)(ws:List D):Prop where
 ah:∀{w:Str} {k:Nat},ws[k]? =some (.str w)->Rd C .q63 [] ws k (.str w) k
 tk:∀{w:Str} {k:Nat},ws[k]? =some (.str w)->Rd C .q64 [] ws k (.str w) (k+1)
 sk:∀{w:Str} {k:Nat},ws[k]? =some (.str w)->Rd C .skip [.str w] ws k .non (k+1)
 nm:∀{w:Str} {k:Nat},ws[k]? =some (.str w)->bR (.str w)=true->Rd C .q33 [] ws k (.str w) (k+1)
 nu:∀{i:Int} {k:Nat},jV (.int i)=true->ws[k]? =some (.str (iS i))->Rd C .q34 [] ws k (.int i) (k+1)
 is:∀d,C .q2 [d]= .ok (.bl (bR d))
 rf:∀a:Int,a<=12->C .q31 [.int a]= .ok .non
theorem gO1(n:Nat)(a:Int)(h:a<=12):Ph (n+3) .q31 [.int a]= .ok .non:=by
 show((cJ1 (Ph (n+2)) (Ph n)) #[.int a]).bind bL=_
 unfold cJ1
 have t:mB (m2 dJ @0 (kc gS)) #[.int a]= .ok false:=cB (c2 rfl rfl (show bA.ok (D.bl (decide ((12:Int)<a)))=_ by rw[decide_eq_false bD]))
 unfold bH
 rw[t];rfl
theorem pU(n:Nat)(ws:List D):Rb (Ph (n+5)) ws:=⟨fun h=>dN4 (n+2) h,fun h=>bX8 (n+1) h,fun h=>gM7 n h,fun h hn=>gM9 n h hn,fun hi h=>gN5 n hi h,fun d=>qN (n+2) d,fun a h=>gO1 (n+2) a h⟩
theorem sq{B E:MS}:bB (bB A B) E=bB A (bB B E):=funext fun _=>bK9
theorem dN8{R:MS}{d:D}(h:f O= .ok d):bB (xO f) R O=R O:=by
 unfold bB xO
 rw[h];rfl
theorem bE7{g:MX}{d:D}{k:Int}(h:g O= .ok (d,k)):nD g O= .ok ([d],k):=by unfold nD;rw[h];rfl
theorem wW{ga:mL}{d:D}{k:Int}(h1:f O= .ok d)(h:ga O= .ok (ds,k)):nY f ga O= .ok (d::ds,k):=by unfold nY;rw[h1,jL,h];rfl
theorem bE8{ga:mL}{k:Int}(h:ga O= .ok (ds,k))(hl:ds.length<=1000):qM ga O= .ok (.tup ds,k):=by
 have hs:=sizeLine_eq
 unfold qM
 rw[h,jL]
 exact if_pos (by show ds.length<=sizeLine;omega)
theorem gO2{g:MX}{p:Bool}{k:Int}{r:List D×Int}(hi:O[i]? =some (.row p ws k))(hf:fl O= .ok ds)(hl:ds.length<=sizeLine)(hc:nZ i p ws js g O ds k= .ok r):yG i js fl g O= .ok (.lst r.1,r.2):=by
 unfold yG
 rw[hi]
 dsimp only
 rw[hf,jL,if_pos hl,hc];rfl
section
variable(C C':CT)
theorem dN9{g:MX}{f:D->List Str}{s0 s2:Slot}:∀(xs its:List D) (kk:Nat),its.length=xs.length->(∀x∈xs,∀(it:D) (kk:Nat),At ws kk (f x)->g #[it,.row true ws (kk:Int),.int a]= .ok (x,((kk+(f x).length:Nat):Int)))->At ws kk (xs.flatMap f)->
 nZ 0 true ws [0,1] g [s0,.val (.int a),s2] its (kk:Int)= .ok (xs,((kk+(xs.flatMap f).length:Nat):Int))
 | [],[],kk,_,_,_=>rfl
 |x::xs,it::its,kk,hl,hg,h=>by
  rw[flatMap_cons]at h ⊢
  rw[nZ]
  show(g #[it,.row true ws (kk:Int),.int a]).bind _=_
  rw[hg x mem_cons_self it kk h.left,jL]
  show(nZ 0 true ws [0,1] g [s0,.val (.int a),s2] its ((kk+(f x).length:Nat):Int)).bind _=_
  rw[dN9 xs its _ (Nat.succ.inj hl) (fun y hy=>hg y (mem_cons_of_mem _ hy)) h.right,length_append,Nat.add_assoc];rfl
 | [],_::_,_,h,_,_=>by cases h
 |_::_,[],_,h,_,_=>by cases h
theorem dO0(B:Rb C ws)(l:xs.length<=4)(ax:∀x∈xs,bK k x=true)(hat:At ws kk (fK (eW k) xs))(hE:∀x kk,bK k x=true->At ws kk (eW k x)->Rd C .q30 [.int a] ws kk x (kk+(eW k x).length)):
 ((bJ4 C C') #[.row true ws (kk:Int),.int a,()]).bind cF= .ok (.tup [.tup xs,.int ((kk+(fK (eW k) xs).length:Nat):Int)]):=by
 have hs:=sizeLine_eq
 unfold bJ4
 have hat':At ws kk (iS (xs.length:Int)::xs.flatMap (eW k)):=hat
 rw[kX (p:=true) (ws:=ws) (k:=(kk:Int)) rfl (cW rfl rfl (B.nu (i:=(xs.length:Int)) (by simp only[jV,decide_eq_true_eq];omega) hat'.one))]
 show(bB (bH _ _ bM) _ #[.row true ws ((kk+1:Nat):Int),.int a,.int (xs.length:Int)]).bind cF=_
 have t:mB (dS cP cP .(0) @2 (kc bC4)) #[.row true ws ((kk+1:Nat):Int),.int a,.int (xs.length:Int)]= .ok true:=by
  have h2:(0:Int)<=(xs.length:Int):=by omega
  have h3:(xs.length:Int)<=4:=by omega
  simp[mB,dS,kc,gv,bA.bind,cP,gN,bC4,h3]
 rw[dD (cN t)]
 have hc:yG 0 [0,1] (jG @2) (bT 1 (C .q30) {@2}) #[.row true ws ((kk+1:Nat):Int),.int a,.int (xs.length:Int)]= .ok (.lst xs,((kk+1+(xs.flatMap (eW k)).length:Nat):Int)):=by
  refine gO2 (r:=(xs,((kk+1+(xs.flatMap (eW k)).length:Nat):Int))) rfl (pF (f:=gv 2) rfl (rng (i:=(xs.length:Int)) bD bD)) (by rw[kC];omega) ?_
  exact dN9 xs _ (kk+1) (by rw[kC];omega) (fun x hx it kk h=>cW rfl rfl (hE x kk (ax x hx) h)) hat'.tl
 refine(mV (p:=true) (ws:=ws) (k:=((kk+1:Nat):Int)) (k':=((kk+1+(xs.flatMap (eW k)).length:Nat):Int)) (d:=.tup xs) rfl ?_).trans ?_
 ·unfold xTy
  rw[bE7 hc,jL];rfl
 ·show bA.ok (D.tup [.tup xs,.int ((kk+1+(xs.flatMap (eW k)).length:Nat):Int)])=_
  have e:kk+(fK (eW k) xs).length=kk+1+(xs.flatMap (eW k)).length:=by unfold fK;rw[length_cons];omega
  rw[e]
theorem gO3{d:D}(hd:bK (k+1) d=true)(ha:a<=12)(hat:At ws kk (eW (k+1) d))(B:Rb C ws)
 (hE:∀x kk,bK k x=true->At ws kk (eW k x)->Rd C .q30 [.int (a+1)] ws kk x (kk+(eW k x).length))
 (hP:∀xs kk,xs.length<=4->(∀x∈xs,bK k x=true)->At ws kk (fK (eW k) xs)->Rd C .q32 [.int (a+1)] ws kk (.tup xs) (kk+(fK (eW k) xs).length)):
 ((bT6 C C') #[.row true ws (kk:Int),.int a,(),(),(),()]).bind cF= .ok (.tup [d,.int ((kk+(eW (k+1) d).length:Nat):Int)]):=by
 have hs:=sizeLine_eq
 unfold bT6
 rw[dN8 (a1 rfl (B.rf a ha))]
 have head:∀{w:Str} (R:MS),ws[kk]? =some (.str w)->bB (bU 2 (hX 0 (C .q63))) R #[.row true ws (kk:Int),.int a,(),(),(),()]=R #[.row true ws (kk:Int),.int a,.str w,(),(),()]:=fun R h=>by
  rw[mO (bE5 (p:=true) (ws:=ws) (k:=(kk:Int)) rfl (B.ah h))];rfl
 have a1':∀(w:Str) (s3 s4 s5:Slot) (q:Int),aC (m2 bN @1 .(1)) (bP) [.row true ws q,.val (.int a),.val (.str w),s3,s4,s5]= .ok [.int (a+1)]:=fun w s3 s4 s5 q=>rfl
 cases bD7 hd with
 |num i h1 h2=>
  have hn:jV (.int i)=true:=by simpa[bK]using hd
  have hat':At ws kk [iS i]:=hat
  obtain⟨n1,n2,n3⟩:=gN9 i
  rw[head _ hat'.one,dD (cT (a1 rfl ((B.is _).trans (by rw[n1])))),dD (cB (c2 rfl rfl ((dL _ _).trans (by rw[n2])))),dD (cB (c2 rfl rfl ((dN7 _).trans (by rw[n3]))))]
  exact(mV (p:=true) (ws:=ws) (k:=(kk:Int)) rfl (bE8 (wW rfl (bE7 (cW rfl rfl (B.nu hn hat'.one)))) (by simp))).trans rfl
 |nam z h1 h2=>
  have hn:bR (.str z)=true:=by
   have:(ofString "name" ==ofString "number")=false:=by decide+kernel
   simpa[bK,this]using hd
  have hat':At ws kk [z]:=hat
  rw[head _ hat'.one,fH (cT (a1 rfl ((B.is _).trans (by rw[hn]))))]
  exact(bE4 (p:=true) (ws:=ws) (k:=(kk:Int)) rfl (bE8 (wW rfl (bE7 (cW rfl rfl (B.nm hat'.one hn)))) (by simp))).trans rfl
 |cal z xs h1 h2 l ax=>
  have hn:bR (.str z)=true:=by
   have q1:(ofString "call" ==ofString "number")=false:=by decide+kernel
   have q2:(ofString "call" ==ofString "name")=false:=by decide+kernel
   simp only[bK,q1,q2,false_eq_true,if_false,beq_self_eq_true,if_true,and_eq_true]at hd
   exact hd.1
  have hat':At ws kk (ofString "call" ::z::fK (eW k) xs):=hat
  rw[head _ hat'.one,dD (cT (a1 rfl ((B.is _).trans (by rw[gO0])))),fH (cB (c2 rfl rfl ((dL _ _).trans (by rw[beq_self_eq_true])))),gH6]
  rw[nI (p:=true) (ws:=ws) (k:=(kk:Int)) rfl (cW rfl rfl (B.sk hat'.one))]
  show(bB (fB 0 3 _) _ #[.row true ws ((kk+1:Nat):Int),.int a,.str "call",(),(),()]).bind cF=_
  rw[kX (p:=true) (ws:=ws) (k:=((kk+1:Nat):Int)) rfl (cW rfl rfl (B.nm hat'.tl.one hn))]
  show(bB (fM 0 _) _ #[.row true ws ((kk+1+1:Nat):Int),.int a,.str "call",.str z,(),()]).bind cF=_
  refine(bE4 (p:=true) (ws:=ws) (k:=((kk+1+1:Nat):Int)) rfl (bE8 (wW rfl (wW rfl (bE7 (cW rfl (a1' _ _ _ _ _) (hP xs _ l ax hat'.tl.tl))))) (by simp))).trans ?_
  show bA.ok (D.tup [.tup [.str "call",.str z,.tup xs],.int ((kk+1+1+(fK (eW k) xs).length:Nat):Int)])=_
  have e:kk+(eW (k+1) (.tup [.str "call",.str z,.tup xs])).length=kk+1+1+(fK (eW k) xs).length:=by
   show kk+(ofString "call" ::z::fK (eW k) xs).length=_
   simp only[length_cons];omega
  rw[e]
 |two w x y hw hx hy=>
  obtain⟨n1,n2⟩:=gN8 hw
  rw[bX0 hx hy]at hat ⊢
  rw[head _ hat.one,dD (cT (a1 rfl ((B.is _).trans (by rw[n1])))),dD (cB (c2 rfl rfl ((dL _ _).trans (by rw[n2])))),fH (cB (c2 rfl rfl ((dN7 _).trans (by rw[hw]))))]
  rw[sq,sq,sq]
  rw[nI (p:=true) (ws:=ws) (k:=(kk:Int)) rfl (cW rfl rfl (B.sk hat.one))]
  show(bB (fB 0 4 _) _ #[.row true ws ((kk+1:Nat):Int),.int a,.str w,(),(),()]).bind cF=_
  rw[kX (p:=true) (ws:=ws) (k:=((kk+1:Nat):Int)) rfl (cW rfl (a1' _ _ _ _ _) (hE x _ hx hat.tl.left))]
  show(bB (fB 0 5 _) _ #[.row true ws ((kk+1+(eW k x).length:Nat):Int),.int a,.str w,(),x,()]).bind cF=_
  rw[kX (p:=true) (ws:=ws) (k:=((kk+1+(eW k x).length:Nat):Int)) rfl (cW rfl (a1' _ _ _ _ _) (hE y _ hy hat.tl.right))]
  show(bB (fM 0 _) _ #[.row true ws ((kk+1+(eW k x).length+(eW k y).length:Nat):Int),.int a,.str w,(),x,y]).bind cF=_
  refine(bE4 (p:=true) (ws:=ws) (k:=((kk+1+(eW k x).length+(eW k y).length:Nat):Int)) rfl (qQ rfl (a3 rfl rfl rfl (lV _ _ _)))).trans ?_
  show bA.ok (D.tup [.tup [.str w,x,y],.int ((kk+1+(eW k x).length+(eW k y).length:Nat):Int)])=_
  have e:kk+(w::(eW k x++eW k y)).length=kk+1+(eW k x).length+(eW k y).length:=by simp only[length_cons,length_append];omega
  rw[e]
end
theorem bY1:∀(k n:Nat) (a:Int) (ws:List D) (kk:Nat) (d:D),a+(k:Int)=13->bK k d=true->At ws kk (eW k d)->Rd (Ph (n+2*k+5)) .q30 [.int a] ws kk d (kk+(eW k d).length)
 |0,_,_,_,_,_,_,h,_=>by cases h
 |k+1,n,a,ws,kk,d,ha,hd,hat=>by
  have e:n+2*(k+1)+5=(n+2*k+4)+3:=by omega
  rw[e]
  show((bT6 (Ph (n+2*k+4+2)) (Ph (n+2*k+4))) #[.row true ws (kk:Int),.int a,(),(),(),()]).bind cF=_
  refine gO3 _ _ hd bD hat (pU (n+2*k+1) ws) (fun x kk hx h=>?_) fun xs kk l ax h=>?_
  ·have:=bY1 k (n+1) (a+1) ws kk x bD hx h
   rw[show n+1+2*k+5=n+2*k+4+2 by omega]at this
   exact this
  ·show((bJ4 (Ph (n+2*k+3+2)) (Ph (n+2*k+3))) #[.row true ws (kk:Int),.int (a+1),()]).bind cF=_
   exact dO0 _ _ (pU (n+2*k) ws) l ax h fun x kk hx h=>bY1 k n (a+1) ws kk x bD hx h
theorem gO4(k n:Nat)(a:Int)(ws:List D)(kk:Nat)(xs:List D)(ha:a+(k:Int)=13)(l:xs.length<=4)(ax:∀x∈xs,bK k x=true)(h:At ws kk (fK (eW k) xs)):Rd (Ph (n+2*k+6)) .q32 [.int a] ws kk (.tup xs) (kk+(fK (eW k) xs).length):=by
 show((bJ4 (Ph (n+2*k+3+2)) (Ph (n+2*k+3))) #[.row true ws (kk:Int),.int a,()]).bind cF=_
 exact dO0 _ _ (pU (n+2*k) ws) l ax h fun x kk hx h=>bY1 k n a ws kk x ha hx h
def pV(P:Str->D->Prop)(l:List D):List Str->Nat->Prop
 | [],p=>p=l.length
 |s::r,p=>if fO s=true then(∃x,l[p]? =some x/\P s x)/\pV P l r (p+1)else pV P l r p
theorem cO2{P:Str->D->Bool}:∀(form:List Str) (pre r:List D),r.length=(form.filter fO).length->((form.filter fO).zip r).all (fun q=>P q.1 q.2)=true->pV (fun s x=>P s x=true) (pre++r) form pre.length
 | [],pre,r,hl,_=>by
  have e:r= []:=List.length_eq_zero_iff.mp hl
  subst e
  simp[pV]
 |s::form,pre,r,hl,ha=>by
  cases hp:fO s with
  |true=>
   rw[List.filter_cons_of_pos hp]at hl ha
   cases r with
   |nil=>cases hl
   |cons x r=>
    rw[zip_cons_cons,all_cons,and_eq_true]at ha
    simp only[pV,hp,if_true]
    refine⟨⟨x,by simp,ha.1⟩,?_⟩
    have ih:=cO2 form (pre++ [x]) r (Nat.succ.inj hl) ha.2
    rw[append_assoc,length_append]at ih
    exact ih
  |false=>
   rw[List.filter_cons_of_neg (by rw[hp];exact Bool.false_ne_true)]at hl ha
   simp only[pV,hp,false_eq_true,if_false]
   exact cO2 form pre r hl ha
theorem dO1(h:jH.lookup w=some ss):∃form:List Str,kS jB (.str w)= .ok (.tup (form.map .str))/\ss=form.filter fO/\(jB.lookup w).isSome=true/\(w==ofString "end")=false/\form.length<=5:=by
 have m:=bL0 h
 simp only[jH,mem_cons,not_mem_nil,or_false,Prod.mk.injEq]at m
 rcases m with⟨rfl,rfl⟩|⟨rfl,rfl⟩|⟨rfl,rfl⟩|⟨rfl,rfl⟩|⟨rfl,rfl⟩|⟨rfl,rfl⟩|⟨rfl,rfl⟩|⟨rfl,rfl⟩|⟨rfl,rfl⟩|⟨rfl,rfl⟩
 ·exact⟨["WORD","be","EXPRESSION"],by kernel_rfl,by decide+kernel,by decide+kernel,by decide+kernel,by decide⟩
 ·exact⟨["EXPRESSION","then","BLOCK","else","BLOCK"],by kernel_rfl,by decide+kernel,by decide+kernel,by decide+kernel,by decide⟩
 ·exact⟨["EXPRESSION","do","BLOCK"],by kernel_rfl,by decide+kernel,by decide+kernel,by decide+kernel,by decide⟩
 ·exact⟨["DEED","PARTS"],by kernel_rfl,by decide+kernel,by decide+kernel,by decide+kernel,by decide⟩
 ·exact⟨["EXPRESSION"],by kernel_rfl,by decide+kernel,by decide+kernel,by decide+kernel,by decide⟩
 ·exact⟨["EXPRESSION"],by kernel_rfl,by decide+kernel,by decide+kernel,by decide+kernel,by decide⟩
 ·exact⟨["WORD"],by kernel_rfl,by decide+kernel,by decide+kernel,by decide+kernel,by decide⟩
 ·exact⟨["WORD","deed","DEED"],by kernel_rfl,by decide+kernel,by decide+kernel,by decide+kernel,by decide⟩
 ·exact⟨["WORD","to","EXPRESSION"],by kernel_rfl,by decide+kernel,by decide+kernel,by decide+kernel,by decide⟩
 ·exact⟨["WORD","and","WORD"],by kernel_rfl,by decide+kernel,by decide+kernel,by decide+kernel,by decide⟩
structure dO2(k:Nat)(d:D)(w:Str)(r:List D)(form:List Str):Prop where
 e:d= .tup (.str w::r)
 f:kS jB (.str w)= .ok (.tup (form.map .str))
 g:pV (fun s x=>dZ k s x=true) (.str w::r) form 1
 i:(jB.lookup w).isSome=true
 n:(w==ofString "end")=false
 w:sW (k+1) d=w::fW (dU k) (.str w::r) form 1
theorem bY2{d:D}(hp:cE (k+1) d=true):∃w r form,dO2 k d w r form:=by
 have I1:=isP
 have I2:=isN
 have M:=cN5
 have key:∀{w:Str} {r:List D} {form:List Str},d= .tup (.str w::r)->kS jB (.str w)= .ok (.tup (form.map .str))->sW (k+1) d=w::fW (dU k) (.str w::r) form 1->∃w r form,dO2 k d w r form:=fun{w r form} e1 e2 e3=>by
  subst e1
  have h:=hp
  rw[yO]at h
  cases hl:jH.lookup w with
  |none=>rw[hl]at h;cases h
  |some ss=>
   rw[hl]at h
   obtain⟨form',f1,f2,f3,f4,_⟩:=dO1 hl
   have ef:form'=form:=by
    have e5:form'.map D.str=form.map D.str:=D.tup.inj (bA.ok.inj (f1.symm.trans e2))
    exact(List.map_inj_right (fun a b e=>by cases e;rfl)).mp e5
   subst ef
   have h':(decide (r.length=ss.length)&&(ss.zip r).all fun q=>dZ k q.1 q.2)=true:=h
   rw[and_eq_true,decide_eq_true_eq]at h'
   rw[f2]at h'
   exact⟨w,r,form',rfl,f1,cO2 form' [.str w] r h'.1 h'.2,f3,f4,e3⟩
 cases cM8 hp with
 |ife e a b he ha hb=>
  refine key (form:=["EXPRESSION","then","BLOCK","else","BLOCK"]) rfl bO ?_
  simp only[fW,I1,I2,if_true,false_eq_true,if_false]
  show _=_::(dU k "EXPRESSION" e++_::(dU k "BLOCK" (.tup a)++_::(dU k "BLOCK" (.tup b)++ [])))
  rw[cM9,lW he,rK,rK,append_nil]
 |whi e a he ha=>
  refine key (form:=["EXPRESSION","do","BLOCK"]) rfl bO ?_
  simp only[fW,I1,I2,if_true,false_eq_true,if_false]
  show _=_::(dU k "EXPRESSION" e++_::(dU k "BLOCK" (.tup a)++ []))
  rw[cN0 _ he,lW he,rK,append_nil]
 |doo z xs hz l a=>
  refine key (form:=["DEED","PARTS"]) rfl bO ?_
  simp only[fW,I1,I2,if_true,false_eq_true,if_false]
  show _=_::([z]++(dU k "PARTS" (.tup xs)++ []))
  rw[cN1,bL6,append_nil];rfl
 |one w hw' e he=>
  refine key (form:=["EXPRESSION"]) rfl (by rcases hw' with rfl|rfl<;>kernel_rfl) ?_
  simp only[fW,I1,I2,if_true,false_eq_true,if_false]
  show _=_::(dU k "EXPRESSION" e++ [])
  rw[cN2 _ he,lW he,append_nil]
 |get z hz=>
  refine key (form:=["WORD"]) rfl bO ?_
  simp only[fW,I1,I2,if_true,false_eq_true,if_false]
  rfl
 |nam w hw' z u hz hu=>
  rcases hw' with rfl|rfl
  ·refine key (form:=["WORD","deed","DEED"]) rfl bO ?_
   simp only[fW,I1,I2,if_true,false_eq_true,if_false]
   rw[bL5,M.1];rfl
  ·refine key (form:=["WORD","and","WORD"]) rfl bO ?_
   simp only[fW,I1,I2,if_true,false_eq_true,if_false]
   rw[bL5,M.2.1];rfl
 |lets w hw' z e hz he=>
  have e4:=cN3 hw' z he
  rcases hw' with rfl|rfl
  ·refine key (form:=["WORD","be","EXPRESSION"]) rfl bO ?_
   simp only[fW,I1,I2,if_true,false_eq_true,if_false]
   show _=_::([z]++_::(dU k "EXPRESSION" e++ []))
   rw[e4,M.2.2.1,lW he,append_nil];rfl
  ·refine key (form:=["WORD","to","EXPRESSION"]) rfl bO ?_
   simp only[fW,I1,I2,if_true,false_eq_true,if_false]
   show _=_::([z]++_::(dU k "EXPRESSION" e++ []))
   rw[e4,M.2.2.2,lW he,append_nil];rfl
section
variable(C C':CT)
abbrev rstep:MS:=bH (mB (m2 (fQ false) @4 (kc tE))) (kU 0 3 (bT 0 (C .q29) {@4,(m2 bN @1 .(1))})) (fX 0 (bT 0 (C .skip) {@4}))
theorem cO3{P:Str->D->Prop}{pw:Str->D->List Str}{l:List D}{w:D}(B:Rb C ws)(hl:l.length<=1000)(hp:∀s x kk,fO s=true->P s x->At ws kk (pw s x)->Rd C .q29 [.str s,.int (a+1)] ws kk x (kk+(pw s x).length)):∀(form:List Str) (p kk:Nat) (s4:Slot),pV P l form p->At ws kk (fW pw l form p)->
 ∃s',gG 4 (rstep C) (form.map .str) [.row true ws (kk:Int),.val (.int a),.val w,.own (l.take p),s4]= .ok (.nx [.row true ws ((kk+(fW pw l form p).length:Nat):Int),.val (.int a),.val w,.own l,s'])
 | [],p,kk,s4,h,_=>⟨s4,by
  have e:p=l.length:=h
  rw[e,List.take_length];rfl⟩
 |s::form,p,kk,s4,h,hat=>by
  have hs:=sizeLine_eq
  have t0:mB (m2 (fQ false) @4 (kc tE)) [.row true ws (kk:Int),.val (.int a),.val w,.own (l.take p),.val (.str s)]= .ok (fO s):=cB (c2 rfl rfl (dM0 s))
  rw[map_cons,gG]
  show ∃s',bA.bind (rstep C [.row true ws (kk:Int),.val (.int a),.val w,.own (l.take p),.val (.str s)]) _=_
  cases hq:fO s with
  |true=>
   simp only[pV,hq,if_true]at h
   simp only[fW,hq,if_true]at hat ⊢
   obtain⟨⟨x,hx,px⟩,h⟩:=h
   have hg:l.getD p .non=x:=by rw[getD_eq_getElem?_getD,hx];rfl
   rw[hg]at hat ⊢
   have hpl:p<l.length:=(List.getElem?_eq_some_iff.mp hx).1
   have e1:rstep C [.row true ws (kk:Int),.val (.int a),.val w,.own (l.take p),.val (.str s)]= .ok (.nx [.row true ws ((kk+(pw s x).length:Nat):Int),.val (.int a),.val w,.own (l.take (p+1)),.val (.str s)]):=by
    unfold rstep bH
    rw[t0,hq,jL,if_pos rfl,yY (xs:=l.take p) (p:=true) (ws:=ws) (k:=(kk:Int)) rfl (by decide) rfl (cW rfl rfl (hp s x kk hq px hat.left)) (by rw[List.length_take];omega)]
    have e:l.take (p+1)=l.take p++ [x]:=by
     rw[List.take_add_one,hx];rfl
    rw[e];rfl
   obtain⟨s',ih⟩:=cO3 B hl hp form (p+1) (kk+(pw s x).length) (.val (.str s)) h hat.right
   refine⟨s',?_⟩
   rw[e1,jL]
   show gG 4 (rstep C) (form.map .str) _=_
   rw[ih,length_append,Nat.add_assoc]
  |false=>
   simp only[pV,hq,false_eq_true,if_false]at h
   simp only[fW,hq,false_eq_true,if_false]at hat ⊢
   have e1:rstep C [.row true ws (kk:Int),.val (.int a),.val w,.own (l.take p),.val (.str s)]= .ok (.nx [.row true ws ((kk+1:Nat):Int),.val (.int a),.val w,.own (l.take p),.val (.str s)]):=by
    unfold rstep bH
    rw[t0,hq,jL,if_neg Bool.false_ne_true]
    unfold fX
    rw[bE3 (p:=true) (ws:=ws) (k:=(kk:Int)) rfl (cW rfl rfl (B.sk hat.one))];rfl
   obtain⟨s',ih⟩:=cO3 B hl hp form p (kk+1) (.val (.str s)) h hat.tl
   refine⟨s',?_⟩
   rw[e1,jL]
   show gG 4 (rstep C) (form.map .str) _=_
   rw[ih,length_cons,show kk+1+(fW pw l form p).length=kk+((fW pw l form p).length+1) by omega]
theorem gO5{d:D}(hd:cE (k+1) d=true)(ha:a<=12)(hat:At ws kk (sW (k+1) d))(B:Rb C ws)(hp:∀s x kk,fO s=true->dZ k s x=true->At ws kk (dU k s x)->Rd C .q29 [.str s,.int (a+1)] ws kk x (kk+(dU k s x).length)):
 ((bT5 C C') #[.row true ws (kk:Int),.int a,(),(),()]).bind cF= .ok (.tup [d,.int ((kk+(sW (k+1) d).length:Nat):Int)]):=by
 have hs:=sizeLine_eq
 obtain⟨w,r,form,F⟩:=bY2 hd
 rw[F.w]at hat ⊢
 have hr:r.length<=4:=by
  have h:=hd
  rw[F.e,yO]at h
  cases hl:jH.lookup w with
  |none=>rw[hl]at h;cases h
  |some ss=>
   rw[hl]at h
   have h':(decide (r.length=ss.length)&&(ss.zip r).all fun q=>dZ k q.1 q.2)=true:=h
   rw[and_eq_true,decide_eq_true_eq]at h'
   have m:=bL0 hl
   simp only[jH,mem_cons,not_mem_nil,or_false,Prod.mk.injEq]at m
   rcases m with⟨_,rfl⟩|⟨_,rfl⟩|⟨_,rfl⟩|⟨_,rfl⟩|⟨_,rfl⟩|⟨_,rfl⟩|⟨_,rfl⟩|⟨_,rfl⟩|⟨_,rfl⟩|⟨_,rfl⟩<;>(have:=h'.1;simp at this;omega)
 unfold bT5
 rw[dN8 (a1 rfl (B.rf a ha)),kX (p:=true) (ws:=ws) (k:=(kk:Int)) rfl (cW rfl rfl (B.tk hat.one))]
 show(bB (bH _ _ bM) _ #[.row true ws ((kk+1:Nat):Int),.int a,.str w,(),()]).bind cF=_
 have t1:mB (m1 (sP jB true) @2) #[.row true ws ((kk+1:Nat):Int),.int a,.str w,(),()]= .ok false:=cB (show bA.ok (D.bl ((jB.lookup w).isSome != true))=_ by rw[F.i];rfl)
 rw[dD t1]
 have q0:lD 3 (nB {@2}) #[.row true ws ((kk+1:Nat):Int),.int a,.str w,(),()]= .ok (.nx [.row true ws ((kk+1:Nat):Int),.val (.int a),.val (.str w),.own [.str w],.no]):=by
  have g2:gv 2 #[.row true ws ((kk+1:Nat):Int),.int a,.str w,(),()]= .ok (.str w):=rfl
  unfold lD nB
  simp only[aC,bP,g2,jL]
  show bA.bind (if 1<=sizeLine then _ else _) _=_
  rw[if_pos bD];rfl
 rw[gQ q0]
 obtain⟨s',t⟩:=cO3 C (l:=.str w::r) (w:=.str w) B (by simp only[length_cons];omega) hp form 1 (kk+1) .no F.g hat.tl
 have q1:dP (m1 (kS jB) @2) [.row true ws ((kk+1:Nat):Int),.val (.int a),.val (.str w),.own [.str w],.no]= .ok (form.map .str):=tJ F.f
 rw[gQ (show gH 4 (dP (m1 (kS jB) @2)) (rstep C) [.row true ws ((kk+1:Nat):Int),.val (.int a),.val (.str w),.own [.str w],.no]=_ by rw[qO q1];exact t),pJ rfl]
 refine(mV (p:=true) (ws:=ws) (k:=((kk+1+(fW (dU k) (.str w::r) form 1).length:Nat):Int)) rfl (qQ rfl (a1 rfl rfl))).trans ?_
 rw[F.e,length_cons,show kk+((fW (dU k) (.str w::r) form 1).length+1)=kk+1+(fW (dU k) (.str w::r) form 1).length by omega];rfl
theorem cO4(h:fO s=true):s="WORD" \/s="DEED" \/s="EXPRESSION" \/s="PARTS" \/s="BLOCK" :=by
 unfold fO bS2 at h
 simp only[any_cons,any_nil,Bool.or_false,or_eq_true,beq_iff_eq]at h
 rcases h with h|h|h|h|h
 ·exact .inl h.symm
 ·exact .inr (.inl h.symm)
 ·exact .inr (.inr (.inl h.symm))
 ·exact .inr (.inr (.inr (.inl h.symm)))
 ·exact .inr (.inr (.inr (.inr h.symm)))
theorem srt:(rC.any (· ==ofString "WORD"))=true/\(rC.any (· ==ofString "DEED"))=true/\(rC.any (· ==ofString "EXPRESSION"))=false/\(rC.any (· ==ofString "PARTS"))=false/\(rC.any (· ==ofString "BLOCK"))=false/\(ofString "PARTS" ==ofString "EXPRESSION")=false/\(ofString "BLOCK" ==ofString "EXPRESSION")=false/\(ofString "BLOCK" ==ofString "PARTS")=false:=by decide+kernel
theorem dO3(hn:rC.any (· ==s)=true)(hx:bR x=true)(hat:At ws kk (dU k s x))(B:Rb C ws):((wN C C') #[.row true ws (kk:Int),.str s,.int a]).bind cF= .ok (.tup [x,.int ((kk+(dU k s x).length:Nat):Int)]):=by
 unfold wN
 obtain⟨z,rfl,_⟩:=pK hx
 have hat':At ws kk [z]:=hat
 rw[fH (cB (c2 rfl rfl ((bL7 s).trans (by rw[hn]))))]
 exact(bE4 (p:=true) (ws:=ws) (k:=(kk:Int)) rfl (cW rfl rfl (B.nm hat'.one hx))).trans rfl
theorem gO7(hs:fO s=true)(hx:dZ k s x=true)(hat:At ws kk (dU k s x))(B:Rb C ws)
 (hE:∀x kk,bK k x=true->At ws kk (eW k x)->Rd C .q30 [.int a] ws kk x (kk+(eW k x).length))
 (hP:∀xs kk,xs.length<=4->(∀x∈xs,bK k x=true)->At ws kk (fK (eW k) xs)->Rd C .q32 [.int a] ws kk (.tup xs) (kk+(fK (eW k) xs).length))
 (hB:∀xs kk,(∀x∈xs,cE k x=true)->At ws kk (bW k xs)->Rd C .q27 [.int a] ws kk (.tup xs) (kk+(bW k xs).length)):
 ((wN C C') #[.row true ws (kk:Int),.str s,.int a]).bind cF= .ok (.tup [x,.int ((kk+(dU k s x).length:Nat):Int)]):=by
 obtain⟨s1,s2,s3,s4,s5,s6,s7,s8⟩:=srt
 rcases cO4 hs with rfl|rfl|rfl|rfl|rfl
 ·exact dO3 C C' s1 hx hat B
 ·exact dO3 C C' s2 hx hat B
 ·have he:bK k x=true:=hx
  rw[lW he]at hat ⊢
  unfold wN
  rw[dD (cB (c2 rfl rfl ((bL7 _).trans (by rw[s3])))),fH (cB (c2 rfl rfl ((dL _ _).trans (by rw[beq_self_eq_true]))))]
  exact(bE4 (p:=true) (ws:=ws) (k:=(kk:Int)) rfl (cW rfl rfl (hE x kk he hat))).trans rfl
 ·obtain⟨xs,rfl,l,ax⟩:=bX4 hx
  rw[bL6]at hat ⊢
  unfold wN
  rw[dD (cB (c2 rfl rfl ((bL7 _).trans (by rw[s4])))),dD (cB (c2 rfl rfl ((dL _ _).trans (by rw[s6])))),fH (cB (c2 rfl rfl ((dL _ _).trans (by rw[beq_self_eq_true]))))]
  exact(bE4 (p:=true) (ws:=ws) (k:=(kk:Int)) rfl (cW rfl rfl (hP xs kk l ax hat))).trans rfl
 ·obtain⟨xs,rfl,ax⟩:=yU hx
  rw[rK]at hat ⊢
  unfold wN
  rw[dD (cB (c2 rfl rfl ((bL7 _).trans (by rw[s5])))),dD (cB (c2 rfl rfl ((dL _ _).trans (by rw[s7])))),dD (cB (c2 rfl rfl ((dL _ _).trans (by rw[s8]))))]
  exact(mV (p:=true) (ws:=ws) (k:=(kk:Int)) rfl (cW rfl rfl (hB xs kk ax hat))).trans rfl
theorem bY3(w t:Str):jS (.str w) (.str t)= .ok (.bl (!(w==t))):=by simp[jS,cV,fV]
theorem gO8(ax:∀x∈xs,cE k x=true)(hl:xs.length<=10000000)(hat:At ws kk (bW k xs))(B:Rb C ws)(hS:∀x kk,cE k x=true->At ws kk (sW k x)->Rd C .q28 [.int a] ws kk x (kk+(sW k x).length)):
 ((bT4 C C') #[.row true ws (kk:Int),.int a,()]).bind cF= .ok (.tup [.tup xs,.int ((kk+(bW k xs).length:Nat):Int)]):=by
 have hs:=sizeLine_eq
 unfold bT4
 have f1:∀R:MS,bB (hV 2) R #[.row true ws (kk:Int),.int a,()]=R [.row true ws (kk:Int),.val (.int a),.own []]:=fun R=>rfl
 rw[f1]
 obtain⟨s',e⟩:=yZ (ws:=ws) (t:=mB (m2 jS (hX 0 (C .q63)) .("end"))) (u:=kU 0 2 (bT 0 (C .q28) {@1})) (e:=ofString "end") (r:=fun k acc _=>[.row true ws (k:Int),.val (.int a),.own acc]) (f:=sW k)
  (fun q acc s h=>cB (c2 (bE5 (p:=true) (ws:=ws) (k:=(q:Int)) rfl (B.ah h.one)) rfl ((bY3 _ _).trans (by rw[beq_self_eq_true];rfl)))) xs 33554432 kk [] .no bD (by simpa using hl) (fun x hx q acc s ha h=>by
   have hx':=ax x hx
   cases k with
   |zero=>cases hx'
   |succ k=>
    obtain⟨w,r,form,F⟩:=bY2 hx'
    have h':=h
    rw[F.w]at h'
    refine⟨cB (c2 (bE5 (p:=true) (ws:=ws) (k:=(q:Int)) rfl (B.ah h'.one)) rfl ((bY3 _ _).trans (by rw[F.n];rfl))),.no,?_⟩
    exact yY (xs:=acc) (p:=true) (ws:=ws) (k:=(q:Int)) rfl (by decide) rfl (cW rfl rfl (hS x q hx' h)) bD) hat
 rw[gQ (show nX _ _ [.row true ws (kk:Int),.val (.int a),.own []]=_ from e),pJ rfl]
 have hend:At ws (kk+(xs.flatMap (sW k)).length) [ofString "end"]:=hat.right
 show(bB (fX 0 _) _ #[.row true ws ((kk+(xs.flatMap (sW k)).length:Nat):Int),.int a,.lst ([]++xs)]).bind cF=_
 rw[nI (p:=true) (ws:=ws) (k:=((kk+(xs.flatMap (sW k)).length:Nat):Int)) rfl (cW rfl rfl (B.sk hend.one))]
 refine(mV (p:=true) (ws:=ws) (k:=((kk+(xs.flatMap (sW k)).length+1:Nat):Int)) rfl (qQ rfl (a1 rfl rfl))).trans ?_
 have el:kk+(bW k xs).length=kk+(xs.flatMap (sW k)).length+1:=by unfold bW;rw[length_append];simp only[length_cons,length_nil];omega
 rw[el];rfl
end
theorem At.few(h:At ws k l)(hw:ws.length<=10000000):l.length<=10000000:=by
 obtain⟨r,h⟩:=h
 have:=congrArg List.length h
 rw[List.length_drop,length_append,length_map]at this
 omega
theorem dO4{f:D->List Str}:∀{xs:List D},(∀x∈xs,f x≠ [])->xs.length<=(xs.flatMap f).length
 | [],_=>zero_le _
 |x::xs,h=>by
  have:=dO4 fun y hy=>h y (mem_cons_of_mem _ hy)
  have h1:=List.length_pos_iff.mpr (h x mem_cons_self)
  rw[flatMap_cons,length_append,length_cons];omega
mutual
theorem gO9:∀(k n:Nat) (a:Int) (ws:List D) (kk:Nat) (d:D),ws.length<=10000000->a+(k:Int)=13->cE k d=true->At ws kk (sW k d)->Rd (Ph (n+3*k+7)) .q28 [.int a] ws kk d (kk+(sW k d).length)
 |0,_,_,_,_,_,_,_,h,_=>by cases h
 |k+1,n,a,ws,kk,d,hw,ha,hd,hat=>by
  rw[show n+3*(k+1)+7=(n+3*k+7)+3 by omega]
  show((bT5 (Ph (n+3*k+7+2)) (Ph (n+3*k+7))) #[.row true ws (kk:Int),.int a,(),(),()]).bind cF=_
  refine gO5 _ _ hd bD hat (pU (n+3*k+4) ws) fun s x kk hs hx h=>?_
  show((wN (Ph (n+3*k+6+2)) (Ph (n+3*k+6))) #[.row true ws (kk:Int),.str s,.int (a+1)]).bind cF=_
  refine gO7 _ _ hs hx h (pU (n+3*k+3) ws) (fun x kk hx h=>?_) (fun xs kk l ax h=>?_) fun xs kk ax h=>rblock_ok k n (a+1) ws kk xs hw bD ax h
  ·have:=bY1 k (n+k+3) (a+1) ws kk x bD hx h
   rw[show n+k+3+2*k+5=n+3*k+6+2 by omega]at this
   exact this
  ·have:=gO4 k (n+k+2) (a+1) ws kk xs bD l ax h
   rw[show n+k+2+2*k+6=n+3*k+6+2 by omega]at this
   exact this
theorem rblock_ok:∀(k n:Nat) (a:Int) (ws:List D) (kk:Nat) (xs:List D),ws.length<=10000000->a+(k:Int)=13->(∀x∈xs,cE k x=true)->At ws kk (bW k xs)->Rd (Ph (n+3*k+8)) .q27 [.int a] ws kk (.tup xs) (kk+(bW k xs).length)
 |k,n,a,ws,kk,xs,hw,ha,ax,hat=>by
  show((bT4 (Ph (n+3*k+5+2)) (Ph (n+3*k+5))) #[.row true ws (kk:Int),.int a,()]).bind cF=_
  have hl:xs.length<=10000000:=le_trans (dO4 fun x hx=>(vP k x (ax x hx)).2) (hat.left.few hw)
  exact gO8 _ _ ax hl hat (pU (n+3*k+2) ws) fun x kk hx h=>gO9 k n a ws kk x hw ha hx h
end
def jO(w:Str):Bool:= !(Ls w).contains 32
def Nb(ws:List Str):Prop:=∀w∈ws,jO w=true
theorem dO5(h:jO w=true):32∉Ls w:=fun z=>by
 unfold jO at h
 rw[List.contains_iff_mem.mpr z]at h;cases h
theorem dO6:∀(a b:List Nat) (s t:List Nat),32∉a->32∉b->(s= []\/ ∃s',s=32::s')->(t= []\/ ∃t',t=32::t')->a++s=b++t->a=b/\s=t
 | [],[],s,t,_,_,_,_,e=>⟨rfl,e⟩
 | [],y::b,s,t,_,hb,hs,_,e=>by
  rcases hs with rfl|⟨s',rfl⟩
  ·cases e
  ·cases e;exact absurd mem_cons_self hb
 |x::a,[],s,t,ha,_,_,ht,e=>by
  rcases ht with rfl|⟨t',rfl⟩
  ·cases e
  ·cases e;exact absurd mem_cons_self ha
 |x::a,y::b,s,t,ha,hb,hs,ht,e=>by
  rw[List.cons_append,List.cons_append,List.cons.injEq]at e
  obtain⟨h1,h2⟩:=dO6 a b s t (fun z=>ha (mem_cons_of_mem _ z)) (fun z=>hb (mem_cons_of_mem _ z)) hs ht e.2
  exact⟨by rw[e.1,h1],h2⟩
theorem dO7(A:List Str):cJ A= []\/ ∃s',cJ A=32::s':=by cases A<;>first|exact .inl rfl|exact .inr ⟨_,rfl⟩
theorem dO8:∀(A B:List Str),Nb A->Nb B->cJ A=cJ B->A=B
 | [],[],_,_,_=>rfl
 | [],_::_,_,_,e=>by cases e
 |_::_,[],_,_,e=>by cases e
 |a::A,b::B,ha,hb,e=>by
  have e':Ls a++cJ A=Ls b++cJ B:=(List.cons.inj e).2
  obtain⟨h1,h2⟩:=dO6 _ _ _ _ (dO5 (ha a mem_cons_self)) (dO5 (hb b mem_cons_self)) (dO7 A) (dO7 B) e'
  rw[gK1 h1,dO8 A B (fun w hw=>ha w (mem_cons_of_mem _ hw)) (fun w hw=>hb w (mem_cons_of_mem _ hw)) h2]
theorem gP0{A B:List Str}(hA:A≠ [])(hB:B≠ [])(ha:Nb A)(hb:Nb B)(e:tl A=tl B):A=B:=dO8 A B ha hb (by rw[<-dL0 hA, <-dL0 hB,e])
theorem gP1{t:Str}{B:List Str}(hB:B≠ [])(hb:Nb B)(e:Ls t=tl B):Txt.split t " " =B:=by
 have one:(" " :Str)=⟨[32].toArray⟩:=by decide+kernel
 refine gP0 (fun z=>?_) hB (fun w hw=>?_) hb ?_
 ·have:=PyProof.Rows.split_pos t " "
  rw[z]at this;simp at this
 ·rw[one]at hw
  have:=PySem.StrLaws.split_free t 32 w hw
  unfold jO
  cases q:(Ls w).contains 32 with
  |false=>rfl
  |true=>exact absurd (List.contains_iff_mem.mp q) this
 ·rw[<-e, <-cM5]
  unfold Txt.join
  rw[PySem.StrLaws.glued_eq_join,PySem.StrLaws.join_split]
theorem qR(h:bR (.str z)=true):jO z=true:=by
 simp only[bR,and_eq_true]at h
 unfold jO
 cases q:(Ls z).contains 32 with
 |false=>rfl
 |true=>
  have:=List.all_eq_true.mp h.2.1 32 (List.contains_iff_mem.mp q)
  cases this
theorem cO5(i:Int):jO (iS i)=true:=by
 have key:∀m,(dg m).contains 32=false:=fun m=>by
  cases q:(dg m).contains 32 with
  |false=>rfl
  |true=>have:=bE6 m 32 (List.contains_iff_mem.mp q);omega
 unfold jO
 rcases Int.lt_or_le i 0 with hneg|hpos
 ·obtain⟨m,rfl⟩:∃m:Nat,i= -((m+1:Nat):Int):=⟨(-i).toNat-1,by omega⟩
  rw[cO0,List.contains_cons,key];rfl
 ·obtain⟨m,rfl⟩:=Int.eq_ofNat_of_zero_le hpos
  rw[cO1,key];rfl
theorem gP2(h:jC w=true):jO w=true:=by rcases bY0 h with rfl|rfl|rfl|rfl|rfl<;>decide+kernel
theorem fT(h:jO w=true)(hl:Nb l):Nb (w::l):=fun x hx=>by
 rcases List.mem_cons.mp hx with rfl|hx
 ·exact h
 ·exact hl x hx
theorem qS:Nb []:=fun x hx=>by cases hx
theorem qT{a b:List Str}(ha:Nb a)(hb:Nb b):Nb (a++b):=fun x hx=>(List.mem_append.mp hx).elim (ha x) (hb x)
theorem zF{f:D->List Str}(h:∀x∈xs,Nb (f x)):Nb (xs.flatMap f):=fun w hw=>by
 obtain⟨x,hx,hw⟩:=List.mem_flatMap.mp hw
 exact h x hx w hw
theorem gP3:jO "call" =true:=by decide+kernel
theorem dO9(h:∀x∈xs,Nb (eW k x)):Nb (fK (eW k) xs):=fT (cO5 _) (zF h)
theorem bM1:∀(k:Nat) (d:D),bK k d=true->Nb (eW k d)
 |0,_,h=>by cases h
 |k+1,d,h=>by
  have hd:=h
  cases bD7 h with
  |num i _ _=>exact fT (cO5 i) qS
  |nam z _ _=>
   have:(ofString "name" ==ofString "number")=false:=by decide+kernel
   exact fT (qR (by simpa[bK,this]using hd)) qS
  |cal z xs _ _ l a=>
   have q1:(ofString "call" ==ofString "number")=false:=by decide+kernel
   have q2:(ofString "call" ==ofString "name")=false:=by decide+kernel
   simp only[bK,q1,q2,false_eq_true,if_false,beq_self_eq_true,if_true,and_eq_true]at hd
   exact fT gP3 (fT (qR hd.1) (dO9 fun x hx=>bM1 k x (a x hx)))
  |two w x y hw hx hy=>
   rw[bX0 hx hy]
   exact fT (gP2 hw) (qT (bM1 k x hx) (bM1 k y hy))
theorem dP0:jO "end" =true:=by decide+kernel
theorem gP4(h:kS jB (.str w)= .ok (.tup (form.map .str)))(hi:(jB.lookup w).isSome=true):Nb (w::form):=by
 rw[dI5]at hi
 cases q:jH.lookup w with
 |none=>rw[q]at hi;cases hi
 |some ss=>
  have m:=bL0 q
  simp only[jH,mem_cons,not_mem_nil,or_false,Prod.mk.injEq]at m
  have key:∀{w:Str} {f:List Str},kS jB (.str w)= .ok (.tup (f.map .str))->kS jB (.str w)= .ok (.tup (form.map .str))->(w::f).all jO=true->Nb (w::form):=fun{w f} e1 e2 e3=>by
   have e5:f.map D.str=form.map D.str:=D.tup.inj (bA.ok.inj (e1.symm.trans e2))
   rw[<-(List.map_inj_right (fun a b e=>by cases e;rfl)).mp e5]
   exact List.all_eq_true.mp e3
  rcases m with⟨rfl,rfl⟩|⟨rfl,rfl⟩|⟨rfl,rfl⟩|⟨rfl,rfl⟩|⟨rfl,rfl⟩|⟨rfl,rfl⟩|⟨rfl,rfl⟩|⟨rfl,rfl⟩|⟨rfl,rfl⟩|⟨rfl,rfl⟩
  ·exact key (f:=["WORD","be","EXPRESSION"]) bO h dX
  ·exact key (f:=["EXPRESSION","then","BLOCK","else","BLOCK"]) bO h dX
  ·exact key (f:=["EXPRESSION","do","BLOCK"]) bO h dX
  ·exact key (f:=["DEED","PARTS"]) bO h dX
  ·exact key (f:=["EXPRESSION"]) bO h dX
  ·exact key (f:=["EXPRESSION"]) bO h dX
  ·exact key (f:=["WORD"]) bO h dX
  ·exact key (f:=["WORD","deed","DEED"]) bO h dX
  ·exact key (f:=["WORD","to","EXPRESSION"]) bO h dX
  ·exact key (f:=["WORD","and","WORD"]) bO h dX
theorem gP5(hs:fO s=true)(hx:dZ k s x=true)(hB:∀y,cE k y=true->Nb (sW k y)):Nb (dU k s x):=by
 rcases cO4 hs with rfl|rfl|rfl|rfl|rfl
 ·obtain⟨z,rfl,_⟩:=pK (show bR x=true from hx);exact fT (qR hx) qS
 ·obtain⟨z,rfl,_⟩:=pK (show bR x=true from hx);exact fT (qR hx) qS
 ·have he:bK k x=true:=hx
  rw[lW he];exact bM1 k x he
 ·obtain⟨xs,rfl,l,ax⟩:=bX4 hx
  rw[bL6];exact dO9 fun x hx=>bM1 k x (ax x hx)
 ·obtain⟨xs,rfl,ax⟩:=yU hx
  rw[rK];exact qT (zF fun x hx=>hB x (ax x hx)) (fT dP0 qS)
theorem cO6{l:List D}(hB:∀y,cE k y=true->Nb (sW k y)):∀(form:List Str) (p:Nat),Nb form->pV (fun s x=>dZ k s x=true) l form p->Nb (fW (dU k) l form p)
 | [],_,_,_=>qS
 |s::form,p,hf,h=>by
  have hf':Nb form:=fun w hw=>hf w (mem_cons_of_mem _ hw)
  cases hq:fO s with
  |true=>
   simp only[pV,hq,if_true]at h
   simp only[fW,hq,if_true]
   obtain⟨⟨x,hx,px⟩,h⟩:=h
   rw[show l.getD p .non=x by rw[getD_eq_getElem?_getD,hx];rfl]
   exact qT (gP5 hq px hB) (cO6 hB form (p+1) hf' h)
  |false=>
   simp only[pV,hq,false_eq_true,if_false]at h
   simp only[fW,hq,false_eq_true,if_false]
   exact fT (hf s mem_cons_self) (cO6 hB form p hf' h)
theorem dP1:∀(k:Nat) (d:D),cE k d=true->Nb (sW k d)
 |0,_,h=>by cases h
 |k+1,d,h=>by
  obtain⟨w,r,form,F⟩:=bY2 h
  rw[F.w]
  have hn:=gP4 F.f F.i
  exact fT (hn w mem_cons_self) (cO6 (fun y hy=>dP1 k y hy) form 1 (fun v hv=>hn v (mem_cons_of_mem _ hv)) F.g)
theorem dP2(h:∀x∈xs,cE k x=true):Nb (bW k xs):=qT (zF fun x hx=>dP1 k x (h x hx)) (fT dP0 qS)
abbrev jX(zs:List Str):Prop:=∀z∈zs,bR (.str z)=true
noncomputable def nmW:D->List Str
 | .str z=>[z]
 |_=>[]
theorem dP4(zs:List Str):(zs.map D.str).flatMap nmW=zs:=by
 induction zs with
 |nil=>rfl
 |cons z r ih=>rw[map_cons,flatMap_cons,ih];rfl
theorem At.next{r:List Str}{e:Str}(h:At ws k (l++(e::r))):At ws k (l++ [e]):=by
 have:l++(e::r)=(l++ [e])++r:=by rw[append_assoc];rfl
 rw[this]at h;exact h.left
theorem dP5:bR (.str "own")=false/\bR (.str "do")=false:=by decide+kernel
theorem kw:(ofString "deed" ==ofString "word")=false/\(ofString "done" ==ofString "word")=false/\(ofString "do" ==ofString "word")=false/\(ofString "done" ==ofString "deed")=false/\(ofString "do" ==ofString "deed")=false/\(ofString "word" ==ofString "take")=false/\(ofString "deed" ==ofString "take")=false/\(ofString "do" ==ofString "take")=false/\(ofString "unit" ==ofString "face")=false:=by decide+kernel
section
variable(C C':CT)
theorem qU{p:Bool}(B:Rb C ws)(h:ws[kk]? =some (.str w))(hi:O[i]? =some (.row p ws (kk:Int))):hX i (C .q63) O= .ok (.str w):=bE5 hi (B.ah h)
theorem gP6(hz:jX zs)(hw:bR (.str w)=false)(hl:zs.length<=1000)(hat:At ws kk (zs++ [w]))(B:Rb C ws):
 ((bT3 C C') #[.row true ws (kk:Int),.str w,()]).bind cF= .ok (.tup [.tup (zs.map .str),.int ((kk+zs.length+1:Nat):Int)]):=by
 have hs:=sizeLine_eq
 unfold bT3
 have f1:∀R:MS,bB (hV 2) R #[.row true ws (kk:Int),.str w,()]=R [.row true ws (kk:Int),.val (.str w),.own []]:=fun R=>rfl
 rw[f1]
 obtain⟨s',e⟩:=yZ (ws:=ws) (t:=mB (m2 jS (hX 0 (C .q63)) @1)) (u:=kU 0 2 (bT 0 (C .q33) (bP))) (e:=w) (r:=fun k acc _=>[.row true ws (k:Int),.val (.str w),.own acc]) (f:=nmW)
  (fun q acc s h=>cB (c2 (qU C B h.one rfl) rfl ((bY3 _ _).trans (by rw[beq_self_eq_true];rfl)))) (zs.map .str) 33554432 kk [] .no (by rw[length_map];omega) (by rw[length_map];simp;omega) (fun x hx q acc s ha h=>by
   obtain⟨z,hz',rfl⟩:=List.mem_map.mp hx
   have hn:=hz z hz'
   have h':At ws q [z]:=h
   have ne:(z==w)=false:=beq_eq_false_iff_ne.mpr fun e=>by rw[e,hw]at hn;cases hn
   exact⟨cB (c2 (qU C B h'.one rfl) rfl ((bY3 _ _).trans (by rw[ne];rfl))),.no,yY (xs:=acc) (p:=true) (ws:=ws) (k:=(q:Int)) rfl (by decide) rfl (cW rfl rfl (B.nm h'.one hn)) bD⟩) (by rw[dP4];exact hat)
 rw[dP4]at e
 rw[gQ (show nX _ _ [.row true ws (kk:Int),.val (.str w),.own []]=_ from e),pJ rfl]
 show(bB (fX 0 _) _ #[.row true ws ((kk+zs.length:Nat):Int),.str w,.lst ([]++zs.map .str)]).bind cF=_
 rw[nI (p:=true) (ws:=ws) (k:=((kk+zs.length:Nat):Int)) rfl (cW rfl rfl (B.sk hat.right.one))]
 exact(mV (p:=true) (ws:=ws) (k:=((kk+zs.length+1:Nat):Int)) rfl (qQ rfl (a1 rfl rfl))).trans rfl
theorem gP7{e:Str}(hz:jX zs)(he:(e==ofString "word")=false)(hl:zs.length<=1000)(hat:At ws kk (fA zs++ [e]))(B:Rb C ws):
 ((bT1 C C') [.row true ws (kk:Int),.no]).bind cF= .ok (.tup [.tup (zs.map .str),.int ((kk+(fA zs).length:Nat):Int)]):=by
 have hs:=sizeLine_eq
 unfold bT1
 have f1:∀R:MS,bB (hV 1) R [.row true ws (kk:Int),.no]=R [.row true ws (kk:Int),.own []]:=fun R=>rfl
 rw[f1]
 obtain⟨s',e⟩:=yZ (ws:=ws) (t:=mB (m2 cI (hX 0 (C .q63)) .("word"))) (u:=bB (fX 0 (bT 0 (C .skip) {.("word")})) (kU 0 1 (bT 0 (C .q33) (bP)))) (e:=e) (r:=fun k acc _=>[.row true ws (k:Int),.own acc]) (f:=rM)
  (fun q acc s h=>cB (c2 (qU C B h.one rfl) rfl ((dL _ _).trans (by rw[he])))) (zs.map .str) 33554432 kk [] .no (by rw[length_map];omega) (by rw[length_map];simp;omega) (fun x hx q acc s ha h=>by
   obtain⟨z,hz',rfl⟩:=List.mem_map.mp hx
   have h':At ws q [ofString "word",z]:=h
   refine⟨cB (c2 (qU C B h'.one rfl) rfl ((dL _ _).trans (by rw[beq_self_eq_true]))),.no,?_⟩
   rw[nI (p:=true) (ws:=ws) (k:=(q:Int)) rfl (cW rfl rfl (B.sk h'.one))]
   exact yY (xs:=acc) (p:=true) (ws:=ws) (k:=((q+1:Nat):Int)) rfl (by decide) rfl (cW rfl rfl (B.nm h'.tl.one (hz z hz'))) bD) hat
 rw[gQ (show nX _ _ [.row true ws (kk:Int),.own []]=_ from e),pJ rfl]
 exact(mV (p:=true) (ws:=ws) (k:=((kk+(fA zs).length:Nat):Int)) rfl (qQ rfl (a1 rfl rfl))).trans rfl
theorem gP8(hx:kL x=true)(hat:At ws kk (jJ x))(B:Rb C ws):((bT0 C C') [.row true ws (kk:Int),.no]).bind cF= .ok (.tup [x,.int ((kk+(jJ x).length:Nat):Int)]):=by
 obtain⟨a,b,rfl,_⟩:=bL9 hx
 have h12:bR (.str a)=true/\bR (.str b)=true:=by
  simp only[kL,and_eq_true]at hx;exact hx
 have hat':At ws kk [ofString "take",b,ofString "from",a]:=hat
 have hs:=sizeLine_eq
 unfold bT0
 rw[nI (p:=true) (ws:=ws) (k:=(kk:Int)) rfl (cW rfl rfl (B.sk hat'.one))]
 show(bB (fB 0 1 _) _ [.row true ws ((kk+1:Nat):Int),.no]).bind cF=_
 rw[kX (p:=true) (ws:=ws) (k:=((kk+1:Nat):Int)) rfl (cW rfl rfl (B.nm hat'.tl.one h12.2))]
 show(bB (fX 0 _) _ #[.row true ws ((kk+1+1:Nat):Int),.str b]).bind cF=_
 rw[nI (p:=true) (ws:=ws) (k:=((kk+1+1:Nat):Int)) rfl (cW rfl rfl (B.sk hat'.tl.tl.one))]
 show(fM 0 _ #[.row true ws ((kk+1+1+1:Nat):Int),.str b]).bind cF=_
 have q:bT 0 (C .q33) (bP) #[.row true ws ((kk+1+1+1:Nat):Int),.str b]= .ok (.str a,((kk+1+1+1+1:Nat):Int)):=cW rfl rfl (B.nm hat'.tl.tl.tl.one h12.1)
 have q2:bB5 0 (bT 0 (C .q33) (bP)) (nD (xP 0 @1)) #[.row true ws ((kk+1+1+1:Nat):Int),.str b]= .ok ([.str a,.str b],((kk+1+1+1+1:Nat):Int)):=by
  unfold bB5
  show((bT 0 (C .q33) (bP) #[.row true ws ((kk+1+1+1:Nat):Int),.str b]).bind _)=_
  rw[q];rfl
 exact(mV (p:=true) (ws:=ws) (k:=((kk+1+1+1:Nat):Int)) rfl (bE8 q2 (by simp))).trans rfl
structure Rc2(C:CT)(ws:List D):Prop where
 un:∀{zs:List Str} {w:Str} {k:Nat},jX zs->bR (.str w)=false->zs.length<=1000->At ws k (zs++ [w])->Rd C .q26 [.str w] ws k (.tup (zs.map .str)) (k+zs.length+1)
 bl:∀{xs:List D} {k:Nat},(∀x∈xs,cE 13 x=true)->At ws k (bW 13 xs)->Rd C .q27 [.int 0] ws k (.tup xs) (k+(bW 13 xs).length)
theorem gP9{d:D}(hd:mP d=true)(hat:At ws kk (dW d))(B:Rb C ws)(G:Rc2 C ws):((bT2 C C') [.row true ws (kk:Int),.no,.no,.no]).bind cF= .ok (.tup [d,.int ((kk+(dW d).length:Nat):Int)]):=by
 have hd':=hd
 cases bX6 hd with
 |mk z ps os bs hz hp lp ho lo hb=>
 simp only[mP,and_eq_true,fS,all_map,all_eq_true,comp]at hd'
 obtain⟨n1,⟨_,n2⟩,⟨_,n3⟩,_⟩:=hd'
 have e:dW (.tup [.str z,.tup (ps.map .str),.tup (os.map .str),.tup bs])=ofString "deed" ::z::ofString "with" ::(ps++(ofString "own" ::(os++(ofString "do" ::bW 13 bs)))):=by
  show _::_::_::(qP (ps.map .str)++(_::(qP (os.map .str)++(_::bW 13 bs))))=_
  rw[wV,wV]
 rw[e]at hat ⊢
 unfold bT2
 have h3:=hat.tl.tl.tl
 have h4:=h3.right.tl
 have h5:=h4.right.tl
 rw[nI (p:=true) (ws:=ws) (k:=(kk:Int)) rfl (cW rfl rfl (B.sk hat.one))]
 show(bB (fB 0 1 _) _ [.row true ws ((kk+1:Nat):Int),.no,.no,.no]).bind cF=_
 rw[kX (p:=true) (ws:=ws) (k:=((kk+1:Nat):Int)) rfl (cW rfl rfl (B.nm hat.tl.one n1))]
 show(bB (fX 0 _) _ #[.row true ws ((kk+1+1:Nat):Int),.str z,(),()]).bind cF=_
 rw[nI (p:=true) (ws:=ws) (k:=((kk+1+1:Nat):Int)) rfl (cW rfl rfl (B.sk hat.tl.tl.one))]
 show(bB (fB 0 2 _) _ #[.row true ws ((kk+1+1+1:Nat):Int),.str z,(),()]).bind cF=_
 rw[kX (p:=true) (ws:=ws) (k:=((kk+1+1+1:Nat):Int)) rfl (cW rfl rfl (G.un n2 dP5.1 bD h3.next))]
 show(bB (fB 0 3 _) _ #[.row true ws ((kk+1+1+1+ps.length+1:Nat):Int),.str z,.tup (ps.map .str),()]).bind cF=_
 rw[kX (p:=true) (ws:=ws) (k:=((kk+1+1+1+ps.length+1:Nat):Int)) rfl (cW rfl rfl (G.un n3 dP5.2 bD h4.next))]
 show(fM 0 _ #[.row true ws ((kk+1+1+1+ps.length+1+os.length+1:Nat):Int),.str z,.tup (ps.map .str),.tup (os.map .str)]).bind cF=_
 refine(mV (p:=true) (ws:=ws) (k:=((kk+1+1+1+ps.length+1+os.length+1:Nat):Int)) rfl (bE8 (wW rfl (wW rfl (wW rfl (bE7 (cW rfl rfl (G.bl hb h5)))))) (by simp))).trans ?_
 have el:kk+(ofString "deed" ::z::ofString "with" ::(ps++(ofString "own" ::(os++(ofString "do" ::bW 13 bs))))).length=kk+1+1+1+ps.length+1+os.length+1+(bW 13 bs).length:=by simp only[length_cons,length_append];omega
 rw[el];rfl
end
theorem gQ0(n:Nat)(ws:List D)(hw:ws.length<=10000000):Rc2 (Ph (n+47)) ws:=
 ⟨fun{zs w k} hz hk hl h=>by
  show((bT3 (Ph (n+46)) (Ph (n+44))) #[.row true ws (k:Int),.str w,()]).bind cF=_
  exact gP6 _ _ hz hk hl h (pU (n+41) ws),fun{xs k} hx h=>rblock_ok 13 n 0 ws k xs hw rfl hx h⟩
theorem gQ1(n:Nat)(ws:List D)(hw:ws.length<=10000000){d:D}(hd:mP d=true)(h:At ws k (dW d)):Rd (Ph (n+48)) .q25 [] ws k d (k+(dW d).length):=by
 show((bT2 (Ph (n+47)) (Ph (n+45))) [.row true ws (k:Int),.no,.no,.no]).bind cF=_
 exact gP9 _ _ hd h (pU (n+42) ws) (gQ0 n ws hw)
theorem dP7(n:Nat)(ws:List D){e:Str}(hz:jX zs)(he:(e==ofString "word")=false)(hl:zs.length<=1000)(h:At ws k (fA zs++ [e])):Rd (Ph (n+6)) .q24 [] ws k (.tup (zs.map .str)) (k+(fA zs).length):=by
 show((bT1 (Ph (n+5)) (Ph (n+3))) [.row true ws (k:Int),.no]).bind cF=_
 exact gP7 _ _ hz he hl h (pU n ws)
theorem gQ2(n:Nat)(ws:List D)(hx:kL x=true)(h:At ws k (jJ x)):Rd (Ph (n+6)) .q23 [] ws k x (k+(jJ x).length):=by
 show((bT0 (Ph (n+5)) (Ph (n+3))) [.row true ws (k:Int),.no]).bind cF=_
 exact gP8 _ _ hx h (pU n ws)
theorem cO7{f:D->List Str}{a e:Str}{r:List Str}(h:∀x∈xs,∃q,f x=a::q):∃g t,xs.flatMap f++(e::r)=g::t/\(g=a\/g=e):=by
 cases xs with
 |nil=>exact⟨e,r,rfl,.inr rfl⟩
 |cons x xs=>
  obtain⟨q,hq⟩:=h x mem_cons_self
  exact⟨a,_,by rw[flatMap_cons,hq];rfl,.inl rfl⟩
theorem cO8(h:mS x=true):∃(z:Str) (i:Int),x= .tup [.str z,.int i]/\bR (.str z)=true/\jV (.int i)=true:=by
 obtain⟨z,i,rfl,h1,h2,h3⟩:=bW7 h
 exact⟨z,i,rfl,h1,by simp only[jV,decide_eq_true_eq];omega⟩
theorem gQ3(h:kL x=true):∃q,jJ x=ofString "take" ::q:=by
 obtain⟨a,b,rfl,_⟩:=bL9 h
 exact⟨_,rfl⟩
theorem dP8(h:mP x=true):∃q,dW x=ofString "deed" ::q:=by
 cases bX6 h with
 |mk=>exact⟨_,rfl⟩
theorem gQ4(zs:List Str):∀x∈zs.map D.str,∃q,rM x=ofString "word" ::q:=fun x hx=>by
 obtain⟨z,_,rfl⟩:=List.mem_map.mp hx
 exact⟨_,rfl⟩
section
variable(C C':CT)
theorem gQ5{d:D}(hd:jW d=true)(hat:At ws kk (fG d))(B:Rb C ws)(hdc:∀{zs:List Str} {e:Str} {k:Nat},jX zs->(e==ofString "word")=false->zs.length<=1000->At ws k (fA zs++ [e])->Rd C .q24 [] ws k (.tup (zs.map .str)) (k+(fA zs).length)):
 ((bS8 C C') [.row true ws (kk:Int),.no,.no,.no,.no]).bind cF= .ok (.tup [d,.int ((kk+(fG d).length:Nat):Int)]):=by
 have hs:=sizeLine_eq
 have hd':=hd
 cases bE1 hd with
 |mk z zs ts hz hw lw ht lt=>
 simp only[jW,and_eq_true,fS,all_map,all_eq_true,comp]at hd'
 obtain⟨n1,⟨_,n2⟩,_⟩:=hd'
 have hat':At ws kk (ofString "face" ::z::(fA zs++(ts.flatMap lX++ [ofString "done"]))):=hat
 obtain⟨K1,K2,K3,K4,K5,K6,K7,K8,_⟩:=kw
 have h2:=hat'.tl.tl
 have h3:=h2.right
 obtain⟨g,t,eg,hg⟩:=cO7 (f:=lX) (a:=ofString "deed") (e:=ofString "done") (r:=[]) (xs:=ts) fun x hx=>by
  obtain⟨z,i,rfl,_⟩:=cO8 (ht x hx);exact⟨_,rfl⟩
 have hne:(g==ofString "word")=false:=by rcases hg with rfl|rfl<;>assumption
 have h2':=h2
 rw[eg]at h2'
 unfold bS8
 rw[nI (p:=true) (ws:=ws) (k:=(kk:Int)) rfl (cW rfl rfl (B.sk hat'.one))]
 show(bB (fB 0 1 _) _ [.row true ws ((kk+1:Nat):Int),.no,.no,.no,.no]).bind cF=_
 rw[kX (p:=true) (ws:=ws) (k:=((kk+1:Nat):Int)) rfl (cW rfl rfl (B.nm hat'.tl.one n1))]
 show(bB (fB 0 2 _) _ #[.row true ws ((kk+1+1:Nat):Int),.str z,(),(),()]).bind cF=_
 rw[kX (p:=true) (ws:=ws) (k:=((kk+1+1:Nat):Int)) rfl (cW rfl rfl (hdc n2 hne bD h2'.next))]
 show(bB (hV 3) _ #[.row true ws ((kk+1+1+(fA zs).length:Nat):Int),.str z,.tup (zs.map .str),(),()]).bind cF=_
 generalize hk2:kk+1+1+(fA zs).length=k2 at h3 ⊢
 have f1:∀R:MS,bB (hV 3) R #[.row true ws (k2:Int),.str z,.tup (zs.map .str),(),()]=R [.row true ws (k2:Int),.val (.str z),.val (.tup (zs.map .str)),.own [],.no]:=fun R=>rfl
 rw[f1]
 obtain⟨s',e⟩:=yZ (ws:=ws) (t:=mB (m2 cI (hX 0 (C .q63)) .("deed"))) (u:=bB (fX 0 (bT 0 (C .skip) {.("deed")})) (bB (fB 0 4 (bT 0 (C .q33) (bP))) (kU 0 3 (qM (nY @4 (nD (bT 0 (C .q34) (bP)))))))) (e:=ofString "done") (r:=fun k acc s=>[.row true ws (k:Int),.val (.str z),.val (.tup (zs.map .str)),.own acc,s]) (f:=lX)
  (fun q acc s h=>cB (c2 (qU C B h.one rfl) rfl ((dL _ _).trans (by rw[K4])))) ts 33554432 k2 [] .no bD (by simp;omega) (fun x hx q acc s ha h=>by
   obtain⟨y,i,rfl,ny,ni⟩:=cO8 (ht x hx)
   have h':At ws q [ofString "deed",y,iS i]:=h
   refine⟨cB (c2 (qU C B h'.one rfl) rfl ((dL _ _).trans (by rw[beq_self_eq_true]))),.val (.str y),?_⟩
   rw[nI (p:=true) (ws:=ws) (k:=(q:Int)) rfl (cW rfl rfl (B.sk h'.one))]
   show bB (fB 0 4 _) _ [.row true ws ((q+1:Nat):Int),.val (.str z),.val (.tup (zs.map .str)),.own acc,s]=_
   rw[kX (p:=true) (ws:=ws) (k:=((q+1:Nat):Int)) rfl (cW rfl rfl (B.nm h'.tl.one ny))]
   exact yY (xs:=acc) (p:=true) (ws:=ws) (k:=((q+1+1:Nat):Int)) rfl (by decide) rfl (bE8 (wW rfl (bE7 (cW rfl rfl (B.nu ni h'.tl.tl.one)))) (by simp)) bD) h3
 rw[gQ (show nX _ _ [.row true ws (k2:Int),.val (.str z),.val (.tup (zs.map .str)),.own [],.no]=_ from e),pJ rfl]
 show(bB (fX 0 _) _ [.row true ws ((k2+(ts.flatMap lX).length:Nat):Int),.val (.str z),.val (.tup (zs.map .str)),.val (.lst ([]++ts)),s']).bind cF=_
 rw[nI (p:=true) (ws:=ws) (k:=((k2+(ts.flatMap lX).length:Nat):Int)) rfl (cW rfl rfl (B.sk h3.right.one))]
 refine(mV (p:=true) (ws:=ws) (k:=((k2+(ts.flatMap lX).length+1:Nat):Int)) rfl (qQ rfl (a3 rfl rfl (a1 rfl rfl) (lV _ _ _)))).trans ?_
 have el:kk+(fG (.tup [.str z,.tup (zs.map .str),.tup ts])).length=k2+(ts.flatMap lX).length+1:=by
  show kk+(ofString "face" ::z::(fA zs++(ts.flatMap lX++ [ofString "done"]))).length=_
  simp only[length_cons,length_append,length_nil];omega
 rw[el];rfl
theorem gQ6{d:D}(hd:lU d=true)(hat:At ws kk (fG d))(B:Rb C ws)(hdc:∀{zs:List Str} {e:Str} {k:Nat},jX zs->(e==ofString "word")=false->zs.length<=1000->At ws k (fA zs++ [e])->Rd C .q24 [] ws k (.tup (zs.map .str)) (k+(fA zs).length))
 (htk:∀{k:Nat} {x:D},kL x=true->At ws k (jJ x)->Rd C .q23 [] ws k x (k+(jJ x).length)) (hdd:∀{k:Nat} {x:D},mP x=true->At ws k (dW x)->Rd C .q25 [] ws k x (k+(dW x).length))
 (hbl:∀{xs:List D} {k:Nat},(∀x∈xs,cE 13 x=true)->At ws k (bW 13 xs)->Rd C .q27 [.int 0] ws k (.tup xs) (k+(bW 13 xs).length)):
 ((bS9 C C') [.row true ws (kk:Int),.no,.no,.no,.no,.no]).bind cF= .ok (.tup [d,.int ((kk+(fG d).length:Nat):Int)]):=by
 have hs:=sizeLine_eq
 have hd':=hd
 cases bE2 hd with
 |mk z ts zs ds bs hz ht lt hw lw hdd' ld hb=>
 simp only[lU,and_eq_true,fS,lF,all_map,all_eq_true,comp]at hd'
 obtain⟨n1,⟨_,n2⟩,_,⟨_,n4⟩,_⟩:=hd'
 have hat':At ws kk (ofString "unit" ::z::(ts.flatMap jJ++(fA zs++(ds.flatMap dW++(ofString "do" ::(bW 13 bs++ [ofString "done"])))))):=hat
 obtain⟨K1,K2,K3,K4,K5,K6,K7,K8,_⟩:=kw
 have h2:=hat'.tl.tl
 have h3:=h2.right
 have h4:=h3.right
 have h5:=h4.right.tl
 obtain⟨g,t,eg,hg⟩:=cO7 (f:=dW) (a:=ofString "deed") (e:=ofString "do") (r:=bW 13 bs++ [ofString "done"]) (xs:=ds) fun x hx=>dP8 (n4 x hx)
 have hne:(g==ofString "word")=false:=by rcases hg with rfl|rfl<;>assumption
 have h3':=h3
 rw[eg]at h3'
 obtain⟨g2,t2,eg2,hg2⟩:=cO7 (f:=rM) (a:=ofString "word") (e:=g) (r:=t) (xs:=zs.map .str) (gQ4 zs)
 have hne2:(g2==ofString "take")=false:=by rcases hg2 with rfl|rfl<;>first|assumption| (rcases hg with rfl|rfl<;>assumption)
 have h2':=h2
 rw[eg,show fA zs++g::t=g2::t2 from eg2]at h2'
 unfold bS9
 rw[nI (p:=true) (ws:=ws) (k:=(kk:Int)) rfl (cW rfl rfl (B.sk hat'.one))]
 show(bB (fB 0 1 _) _ [.row true ws ((kk+1:Nat):Int),.no,.no,.no,.no,.no]).bind cF=_
 rw[kX (p:=true) (ws:=ws) (k:=((kk+1:Nat):Int)) rfl (cW rfl rfl (B.nm hat'.tl.one n1))]
 have f1:∀R:MS,bB (hV 2) R #[.row true ws ((kk+1+1:Nat):Int),.str z,(),(),(),()]=R [.row true ws ((kk+1+1:Nat):Int),.val (.str z),.own [],.no,.no,.no]:=fun R=>rfl
 show(bB (hV 2) _ #[.row true ws ((kk+1+1:Nat):Int),.str z,(),(),(),()]).bind cF=_
 rw[f1]
 obtain⟨s',e⟩:=yZ (ws:=ws) (t:=mB (m2 cI (hX 0 (C .q63)) .("take"))) (u:=kU 0 2 (bT 0 (C .q23) (bP))) (e:=g2) (r:=fun k acc _=>[.row true ws (k:Int),.val (.str z),.own acc,.no,.no,.no]) (f:=jJ)
  (fun q acc s h=>cB (c2 (qU C B h.one rfl) rfl ((dL _ _).trans (by rw[hne2])))) ts 33554432 (kk+1+1) [] .no bD (by simp;omega) (fun x hx q acc s ha h=>by
   obtain⟨r,er⟩:=gQ3 (ht x hx)
   have h':=h
   rw[er]at h'
   exact⟨cB (c2 (qU C B h'.one rfl) rfl ((dL _ _).trans (by rw[beq_self_eq_true]))),.no,yY (xs:=acc) (p:=true) (ws:=ws) (k:=(q:Int)) rfl (by decide) rfl (cW rfl rfl (htk (ht x hx) h)) bD⟩) h2'.next
 rw[gQ (show nX _ _ [.row true ws ((kk+1+1:Nat):Int),.val (.str z),.own [],.no,.no,.no]=_ from e),pJ rfl]
 show(bB (fB 0 3 _) _ #[.row true ws ((kk+1+1+(ts.flatMap jJ).length:Nat):Int),.str z,.lst ([]++ts),(),(),()]).bind cF=_
 generalize hk2:kk+1+1+(ts.flatMap jJ).length=k2 at h3 h3' h4 h5 ⊢
 rw[kX (p:=true) (ws:=ws) (k:=(k2:Int)) rfl (cW rfl rfl (hdc n2 hne bD h3'.next))]
 show(bB (hV 4) _ #[.row true ws ((k2+(fA zs).length:Nat):Int),.str z,.lst ([]++ts),.tup (zs.map .str),(),()]).bind cF=_
 generalize hk3:k2+(fA zs).length=k3 at h4 h5 ⊢
 have f2:∀R:MS,bB (hV 4) R #[.row true ws (k3:Int),.str z,.lst ([]++ts),.tup (zs.map .str),(),()]=R [.row true ws (k3:Int),.val (.str z),.val (.lst ([]++ts)),.val (.tup (zs.map .str)),.own [],.no]:=fun R=>rfl
 rw[f2]
 obtain⟨s2,e2⟩:=yZ (ws:=ws) (t:=mB (m2 cI (hX 0 (C .q63)) .("deed"))) (u:=kU 0 4 (bT 0 (C .q25) (bP))) (e:=ofString "do") (r:=fun k acc _=>[.row true ws (k:Int),.val (.str z),.val (.lst ([]++ts)),.val (.tup (zs.map .str)),.own acc,.no]) (f:=dW)
  (fun q acc s h=>cB (c2 (qU C B h.one rfl) rfl ((dL _ _).trans (by rw[K5])))) ds 33554432 k3 [] .no bD (by simp;omega) (fun x hx q acc s ha h=>by
   obtain⟨r,er⟩:=dP8 (n4 x hx)
   have h':=h
   rw[er]at h'
   exact⟨cB (c2 (qU C B h'.one rfl) rfl ((dL _ _).trans (by rw[beq_self_eq_true]))),.no,yY (xs:=acc) (p:=true) (ws:=ws) (k:=(q:Int)) rfl (by decide) rfl (cW rfl rfl (hdd (n4 x hx) h)) bD⟩) h4.next
 rw[gQ (show nX _ _ [.row true ws (k3:Int),.val (.str z),.val (.lst ([]++ts)),.val (.tup (zs.map .str)),.own [],.no]=_ from e2),pJ rfl]
 show(bB (fX 0 _) _ #[.row true ws ((k3+(ds.flatMap dW).length:Nat):Int),.str z,.lst ([]++ts),.tup (zs.map .str),.lst ([]++ds),()]).bind cF=_
 rw[nI (p:=true) (ws:=ws) (k:=((k3+(ds.flatMap dW).length:Nat):Int)) rfl (cW rfl rfl (B.sk h4.right.one))]
 generalize hk4:k3+(ds.flatMap dW).length+1=k4 at h5 ⊢
 show(bB (fB 0 5 _) _ #[.row true ws (k4:Int),.str z,.lst ([]++ts),.tup (zs.map .str),.lst ([]++ds),()]).bind cF=_
 rw[kX (p:=true) (ws:=ws) (k:=(k4:Int)) rfl (cW rfl rfl (hbl hb h5.left))]
 show(bB (fX 0 _) _ #[.row true ws ((k4+(bW 13 bs).length:Nat):Int),.str z,.lst ([]++ts),.tup (zs.map .str),.lst ([]++ds),.tup bs]).bind cF=_
 rw[nI (p:=true) (ws:=ws) (k:=((k4+(bW 13 bs).length:Nat):Int)) rfl (cW rfl rfl (B.sk h5.right.one))]
 refine(mV (p:=true) (ws:=ws) (k:=((k4+(bW 13 bs).length+1:Nat):Int)) rfl (qQ rfl (a5 rfl (a1 rfl rfl) rfl (a1 rfl rfl) rfl (cM2 _ _ _ _ _)))).trans ?_
 have el:kk+(fG (.tup [.str z,.tup ts,.tup (zs.map .str),.tup ds,.tup bs])).length=k4+(bW 13 bs).length+1:=by
  show kk+(ofString "unit" ::z::(ts.flatMap jJ++(fA zs++(ds.flatMap dW++(ofString "do" ::(bW 13 bs++ [ofString "done"])))))).length=_
  simp only[length_cons,length_append,length_nil];omega
 rw[el];rfl
end
theorem nbk:jO "face" =true/\jO "unit" =true/\jO "done" =true/\jO "do" =true/\jO "word" =true/\jO "deed" =true/\jO "take" =true/\jO "from" =true/\jO "with" =true/\jO "own" =true:=by decide+kernel
theorem dQ0(h:jX zs):Nb zs:=fun z hz=>qR (h z hz)
theorem dQ1(h:jX zs):Nb (fA zs):=zF fun x hx=>by
 obtain⟨z,hz,rfl⟩:=List.mem_map.mp hx
 exact fT nbk.2.2.2.2.1 (fT (qR (h z hz)) qS)
theorem gQ7{d:D}(hd:jW d=true\/lU d=true):Nb (fG d)/\fG d≠ []:=by
 obtain⟨b1,b2,b3,b4,b5,b6,b7,b8,b9,b10⟩:=nbk
 rcases hd with hd|hd
 ·have hd':=hd
  cases bE1 hd with
  |mk z zs ts hz hw lw ht lt=>
  simp only[jW,and_eq_true,fS,all_map,all_eq_true,comp]at hd'
  obtain⟨n1,⟨_,n2⟩,_⟩:=hd'
  refine⟨fT b1 (fT (qR n1) (qT (dQ1 n2) (qT (zF fun x hx=>?_) (fT b3 qS)))),by simp[fG]⟩
  obtain⟨y,i,rfl,ny,ni⟩:=cO8 (ht x hx)
  exact fT b6 (fT (qR ny) (fT (cO5 i) qS))
 ·have hd':=hd
  cases bE2 hd with
  |mk z ts zs ds bs hz ht lt hw lw hdd' ld hb=>
  simp only[lU,and_eq_true,fS,lF,all_map,all_eq_true,comp]at hd'
  obtain⟨n1,⟨_,n2⟩,_,⟨_,n4⟩,_⟩:=hd'
  refine⟨fT b2 (fT (qR n1) (qT (zF fun x hx=>?_) (qT (dQ1 n2) (qT (zF fun x hx=>?_) (fT b4 (qT (dP2 hb) (fT b3 qS))))))),by simp[fG]⟩
  ·have hx':=ht x hx
   obtain⟨a,b,rfl,_⟩:=bL9 hx'
   simp only[kL,and_eq_true]at hx'
   exact fT b7 (fT (qR hx'.2) (fT b8 (fT (qR hx'.1) qS)))
  ·have hx':=n4 x hx
   cases bX6 hx' with
   |mk z ps os bs hz hp lp ho lo hb=>
   simp only[mP,and_eq_true,fS,all_map,all_eq_true,comp]at hx'
   obtain⟨m1,⟨_,m2⟩,⟨_,m3⟩,_⟩:=hx'
   show Nb (_::_::_::(qP (ps.map .str)++(_::(qP (os.map .str)++(_::bW 13 bs)))))
   rw[wV,wV]
   exact fT b6 (fT (qR m1) (fT b9 (qT (dQ0 m2) (fT b10 (qT (dQ0 m3) (fT b4 (dP2 hb)))))))
theorem gQ8{d:D}(h:jW d=true):∃r,fG d=ofString "face" ::r:=by cases bE1 h;exact⟨_,rfl⟩
theorem gQ9{d:D}(h:lU d=true):∃r,fG d=ofString "unit" ::r:=by cases bE2 h;exact⟨_,rfl⟩
theorem gR0(n:Nat){d:D}{t:Str}(hd:jW d=true\/(jW d=false/\lU d=true))(ht:Ls t=tl (fG d))(hl:(fG d).length<=10000000)(hs:t.length+2<=sizeLine):Ph (n+84) .read [.str t]= .ok d:=by
 have hor:jW d=true\/lU d=true:=hd.imp id And.right
 obtain⟨nb,ne⟩:=gQ7 hor
 have hsp:=gP1 ne nb ht
 generalize hW:(fG d).map D.str=W
 have hwl:W.length=(fG d).length:=by rw[<-hW,length_map]
 have hat:At W 0 (fG d):=⟨[],by rw[append_nil,hW];rfl⟩
 show((cJ0 (Ph (n+83)) (Ph (n+81))) #[.str t,(),()]).bind bL=_
 unfold cJ0
 have f1:∀R:MS,bB (yH 1 @0) R #[.str t,(),()]=R #[.str t,.row false W 0,()]:=fun R=>by
  have e:yH 1 @0 #[.str t,(),()]= .ok (.nx #[.str t,.row false W 0,()]):=by
   have e2:wJ (.str t)= .ok W:=by
    unfold wJ bH2
    have l1:(ofString " ").length≠0:=by decide+kernel
    dsimp only
    rw[if_pos ⟨l1,hs⟩,hsp,hW]
   unfold yH
   show((wJ (.str t)).bind _)=_
   rw[e2];rfl
  exact gQ e
 rw[f1]
 have B:=pU (n+78) W
 have hg:xIf (mB (m2 cI (hX 1 (Ph (n+83) .q63)) .("face"))) (bT 1 (Ph (n+83) .q21) (bP)) (bT 1 (Ph (n+83) .q22) (bP)) #[.str t,.row false W 0,()]= .ok (d,((W.length:Nat):Int)):=by
  unfold xIf
  rcases hd with hd|⟨_,hd⟩
  ·obtain⟨r,e⟩:=gQ8 hd
   have h0:=hat
   rw[e]at h0
   rw[show mB (m2 cI (hX 1 (Ph (n+83) .q63)) .("face")) #[.str t,.row false W 0,()]= .ok true from cB (c2 (qU _ (kk:=0) B h0.one rfl) rfl ((dL _ _).trans (by rw[beq_self_eq_true]))),jL,if_pos rfl]
   refine cW (k:=((0:Nat):Int)) rfl rfl ?_
   show((bS8 (Ph (n+82)) (Ph (n+80))) [.row true W ((0:Nat):Int),.no,.no,.no,.no]).bind cF=_
   have:=gQ5 (Ph (n+82)) (Ph (n+80)) hd hat (pU (n+77) W) fun hz he hl h=>dP7 (n+76) W hz he hl h
   rw[Nat.zero_add, <-hwl]at this
   exact this
  ·obtain⟨r,e⟩:=gQ9 hd
   have h0:=hat
   rw[e]at h0
   rw[show mB (m2 cI (hX 1 (Ph (n+83) .q63)) .("face")) #[.str t,.row false W 0,()]= .ok false from cB (c2 (qU _ (kk:=0) B h0.one rfl) rfl ((dL _ _).trans (by rw[kw.2.2.2.2.2.2.2.2]))),jL,if_neg Bool.false_ne_true]
   refine cW (k:=((0:Nat):Int)) rfl rfl ?_
   show((bS9 (Ph (n+82)) (Ph (n+80))) [.row true W ((0:Nat):Int),.no,.no,.no,.no,.no]).bind cF=_
   have:=gQ6 (Ph (n+82)) (Ph (n+80)) hd hat (pU (n+77) W) (fun hz he hl h=>dP7 (n+76) W hz he hl h) (fun hx h=>gQ2 (n+76) W hx h) (fun hx h=>gQ1 (n+34) W bD hx h) (fun hx h=>rblock_ok 13 (n+35) 0 W _ _ bD rfl hx h)
   rw[Nat.zero_add, <-hwl]at this
   exact this
 rw[kX (p:=false) (ws:=W) (k:=0) rfl hg]
 show(bB (bH _ _ bM) _ #[.str t,.row false W ((W.length:Nat):Int),d]).bind bL=_
 rw[dD (cN (cT (bE5 (p:=false) (ws:=W) (k:=((W.length:Nat):Int)) rfl (gM8 (n+80) rfl))))]
 have hq:lN (dC (mT (mA (Ph (n+83) .q16) {@2}))) (dC (mT (mA (Ph (n+83) .q18) {@2}))) #[.str t,.row false W ((W.length:Nat):Int),d]= .ok false:=by
  have q:=cA (cN (cT (a1 (f:=gv 2) (O:= #[.str t,.row false W ((W.length:Nat):Int),d]) rfl (dK3 (n+71) d)))) fun _=>cN (cT (a1 (f:=gv 2) rfl (dK4 n d)))
  refine q.trans ?_
  rcases hor with h|h<;>rw[h]<;>simp
 rw[dD hq]
 exact gT rfl
def pX(k:Int):Nat:=mN.cps.toList.getD (k%26).toNat 0
def nJ(z y:Str)(k:Int):Str:=(z++⟨[pX k].toArray⟩)++y
theorem dQ2:∀i:Fin 26,low (mN.cps.toList.getD i.val 0)=true:=by decide+kernel
theorem gR1(k:Int):low (pX k)=true:=dQ2 ⟨(k%26).toNat,by have:=emod_nonneg k (b:=26) (by decide);have:=emod_lt_of_pos k (b:=26) (by decide);omega⟩
theorem gR2{i:Int}{c:Nat}(h0:0<=i)(h1:i<26)(h:fP mN.cps.toList i=some c):low c=true:=by
 have hl:=cL0
 have hlt:i.toNat<mN.cps.toList.length:=by omega
 have:=rE (xs:=mN.cps.toList) h0 (getElem?_eq_getElem hlt)
 rw[h]at this
 cases this
 have:=dQ2 ⟨i.toNat,by omega⟩
 rw[getD_eq_getElem?_getD,getElem?_eq_getElem hlt]at this
 exact this
def vQ(z:Str):Bool:=z.cps.toList.all low
theorem cO9{a b:Str}(ha:vQ a=true)(hb:vQ b=true):vQ (a++b)=true:=by
 unfold vQ
 rw[show(a++b).cps.toList=a.cps.toList++b.cps.toList from wS a b,List.all_append]
 exact Bool.and_eq_true_iff.mpr ⟨ha,hb⟩
theorem dQ3{c:Nat}(h:low c=true):vQ ⟨[c].toArray⟩=true:=by
 show([c].all low)=true
 simp[h]
theorem dQ4(nb:Int):∀(ds:List D) (z:Str) (s:Slot),vQ z=true->(∀d∈ds,∃k:Int,d= .int k/\0<=k/\k<=1000)->z.length+ds.length<=1000->
 ∃z' s',gG 3 dH5 ds [.val (.int nb),.val (.str mN),.val (.str z),s]= .ok (.nx [.val (.int nb),.val (.str mN),.val (.str z'),s'])/\z'.length=z.length+ds.length/\vQ z'=true
 | [],z,s,hlow,_,_=>⟨z,s,rfl,rfl,hlow⟩
 |d::ds,z,s,hlow,hd,hz=>by
  obtain⟨k,rfl,k0,k1⟩:=hd d mem_cons_self
  have h26:jQ 26=true:=by decide
  have hj0:(0:Int)<7+26*k:=by omega
  have hj1:7+26*k<1073741824:=by omega
  have hm0:0<=nb/(7+26*k)%26:=emod_nonneg _ (by decide)
  have hm1:nb/(7+26*k)%26<26:=emod_lt_of_pos _ (by decide)
  obtain⟨c,hc⟩:=gG2 hm0 hm1
  rw[length_cons]at hz
  have hzl:z.length+(⟨[c].toArray⟩:Str).length<=1000000:=by rw[wQ];omega
  obtain⟨z',s',e1,e2,e3⟩:=dQ4 nb ds (z++⟨[c].toArray⟩) (.val (.int k)) (cO9 hlow (dQ3 (gR2 hm0 hm1 hc))) (fun d hd'=>hd d (mem_cons_of_mem _ hd')) (by rw[zZ,wQ];omega)
  refine⟨z',s',?_,by rw[e2,zZ,wQ,length_cons];omega,e3⟩
  rw[gG]
  simp[bU,m2,gv,kc,bA.bind,tG (.inl h26),bN.eq_1,dR,dI,hj0,hj1,bY,bS,hc,add_str hzl]
  exact e1
theorem gR3(nb:Int):∃z,(∀n,Ph (n+3) .q49 [.int nb]= .ok (.str z))/\(z.length:Int)=nb%7/\vQ z=true:=by
 have h0:0<=nb%7:=emod_nonneg _ (by decide)
 have h1:nb%7<7:=emod_lt_of_pos _ (by decide)
 have hl:=kC 0 (nb%7).toNat
 obtain⟨z,s,e1,e2,e3⟩:=dQ4 nb (upTo 0 (nb%7).toNat) "" .no dX (fun d hd=>by
  obtain⟨k,e,k0,k1⟩:=tH hd
  exact⟨k,e,k0,by omega⟩) (by rw[hl];show 0+_<=1000;omega)
 refine⟨z,fun n=>?_,by rw[e2,hl];show((0+_:Nat):Int)=_;omega,e3⟩
 show((cJ9 (Ph (n+2)) (Ph n)) #[.int nb,(),(),()]).bind bL=_
 unfold cJ9
 have eS:gH 3 (jG (m2 bY @0 .(7))) dH5 #[.int nb,.str "abcdefghijklmnopqrstuvwxyz",.str "",()]= .ok (.nx [.val (.int nb),.val (.str mN),.val (.str z),s]):=
  (qO (pF (jI (f:=gv 0) 7 (by decide) rfl) (rng h0 bD))).trans e1
 show((gH 3 _ _ #[.int nb,.str "abcdefghijklmnopqrstuvwxyz",.str "",()]).bind (nO (bG @2))).bind bL=_
 rw[eS]
 rfl
theorem gR4:∀w∈tB,2<=w.length/\(Ls w).getLast? ≠some 122:=by decide+kernel
theorem gR5(nb:Int):∃z y:Str,(∀(n:Nat) (k:Int),Ph (n+4) .q50 [.int nb,.int k]= .ok (.str (nJ z y k)))/\ ∀k,bR (.str (nJ z y k))=true:=by
 obtain⟨z,e0,lz,hlow⟩:=gR3 nb
 have h7:nb%7<7:=emod_lt_of_pos _ (by decide)
 have hb:∃y:Str,jZ (.str "z") (.int (if decide (0<nb%7)=true then 1 else 0))= .ok (.str y)/\((0<nb%7/\y="z")\/(nb%7<=0/\y="")):=by
  by_cases h:0<nb%7
  ·rw[decide_eq_true h];exact⟨"z",by kernel_rfl,.inl ⟨h,rfl⟩⟩
  ·rw[decide_eq_false h];exact⟨"",by kernel_rfl,.inr ⟨by omega,rfl⟩⟩
 obtain⟨y,ey,hy⟩:=hb
 have zl:(ofString "z").length=1/\(ofString "").length=0:=by decide+kernel
 have yl:y.length<=1:=by rcases hy with⟨_,rfl⟩|⟨_,rfl⟩<;>omega
 refine⟨z,y,fun n k=>?_,fun k=>?_⟩
 ·have hm0:0<=k%26:=emod_nonneg _ (by decide)
  have hm1:k%26<26:=emod_lt_of_pos _ (by decide)
  have hlt:(k%26).toNat<mN.cps.toList.length:=by rw[cL0];omega
  have hc':fP (("abcdefghijklmnopqrstuvwxyz" :Str).cps.toList) (k%26)=some (pX k):=rE (xs:=mN.cps.toList) hm0 (by unfold pX;rw[getElem?_eq_getElem hlt,getD_eq_getElem?_getD,getElem?_eq_getElem hlt];rfl)
  have hl1:z.length+(⟨[pX k].toArray⟩:Str).length<=1000000:=by rw[wQ];omega
  have hl2:(z++(⟨[pX k].toArray⟩:Str)).length+y.length<=1000000:=by rw[zZ,wQ];omega
  show((cK0 (Ph (n+3)) (Ph (n+1))) #[.int nb,.int k,()]).bind bL=_
  unfold cK0 nJ
  simp! [bU,e0,bY,dI,bS,hc',add_str hl1,add_str hl2,dJ,pS]
  simp at ey
  simp[ey,add_str hl2]
 ·have ll:(nJ z y k).length=z.length+1+y.length:=by unfold nJ;rw[zZ,zZ,wQ]
  have low3:vQ (nJ z y k)=true:=cO9 (cO9 hlow (dQ3 (gR1 k))) (by rcases hy with⟨_,rfl⟩|⟨_,rfl⟩<;>decide+kernel)
  have far:tB.any (· ==nJ z y k)=false:=by
   cases q:tB.any (· ==nJ z y k)with
   |false=>rfl
   |true=>
    exfalso
    obtain⟨w,hw,e⟩:=List.any_eq_true.mp q
    have e:=eq_of_beq e
    subst e
    obtain⟨f1,f2⟩:=gR4 _ hw
    rcases hy with⟨h,rfl⟩|⟨h,rfl⟩
    ·apply f2
     unfold nJ
     rw[wS,show Ls ("z" :Str)= [122] by decide+kernel,List.getLast?_append];rfl
    ·omega
  simp only[bR]
  rw[far,show(nJ z y k).cps.toList.all low=true from low3,decide_eq_true]
  ·rfl
  ·constructor
   ·omega
   ·rcases hy with⟨h,rfl⟩|⟨h,rfl⟩<;>omega
theorem gR6:∀i j:Fin 26,mN.cps.toList.getD i.val 0=mN.cps.toList.getD j.val 0->i=j:=by decide+kernel
theorem gR7{y:Str}{j k:Int}(hj:0<=j/\j<26)(hk:0<=k/\k<26)(e:nJ z y j=nJ z y k):j=k:=by
 unfold nJ at e
 have e1:Ls ((z++(⟨[pX j].toArray⟩:Str))++y)=Ls ((z++(⟨[pX k].toArray⟩:Str))++y):=by rw[e]
 rw[wS,wS,wS,wS]at e1
 have e3:=List.append_cancel_left (List.append_cancel_right e1)
 have e4:pX j=pX k:=by
  have: [pX j]= [pX k]:=e3
  simpa using this
 unfold pX at e4
 rw[Int.emod_eq_of_lt hj.1 hj.2,Int.emod_eq_of_lt hk.1 hk.2]at e4
 have e5:j.toNat=k.toNat:=congrArg Fin.val (gR6 ⟨j.toNat,by omega⟩ ⟨k.toNat,by omega⟩ e4)
 omega
theorem mW(h:bR (.str z)=true):z.length<=8:=by
 obtain⟨_,e,_,l⟩:=pK h
 cases e;exact l
theorem dQ5:∀{zs acc:List Str},(acc++zs).Nodup->kW acc zs=true:=fun{zs acc} h=>by
 rw[dJ2]
 intro k hk
 cases q:((acc++zs).take (acc.length+k)).any (· ==zs.getD k "")with
 |false=>rfl
 |true=>
  exfalso
  obtain⟨w,hw,e⟩:=List.any_eq_true.mp q
  have e:=eq_of_beq e
  subst e
  have e2:(acc++zs).drop (acc.length+k)=zs[k]::(acc++zs).drop (acc.length+k+1):=by
   rw[List.drop_eq_getElem_cons (by rw[length_append];omega)]
   congr 1
   rw[List.getElem_append_right bD]
   congr 1;omega
  have e3:zs.getD k "" =zs[k]:=by rw[getD_eq_getElem?_getD,getElem?_eq_getElem hk];rfl
  rw[e3]at hw
  have h':=h
  rw[<-List.take_append_drop (acc.length+k) (acc++zs),List.nodup_append]at h'
  exact h'.2.2 _ hw _ (by rw[e2];exact mem_cons_self) rfl
section
theorem vR(h:jV (.int v)=true):bK (k+1) (.tup [.str "number",.int v])=true:=by
 simp only[bK,beq_self_eq_true,if_true];exact h
theorem bM2(h:bR (.str z)=true):bK (k+1) (.tup [.str "name",.str z])=true:=by
 have:(ofString "name" ==ofString "number")=false:=by decide+kernel
 simp only[bK,this,false_eq_true,beq_self_eq_true,if_true,if_false];exact h
theorem dQ6(h:bR (.str z)=true)(l:xs.length<=4)(a:∀x∈xs,bK k x=true):bK (k+1) (.tup [.str "call",.str z,.tup xs])=true:=by
 have q1:(ofString "call" ==ofString "number")=false:=by decide+kernel
 have q2:(ofString "call" ==ofString "name")=false:=by decide+kernel
 simp only[bK,q1,q2,false_eq_true,if_false,beq_self_eq_true,if_true,and_eq_true,decide_eq_true_eq,all_eq_true]
 exact⟨h,l,a⟩
theorem bM3(h:jC w=true)(hx:bK k x=true)(hy:bK k y=true):bK (k+1) (.tup [.str w,x,y])=true:=by
 have q:(w==ofString "number")=false/\(w==ofString "name")=false/\(w==ofString "call")=false:=by
  rcases bY0 h with rfl|rfl|rfl|rfl|rfl<;>decide+kernel
 simp only[bK,q.1,q.2.1,q.2.2,false_eq_true,if_false,h,if_true,and_eq_true]
 exact⟨hx,hy⟩
end
theorem bE9:∀(k:Nat) (d:D),bK k d=true->bK (k+1) d=true
 |0,_,h=>by cases h
 |k+1,d,h=>by
  have h0:=h
  cases bD7 h with
  |num i _ _=>exact vR (by simpa[bK]using h0)
  |nam z _ _=>
   have:(ofString "name" ==ofString "number")=false:=by decide+kernel
   exact bM2 (by simpa[bK,this]using h0)
  |cal z xs _ _ l a=>
   have q1:(ofString "call" ==ofString "number")=false:=by decide+kernel
   have q2:(ofString "call" ==ofString "name")=false:=by decide+kernel
   simp only[bK,q1,q2,false_eq_true,if_false,beq_self_eq_true,if_true,and_eq_true]at h0
   exact dQ6 h0.1 l fun x hx=>bE9 k x (a x hx)
  |two w x y hw hx hy=>exact bM3 hw (bE9 k x hx) (bE9 k y hy)
theorem bF0{d:D}(h:bK k d=true):∀{l:Nat},k<=l->bK l d=true
 |0,hl=>by rw[show k=0 by omega]at h;exact h
 |l+1,hl=>by
  rcases Nat.lt_or_ge l k with q|q
  ·rw[show l+1=k by omega];exact h
  ·exact bE9 l d (bF0 h q)
section
theorem vS{r:List D}(hl:jH.lookup w=some ss)(h1:r.length=ss.length)(h2:(ss.zip r).all (fun q=>dZ k q.1 q.2)=true):cE (k+1) (.tup (.str w::r))=true:=by
 rw[yO,hl]
 show(decide (r.length=ss.length)&&_)=true
 rw[decide_eq_true h1,Bool.true_and];exact h2
theorem bY4(hw:w="let" \/w="hand")(hz:bR (.str z)=true)(he:bK k e=true):cE (k+1) (.tup [.str w,.str z,e])=true:=
 vS (ss:=["WORD","EXPRESSION"]) (by rcases hw with rfl|rfl<;>decide+kernel) rfl (by simp only[zip_cons_cons,zip_nil_right,all_cons,all_nil,pW,pE,hz,he,Bool.and_self])
theorem bM4(hw:w="tell" \/w="give")(he:bK k e=true):cE (k+1) (.tup [.str w,e])=true:=
 vS (ss:=["EXPRESSION"]) (by rcases hw with rfl|rfl<;>decide+kernel) rfl (by simp only[zip_cons_cons,zip_nil_right,all_cons,all_nil,pE,he,Bool.and_self])
theorem gR8(hz:bR (.str z)=true):cE (k+1) (.tup [.str "get",.str z])=true:=
 vS (ss:=["WORD"]) dX rfl (by simp only[zip_cons_cons,zip_nil_right,all_cons,all_nil,pW,hz,Bool.and_self])
theorem gR9{u:Str}(hz:bR (.str z)=true)(hu:bR (.str u)=true):cE (k+1) (.tup [.str "new",.str z,.str u])=true:=
 vS (ss:=["WORD","DEED"]) dX rfl (by simp only[zip_cons_cons,zip_nil_right,all_cons,all_nil,pW,pD,hz,hu,Bool.and_self])
theorem gS0{u:Str}(hz:bR (.str z)=true)(hu:bR (.str u)=true):cE (k+1) (.tup [.str "await",.str z,.str u])=true:=
 vS (ss:=["WORD","WORD"]) dX rfl (by simp only[zip_cons_cons,zip_nil_right,all_cons,all_nil,pW,hz,hu,Bool.and_self])
theorem gS1(hz:bR (.str z)=true)(l:xs.length<=4)(a:∀x∈xs,bK k x=true):cE (k+1) (.tup [.str "do",.str z,.tup xs])=true:=
 vS (ss:=["DEED","PARTS"]) dX rfl (by
  have:lS k (.tup xs)=true:=by simp only[lS,and_eq_true,decide_eq_true_eq,all_eq_true];exact⟨l,a⟩
  simp only[zip_cons_cons,zip_nil_right,all_cons,all_nil,pD,pPs,hz,this,Bool.and_self])
theorem bF1(h:∀x∈xs,cE k x=true):lT k (.tup xs)=true:=List.all_eq_true.mpr h
theorem cP0(he:bK k e=true)(h:∀x∈xs,cE k x=true):cE (k+1) (.tup [.str "while",e,.tup xs])=true:=
 vS (ss:=["EXPRESSION","BLOCK"]) dX rfl (by simp only[zip_cons_cons,zip_nil_right,all_cons,all_nil,pE,pB,he,bF1 h,Bool.and_self])
theorem dQ7{ys:List D}(he:bK k e=true)(h:∀x∈xs,cE k x=true)(h2:∀x∈ys,cE k x=true):cE (k+1) (.tup [.str "if",e,.tup xs,.tup ys])=true:=
 vS (ss:=["EXPRESSION","BLOCK","BLOCK"]) dX rfl (by simp only[zip_cons_cons,zip_nil_right,all_cons,all_nil,pE,pB,he,bF1 h,bF1 h2,Bool.and_self])
end
theorem gS2(hB:∀y,cE k y=true->cE (k+1) y=true)(hs:fO s=true)(hp:dZ k s x=true):dZ (k+1) s x=true:=by
 rcases cO4 hs with rfl|rfl|rfl|rfl|rfl
 ·rw[pW]at hp ⊢;exact hp
 ·rw[pD]at hp ⊢;exact hp
 ·rw[pE]at hp ⊢;exact bE9 k x hp
 ·obtain⟨xs,rfl,l,ax⟩:=bX4 hp
  rw[pPs]
  simp only[lS,and_eq_true,decide_eq_true_eq,all_eq_true]
  exact⟨l,fun y hy=>bE9 k y (ax y hy)⟩
 ·obtain⟨xs,rfl,ax⟩:=yU hp
  rw[pB];exact bF1 fun y hy=>hB y (ax y hy)
theorem dQ8:∀(k:Nat) (d:D),cE k d=true->cE (k+1) d=true
 |0,_,h=>by cases h
 |k+1,d,h=>by
  obtain⟨w,r,form,F⟩:=bY2 h
  rw[F.e]at h ⊢
  rw[yO]at h
  cases hl:jH.lookup w with
  |none=>rw[hl]at h;cases h
  |some ss=>
   rw[hl]at h
   have h':(decide (r.length=ss.length)&&(ss.zip r).all fun q=>dZ k q.1 q.2)=true:=h
   rw[and_eq_true,decide_eq_true_eq,all_eq_true]at h'
   refine vS hl h'.1 (List.all_eq_true.mpr fun q hq=>?_)
   have hp:=h'.2 q hq
   have hs:fO q.1=true:=by
    have hm:q.1∈ss:=(List.of_mem_zip (show(q.1,q.2)∈ss.zip r from hq)).1
    obtain⟨form,_,e,_⟩:=dO1 hl
    rw[e]at hm
    exact(List.mem_filter.mp hm).2
   exact gS2 (fun y hy=>dQ8 k y hy) hs hp
theorem vT{d:D}(h:cE k d=true):∀{l:Nat},k<=l->cE l d=true
 |0,hl=>by rw[show k=0 by omega]at h;exact h
 |l+1,hl=>by
  rcases Nat.lt_or_ge l k with q|q
  ·rw[show l+1=k by omega];exact h
  ·exact dQ8 l d (vT h q)
section
variable{l m q:Nat}{a b c:D}
theorem bY5(h:∀x∈xs,gd x=true/\cV x<=m)(hl:xs.length<=40)(hw:wtL xs+2<=V (m+1)):Gd (m+1) (.tup xs):=by
 refine⟨?_,?_,by simp only[wt];omega⟩
 ·simp only[gd,and_eq_true,decide_eq_true_eq]
  exact⟨hl,bK6 fun x hx=>(h x hx).1⟩
 ·have:=bK7 fun x hx=>(h x hx).2
  simp only[cV];omega
theorem gp(h:Gd i a)(hi:i<=m):gd a=true/\cV a<=m:=⟨h.1,le_trans h.2.1 hi⟩
theorem tO(ha:Gd i a)(hb:Gd j b)(hi:i<=m:=by omega)(hj:j<=m:=by omega)(hv:V i+V j+2<=V (m+1):=by decide):Gd (m+1) (.tup [a,b]):=
 bY5 (rH (gp ha hi) (gp hb hj)) (by simp) (by have:=ha.2.2;have:=hb.2.2;simp only[wtL];omega)
theorem rP(ha:Gd i a)(hb:Gd j b)(hc:Gd l c)(hi:i<=m:=by omega)(hj:j<=m:=by omega)(hl:l<=m:=by omega)(hv:V i+V j+V l+2<=V (m+1):=by decide):Gd (m+1) (.tup [a,b,c]):=
 bY5 (pH (gp ha hi) (rH (gp hb hj) (gp hc hl))) (by simp) (by have:=ha.2.2;have:=hb.2.2;have:=hc.2.2;simp only[wtL];omega)
theorem gt4(ha:Gd i a)(hb:Gd j b)(hc:Gd l c)(he:Gd q e)(hi:i<=m:=by omega)(hj:j<=m:=by omega)(hl:l<=m:=by omega)(hq:q<=m:=by omega)(hv:V i+V j+V l+V q+2<=V (m+1):=by decide):Gd (m+1) (.tup [a,b,c,e]):=
 bY5 (pH (gp ha hi) (pH (gp hb hj) (rH (gp hc hl) (gp he hq)))) (by simp) (by have:=ha.2.2;have:=hb.2.2;have:=hc.2.2;have:=he.2.2;simp only[wtL];omega)
end
theorem bY6(x:D):bJ [x]= .ok (.tup [x]):=by
 have hs:=sizeLine_eq
 unfold bJ;rw[if_pos (by show 1<=sizeLine;omega)]
theorem cP1(x y z u:D):bJ [x,y,z,u]= .ok (.tup [x,y,z,u]):=by
 have hs:=sizeLine_eq
 unfold bJ;rw[if_pos (by show 4<=sizeLine;omega)]
def rQ(xs:List D):Prop:=0<xs.length/\xs.length<=1000/\ ∀x∈xs,∃z:Str,x= .str z/\bR (.str z)=true
def tP(xs:List D):Prop:=xs.length<=1000/\ ∀x∈xs,∃(z:Str) (i:Int),x= .tup [.str z,.int i]/\bR (.str z)=true/\0<=i/\i<=4
def zG(xs:List D):Prop:=xs.length<=1000/\ ∀x∈xs,∃z:Str,x= .str z/\bR (.str z)=true
abbrev wX(m:Nat)(d:D):Prop:=gd d=true/\cV d<=2*m+1/\wt d<=EW m/\bK (m+1) d=true
theorem gS4(n:Nat)(nb:Int):∃v:Int,Ph (n+3) .q51 [.int nb]= .ok (.int v)/\ -999999<=v/\v<=999999:=by
 have a0:0<=nb/9%1999999:=emod_nonneg _ (by decide)
 have a1:nb/9%1999999<1999999:=emod_lt_of_pos _ (by decide)
 have b0:0<=nb/9%14:=emod_nonneg _ (by decide)
 have b1:nb/9%14<14:=emod_lt_of_pos _ (by decide)
 by_cases h:(nb%9==4)=true
 ·refine⟨nb/9%1999999-999999,?_,by omega,by omega⟩
  show((bJ7 (Ph (n+2)) (Ph n)) #[.int nb]).bind bL=_
  unfold bJ7
  simp! [bY,dR,mG,dI,rF,h]
 ·have h':(nb%9==4)=false:=by simpa using h
  refine⟨nb/9%14-4,?_,by omega,by omega⟩
  show((bJ7 (Ph (n+2)) (Ph n)) #[.int nb]).bind bL=_
  unfold bJ7
  simp! [bY,dR,mG,dI,rF,h']
theorem gS5(m:Nat)(h0: -999999<=v)(h1:v<=999999):wX m (.tup [.str "number",.int v]):=by
 have e:(ofString "number").length<=20:=by decide+kernel
 have e2:v.natAbs<=1000000000000:=by omega
 exact⟨by simp[gd,gdL,e,e2],by simp[cV,depL],gH2 v m,vR (by simp only[jV,decide_eq_true_eq];omega)⟩
section
variable(C C':CT)
theorem gS6(m:Nat)(M nb:Int)(ns es:List D)(hM:M=(m:Int))(hn:rQ ns)(he:tP es)(h14:∀nb,∃v:Int,C .q51 [.int nb]= .ok (.int v)/\ -999999<=v/\v<=999999)(h11:∀(nb k:Int),jQ k=true->∃v:Int,C .q48 [.int nb,.int k]= .ok (.int v))
 (h15:∀(m':Nat),m=m'+1->∀nb:Int,∃d,C .q52 [.int nb,.lst ns,.lst es,.int (m':Int)]= .ok d/\wX m' d):jD ((bU2 C C') #[.int nb,.lst ns,.lst es,.int M,(),(),(),(),(),()]) (wX m):=by
 have hs:=sizeLine_eq
 unfold bU2
 refine gK (P:=fun d=>d= .int (nb%9)) ⟨_,jI 9 (by decide) rfl,rfl⟩ fun d hd=>?_
 subst hd
 show jD (bB (bH _ _ bM) _ #[.int nb,.lst ns,.lst es,.int M,.int (nb%9),(),(),(),(),()]) _
 generalize hρ:(#[.int nb,.lst ns,.lst es,.int M,.int (nb%9),(),(),(),(),()]:cU)=O
 have r0:gv 0 O= .ok (.int nb):=by rw[<-hρ];rfl
 have r1:gv 1 O= .ok (.lst ns):=by rw[<-hρ];rfl
 have r2:gv 2 O= .ok (.lst es):=by rw[<-hρ];rfl
 have r3:gv 3 O= .ok (.int M):=by rw[<-hρ];rfl
 have r4:gv 4 O= .ok (.int (nb%9)):=by rw[<-hρ];rfl
 obtain⟨v,hv,v0,v1⟩:=h14 (nb/9)
 refine mR (cO (pG 0 r3) fun _=>ltv 2 r4) (fun _=>mQ ⟨_,a2 rfl (a1 (lE 9 (by decide) r0) hv) (nG _ _),gS5 m v0 v1⟩) fun hc=>?_
 rw[Bool.or_eq_false_iff]at hc
 obtain⟨m',rfl⟩:∃m',m=m'+1:=by
  cases m with
  |zero=>rw[hM]at hc;exact absurd hc.1 (by decide)
  |succ m'=>exact⟨m',rfl⟩
 have hsub:mG (.int M) (.int 1)= .ok (.int (m':Int)):=by
  have e:M-1=(m':Int):=by omega
  show bA.ok (D.int (M-1))=_
  rw[e]
 have rec_:=h15 m' rfl
 obtain⟨x,ex,mx⟩:=yP r1 (lE 9 (by decide) r0) hn.1
 obtain⟨z,rfl,hz⟩:=hn.2.2 x mx
 refine mR (ltv 5 r4) (fun _=>mQ ⟨_,a2 rfl ex (nG _ _),?_⟩) fun _=>?_
 ·have e:(ofString "name").length<=20:=by decide+kernel
  have e2:z.length<=20:=by have:=mW hz;omega
  exact⟨by simp[gd,gdL,e,e2],by simp[cV,depL],gH3 (mW hz) _,bM2 hz⟩
 refine mR (cA (pG 5 r4) fun _=>gtv 0 (bW5 r2)) (fun hc=>?_) fun _=>?_
 ·rw[and_eq_true,decide_eq_true_eq]at hc
  obtain⟨y,ey,my⟩:=yP r2 (lE 9 (by decide) r0) bD
  obtain⟨u,i,rfl,hu,i0,i4⟩:=he.2 y my
  refine bD5 ?_
  have st:∀R:MS,bB (qY 5 6 (m2 bS @2 (m2 bY (m2 dR @0 .(9)) (mA cD {@2})))) R O=R #[.int nb,.lst ns,.lst es,.int M,.int (nb%9),.str u,.int i,(),(),()]:=fun R=>by
   have s2:qY 5 6 (m2 bS @2 (m2 bY (m2 dR @0 .(9)) (mA cD {@2}))) O= .ok (.nx ((O.set 5 (.val (.str u))).set 6 (.val (.int i)))):=by
    unfold qY
    rw[ey];rfl
   unfold bB
   rw[s2, <-hρ];rfl
  unfold jD
  rw[st]
  refine bD5 ?_
  obtain⟨ys,hys,ly,py⟩:=bK8 (g:=mA (C .q52) {(mA (C .q48) {@3,@0}),@1,@2,(m2 mG @4 .(1))}) (rest:= #[.lst ns,.lst es,.int nb,.int M]) (Pd:=wX m') (upTo 0 i.toNat) fun x hx=>by
   obtain⟨k,rfl,k0,k1⟩:=tH hx
   obtain⟨v,ev⟩:=h11 nb k (wP k0 bD)
   obtain⟨d,ed,gdd⟩:=rec_ v
   exact⟨d,a4 (a2 rfl rfl ev) rfl rfl (c2 rfl rfl hsub) ed,gdd⟩
  rw[kC]at ly
  refine gK (P:=fun d=>d= .lst ys) ⟨_,pC (pF rfl (rng i0 bD)) (by rw[kC];omega) hys,rfl⟩ fun d hd=>?_
  subst hd
  refine mQ ⟨_,a3 rfl rfl (a1 rfl rfl) (lV _ _ _),?_,?_,?_,dQ6 hu bD fun y hy=>(py y hy).2.2.2⟩
  ·have e:(ofString "call").length<=20:=by decide+kernel
   have e2:u.length<=20:=by have:=mW hu;omega
   have e3:ys.length<=40:=by omega
   simp[gd,gdL,e,e2,e3,bK6 fun y hy=>(py y hy).1]
  ·have:=bK7 (m:=2*m'+1) fun y hy=>(py y hy).2.1
   simp only[cV,depL];omega
  ·have h1:=rG fun y hy=>(py y hy).2.2.1
   have h2:ys.length*EW m'<=4*EW m':=Nat.mul_le_mul_right _ bD
   have e:(ofString "call").length=4:=by decide+kernel
   have:=mW hu
   simp only[wt,wtL,e,EW];omega
 ·obtain⟨v1,e1⟩:=h11 nb 5 (by decide)
  obtain⟨v2,e2⟩:=h11 nb 6 (by decide)
  obtain⟨d1,q1,g1,p1,w1,x1⟩:=rec_ v1
  obtain⟨d2,q2,g2,p2,w2,x2⟩:=rec_ v2
  obtain⟨c,hc⟩:=gH1 (nb/9)
  have hsg:jC ⟨[c].toArray⟩=true:=by rw[<-gG8];exact decide_eq_true (gH4 hc)
  refine gK (P:=fun d=>d=d1) ⟨_,a4 (a2 r0 rfl e1) r1 r2 (c2 r3 rfl hsub) q1,rfl⟩ fun d hd=>?_
  subst hd
  have w0:gv 0 (O.set 8 (.val d))= .ok (.int nb):=by rw[<-hρ];rfl
  refine gK (P:=fun x=>x=d2) ⟨_,a4 (a2 w0 rfl e2) (by rw[<-hρ];rfl) (by rw[<-hρ];rfl) (c2 (by rw[<-hρ];rfl) rfl hsub) q2,rfl⟩ fun d' hd=>?_
  subst hd
  have hx:bS (.str "+-*<=") (.int (nb/9%5))= .ok (.str ⟨[c].toArray⟩):=by
   simp only[bS]
   rw[show fP (ofString "+-*<=").cps.toList (nb/9%5)=some c from hc]
  refine wR ⟨_,a3 (c2 rfl (jI 5 (by decide) (lE (i:=0) (v:=nb) 9 (by decide) (by rw[<-hρ];rfl))) hx) (by rw[<-hρ];rfl) (by rw[<-hρ];rfl) (lV _ _ _),?_,by simp only[cV,depL];omega,by simp only[wt,wtL,wQ,EW];omega,bM3 hsg x1 x2⟩
  have e:(⟨[c].toArray⟩:Str).length<=20:=by rw[wQ];omega
  simp[gd,gdL,e,g1,g2]
end
theorem dQ9:∀(m n:Nat) (nb:Int) (ns es:List D),rQ ns->tP es->∃d,Ph (n+m+5) .q52 [.int nb,.lst ns,.lst es,.int (m:Int)]= .ok d/\wX m d
 |m,n,nb,ns,es,hn,he=>by
  show ∃d,((bU2 (Ph (n+m+4)) (Ph (n+m+2))) #[.int nb,.lst ns,.lst es,.int (m:Int),(),(),(),(),(),()]).bind bL= .ok d/\wX m d
  refine gS6 _ _ m _ nb ns es rfl hn he (fun nb=>gS4 (n+m+1) nb) (fun nb k hk=>bK5 (n+m+1) nb k hk) fun m' hm' nb'=>?_
  subst hm'
  exact dQ9 m' n nb' ns es hn he
abbrev lH(m:Nat)(d:D):Prop:=Gd (6+2*m) d/\cE (4+m) d=true
theorem gw(h:w.length<=8:=by decide+kernel):Gd 0 (.str w):=bD6 h
section
variable(C C':CT)(ns es ps:List D)
structure Mk6(C:CT)(ns es:List D):Prop where
 dr:∀(nb k:Int),jQ k=true->∃v:Int,C .q48 [.int nb,.int k]= .ok (.int v)
 ex:∀(m:Nat) (nb:Int),m<=2->∃d,C .q52 [.int nb,.lst ns,.lst es,.int (m:Int)]= .ok d/\wX m d
theorem gS7(nb:Int)(hn:rQ ns)(he:tP es)(hp:zG ps)(M:Mk6 C ns es):jD ((bU3 C C') #[.int nb,.lst ns,.lst es,.lst ps,(),(),(),(),(),()]) (lH 0):=by
 have hs:=sizeLine_eq
 unfold bU3
 obtain⟨x,ex,mx⟩:=yP (i:=1) (xs:=ns) (O:= #[.int nb,.lst ns,.lst es,.lst ps,(),(),(),(),(),()]) rfl (lE (i:=0) (v:=nb) 16 (by decide) rfl) hn.1
 obtain⟨z,rfl,hz⟩:=hn.2.2 x mx
 refine gK ⟨.str z,ex,(rfl:D.str z=D.str z)⟩ fun d hd=>?_
 subst hd
 obtain⟨v,hv⟩:=M.dr nb 1 (by decide)
 obtain⟨e,hE,gE⟩:=M.ex 2 v bD
 refine gK (P:=fun d=>e=d) ⟨e,a4 (a2 rfl rfl hv) rfl rfl rfl hE,rfl⟩ fun d hd=>?_
 subst hd
 refine gK (P:=fun d=>d= .int (nb%16)) ⟨_,jI 16 (by decide) rfl,rfl⟩ fun d hd=>?_
 subst hd
 show jD (bB (bH _ _ bM) _ #[.int nb,.lst ns,.lst es,.lst ps,.str z,e,.int (nb%16),(),(),()]) (lH 0)
 generalize hρ:(#[.int nb,.lst ns,.lst es,.lst ps,.str z,e,.int (nb%16),(),(),()]:cU)=O
 have r0:gv 0 O= .ok (.int nb):=by rw[<-hρ];rfl
 have r1:gv 1 O= .ok (.lst ns):=by rw[<-hρ];rfl
 have r2:gv 2 O= .ok (.lst es):=by rw[<-hρ];rfl
 have r3:gv 3 O= .ok (.lst ps):=by rw[<-hρ];rfl
 have r4:gv 4 O= .ok (.str z):=by rw[<-hρ];rfl
 have r5:gv 5 O= .ok e:=by rw[<-hρ];rfl
 have r6:gv 6 O= .ok (.int (nb%16)):=by rw[<-hρ];rfl
 have gz:Gd 0 (.str z):=gw (mW hz)
 have ge:Gd 5 e:=⟨gE.1,gE.2.1,le_trans gE.2.2.1 (by decide)⟩
 have xe:bK 3 e=true:=gE.2.2.2
 refine mR (ltv 4 r6) (fun _=>mQ ⟨_,a3 rfl r4 r5 (lV _ _ _),rP (m:=5) gw gz ge,bY4 (.inl rfl) hz xe⟩) fun _=>?_
 refine mR (ltv 6 r6) (fun _=>mQ ⟨_,a2 rfl r5 (nG _ _),tO (m:=5) gw ge,bM4 (.inl rfl) xe⟩) fun _=>?_
 refine mR (pG 6 r6) (fun _=>mQ ⟨_,a2 rfl r4 (nG _ _),(tO (m:=0) gw gz).mono bD,gR8 hz⟩) fun _=>?_
 refine mR (pG 7 r6) (fun _=>mQ ⟨_,a2 rfl r5 (nG _ _),tO (m:=5) gw ge,bM4 (.inr rfl) xe⟩) fun _=>?_
 refine mR (cA (pG 8 r6) fun _=>gtv 0 (bW5 r3)) (fun hc=>?_) fun _=>?_
 ·rw[and_eq_true,decide_eq_true_eq]at hc
  obtain⟨y,ey,my⟩:=yP r3 (lE 256 (by decide) r0) bD
  obtain⟨u,rfl,hu⟩:=hp.2 y my
  exact mQ ⟨_,a3 rfl r4 ey (lV _ _ _),(rP (m:=1) gw gz (gw (mW hu))).mono bD,gR9 hz hu⟩
 refine mR (pG 9 r6) (fun _=>mQ ⟨_,a3 rfl r4 r5 (lV _ _ _),rP (m:=5) gw gz ge,bY4 (.inr rfl) hz xe⟩) fun _=>?_
 have h0:0<=nb/256%4:=emod_nonneg _ (by decide)
 have h1:nb/256%4<4:=emod_lt_of_pos _ (by decide)
 refine mR (pG 10 r6) (fun _=>mQ ⟨_,a3 rfl r4 (a2 rfl (c2 rfl (jI 4 (by decide) (lE 256 (by decide) r0)) rfl) (nG _ _)) (lV _ _ _),(rP (m:=1) gw gz (tO (m:=0) gw (bW4 (m:=0) bD))).mono bD,bY4 (.inr rfl) hz (vR (by simp only[jV,decide_eq_true_eq];omega))⟩) fun _=>?_
 refine mR (pG 11 r6) (fun _=>?_) fun _=>?_
 ·obtain⟨y,ey,my⟩:=yP r1 (lE 256 (by decide) r0) hn.1
  obtain⟨u,rfl,hu⟩:=hn.2.2 y my
  exact mQ ⟨_,a3 rfl r4 ey (lV _ _ _),(rP (m:=1) gw gz (gw (mW hu))).mono bD,gS0 hz hu⟩
 refine mR (gtv 0 (bW5 r2)) (fun hc=>?_) fun _=>wR ⟨_,a2 rfl r5 (nG _ _),tO (m:=5) gw ge,bM4 (.inl rfl) xe⟩
 have hc':=of_decide_eq_true hc
 obtain⟨y,ey,my⟩:=yP r2 (lE 256 (by decide) r0) bD
 obtain⟨u,i,rfl,hu,i0,i4⟩:=he.2 y my
 refine bD5 ?_
 have st:∀R:MS,bB (qY 7 8 (m2 bS @2 (m2 bY (m2 dR @0 .(256)) (mA cD {@2})))) R O=R #[.int nb,.lst ns,.lst es,.lst ps,.str z,e,.int (nb%16),.str u,.int i,()]:=fun R=>by
  have s2:qY 7 8 (m2 bS @2 (m2 bY (m2 dR @0 .(256)) (mA cD {@2}))) O= .ok (.nx ((O.set 7 (.val (.str u))).set 8 (.val (.int i)))):=by
   unfold qY
   rw[ey];rfl
  unfold bB
  rw[s2, <-hρ];rfl
 unfold jD
 rw[st]
 refine bD5 ?_
 obtain⟨ys,hys,ly,py⟩:=bK8 (g:=mA (C .q52) {(mA (C .q48) {@3,(m2 bN @0 .(2))}),@1,@2,.(1)}) (rest:= #[.lst ns,.lst es,.int nb]) (Pd:=wX 1) (upTo 0 i.toNat) fun x hx=>by
  obtain⟨k,rfl,k0,k1⟩:=tH hx
  obtain⟨v,ev⟩:=M.dr nb (k+2) (wP bD bD)
  obtain⟨d,ed,gdd⟩:=M.ex 1 v bD
  exact⟨d,a4 (a2 rfl (c2 rfl rfl rfl) ev) rfl rfl rfl ed,gdd⟩
 rw[kC]at ly
 refine gK (P:=fun d=>d= .lst ys) ⟨_,pC (pF rfl (rng i0 bD)) (by rw[kC];omega) hys,rfl⟩ fun d hd=>?_
 subst hd
 have gy:Gd 4 (.tup ys):=bY5 (m:=3) (fun y hy=>⟨(py y hy).1,(py y hy).2.1⟩) bD (by
  have h1:=rG fun y hy=>(py y hy).2.2.1
  have h2:ys.length*EW 1<=4*EW 1:=Nat.mul_le_mul_right _ bD
  have e:4*EW 1=344:=rfl
  have e2:V (3+1)=350:=rfl
  omega)
 exact mQ ⟨_,a3 rfl rfl (a1 rfl rfl) (lV _ _ _),rP (m:=5) gw (gw (mW hu)) gy,gS1 hu bD fun y hy=>bF0 (py y hy).2.2.2 bD⟩
def Bk6(m:Nat)(d:D):Prop:=∃xs,d= .tup xs/\xs.length<=4/\ ∀x∈xs,lH m x
theorem gv1(m:Nat):V 0+V 5+V (7+2*m)+2<=V (7+2*m+1):=by rw[bW2,V_B];show 9+365+_+2<=_;omega
theorem gv2(m:Nat):V 0+V 5+V (7+2*m)+V (7+2*m)+2<=V (7+2*m+1):=by rw[bW2,V_B];show 9+365+_+_+2<=_;omega
theorem gv3(m:Nat):V 0+V 2+V (7+2*m)+2<=V (7+2*m+1):=by rw[bW2,V_B];show 9+52+_+2<=_;omega
theorem cP3:jC "<" =true/\jC "+" =true:=by decide+kernel
theorem gT1(m:Nat)(M nb:Int)(hM:M=(m:Int))(hn:rQ ns)(he:tP es)(hp:zG ps)(K:Mk6 C ns es)(hsh:∀nb:Int,∃d,C .q53 [.int nb,.lst ns,.lst es,.lst ps]= .ok d/\lH 0 d)
 (hbl:∀m':Nat,m=m'+1->∀nb sz:Int,0<=sz->sz<=4->∃d,C .q55 [.int nb,.int sz,.lst ns,.lst es,.lst ps,.int (m':Int)]= .ok d/\Bk6 m' d):
 jD ((bU4 C C') #[.int nb,.lst ns,.lst es,.lst ps,.int M,(),(),(),()]) (lH m):=by
 have hs:=sizeLine_eq
 unfold bU4
 refine gK (P:=fun d=>d= .int (nb%12)) ⟨_,jI 12 (by decide) rfl,rfl⟩ fun d hd=>?_
 subst hd
 refine mR (cO (pG (v:=M) 0 rfl) fun _=>ltv (v:=nb%12) 9 rfl) (fun _=>mQ ?_) fun hc=>?_
 ·obtain⟨d,ed,g1,g2⟩:=hsh (nb/12)
  exact⟨d,a4 (lE (i:=0) (v:=nb) 12 (by decide) rfl) rfl rfl rfl ed,g1.mono bD,vT g2 bD⟩
 rw[Bool.or_eq_false_iff]at hc
 obtain⟨m',rfl⟩:∃m',m=m'+1:=by
  cases m with
  |zero=>rw[hM]at hc;exact absurd hc.1 (by decide)
  |succ m'=>exact⟨m',rfl⟩
 have hsub:mG (.int M) (.int 1)= .ok (.int (m':Int)):=by
  have e:M-1=(m':Int):=by omega
  show bA.ok (D.int (M-1))=_
  rw[e]
 obtain⟨v1,e1⟩:=K.dr nb 1 (by decide)
 obtain⟨v2,e2⟩:=K.dr nb 2 (by decide)
 obtain⟨v3,e3⟩:=K.dr nb 3 (by decide)
 obtain⟨e,hE,gE⟩:=K.ex 2 v1 bD
 refine gK (P:=fun d=>e=d) ⟨e,a4 (a2 rfl rfl e1) rfl rfl rfl hE,rfl⟩ fun d hd=>?_
 subst hd
 have a0:0<=nb/12%4:=emod_nonneg _ (by decide)
 have a1':nb/12%4<4:=emod_lt_of_pos _ (by decide)
 obtain⟨b1,hb1,xs,rfl,lx,gx⟩:=hbl m' rfl v2 (nb/12%4) a0 bD
 have a6:∀{mm:List D->bA D} {f1 f2 f3 f4 f5 f6:ME} {x1 x2 x3 x4 x5 x6 zz:D} {O:cU},f1 O= .ok x1->f2 O= .ok x2->f3 O= .ok x3->f4 O= .ok x4->f5 O= .ok x5->f6 O= .ok x6->mm [x1,x2,x3,x4,x5,x6]= .ok zz->mA mm (aC f1 (aC f2 (aC f3 (aC f4 (aC f5 (aC f6 (bP))))))) O= .ok zz:=fun h1 h2 h3 h4 h5 h6 h7=>by simp[mA,aC,bP,h1,h2,h3,h4,h5,h6,h7,bA.bind]
 refine gK (P:=fun d=>d= .tup xs) ⟨_,a6 (a2 rfl rfl e2) (jI 4 (by decide) (lE (i:=0) (v:=nb) 12 (by decide) rfl)) rfl rfl rfl (c2 rfl rfl hsub) hb1,rfl⟩ fun d hd=>?_
 subst hd
 show jD (bB (bH _ _ bM) _ #[.int nb,.lst ns,.lst es,.lst ps,.int M,.int (nb%12),e,.tup xs,()]) _
 generalize hρ:(#[.int nb,.lst ns,.lst es,.lst ps,.int M,.int (nb%12),e,.tup xs,()]:cU)=O
 have r0:gv 0 O= .ok (.int nb):=by rw[<-hρ];rfl
 have r1:gv 1 O= .ok (.lst ns):=by rw[<-hρ];rfl
 have r2:gv 2 O= .ok (.lst es):=by rw[<-hρ];rfl
 have r3:gv 3 O= .ok (.lst ps):=by rw[<-hρ];rfl
 have r4:gv 4 O= .ok (.int M):=by rw[<-hρ];rfl
 have r5:gv 5 O= .ok (.int (nb%12)):=by rw[<-hρ];rfl
 have r6:gv 6 O= .ok e:=by rw[<-hρ];rfl
 have r7:gv 7 O= .ok (.tup xs):=by rw[<-hρ];rfl
 have ge:Gd 5 e:=⟨gE.1,gE.2.1,le_trans gE.2.2.1 (by decide)⟩
 have xe:bK (4+m') e=true:=bF0 gE.2.2.2 bD
 have gX:Gd (7+2*m') (.tup xs):=blk bD fun x hx=>(gx x hx).1
 have up:∀{d:D},Gd (7+2*m'+1) d->Gd (6+2*(m'+1)) d:=fun h=>h.mono bD
 have su:∀{d:D},cE (4+m'+1) d=true->cE (4+(m'+1)) d=true:=fun h=>vT h bD
 refine mR (pG 9 r5) (fun _=>mQ ⟨_,a3 rfl r6 r7 (lV _ _ _),up (rP (m:=7+2*m') gw ge gX bD bD bD (gv1 m')),su (cP0 xe fun x hx=>(gx x hx).2)⟩) fun _=>?_
 refine mR (pG 10 r5) (fun _=>?_) fun _=>?_
 ·refine bD5 ?_
  obtain⟨x,ex,mx⟩:=yP r1 (lE 48 (by decide) r0) hn.1
  obtain⟨z,rfl,hz⟩:=hn.2.2 x mx
  refine gK (P:=fun d=>d= .str z) ⟨_,ex,rfl⟩ fun d hd=>?_
  subst hd
  refine bD5 ?_
  have w8:gv 8 (O.set 8 (.val (.str z)))= .ok (.str z):=by rw[<-hρ];rfl
  have w0:gv 0 (O.set 8 (.val (.str z)))= .ok (.int nb):=by rw[<-hρ];rfl
  have gz:Gd 0 (.str z):=gw (mW hz)
  have a0:0<=nb/960%9:=emod_nonneg _ (by decide)
  have a1':nb/960%9<9:=emod_lt_of_pos _ (by decide)
  obtain⟨q,hq⟩:∃q:D,q= .tup [.str "<",.tup [.str "name",.str z],.tup [.str "number",.int (nb/960%9)]]:=⟨_,rfl⟩
  have gq:Gd 2 q:=hq▸rP (m:=1) gw (tO (m:=0) gw gz) (tO (m:=0) gw (bW4 (m:=0) bD))
  have xq:bK (4+m') q=true:=bF0 (k:=2) (hq▸bM3 cP3.1 (bM2 hz) (vR (by simp only[jV,decide_eq_true_eq];omega))) bD
  refine gK (P:=fun d=>d=q) ⟨_,a3 rfl (a2 rfl w8 (nG _ _)) (a2 rfl (jI 9 (by decide) (lE 960 (by decide) w0)) (nG _ _)) (lV _ _ _),hq.symm⟩ fun d hd=>?_
  subst hd
  have u6:gv 6 ((O.set 8 (.val (.str z))).set 6 (.val d))= .ok d:=by rw[<-hρ];rfl
  have u7:gv 7 ((O.set 8 (.val (.str z))).set 6 (.val d))= .ok (.tup xs):=by rw[<-hρ];rfl
  have u8:gv 8 ((O.set 8 (.val (.str z))).set 6 (.val d))= .ok (.str z):=by rw[<-hρ];rfl
  obtain⟨l,hl⟩:∃l:D,l= .tup [.str "let",.str z,.tup [.str "+",.tup [.str "name",.str z],.tup [.str "number",.int 1]]]:=⟨_,rfl⟩
  have gl:Gd 3 l:=hl▸rP (m:=2) gw gz (rP (m:=1) gw (tO (m:=0) gw gz) (tO (m:=0) gw (bW4 (m:=0) (by decide))))
  have xl:cE (4+m') l=true:=vT (k:=3) (hl▸bY4 (.inl rfl) hz (bM3 cP3.2 (bM2 hz) (vR (by decide)))) bD
  have el:mA bJ {.("let"),@8,(mA bJ {.("+"),(mA bJ {.("name"),@8}),(mA bJ {.("number"),.(1)})})} ((O.set 8 (.val (.str z))).set 6 (.val d))= .ok l:=hl▸a3 rfl u8 (a3 rfl (a2 rfl u8 (nG _ _)) (a2 rfl rfl (nG _ _)) (lV _ _ _)) (lV _ _ _)
  have eadd:bN (.tup xs) (.tup [l])= .ok (.tup (xs++ [l])):=cM3 (by simp only[length_cons,length_nil];omega)
  have all:∀y∈xs++ [l],lH m' y:=fun y hy=>by
   rcases List.mem_append.mp hy with hy|hy
   ·exact gx y hy
   ·rw[List.mem_singleton.mp hy];exact⟨gl.mono bD,xl⟩
  have gpl:Gd (7+2*m') (.tup (xs++ [l])):=blk (by simp only[length_append,length_cons,length_nil];omega) fun y hy=>(all y hy).1
  exact mQ ⟨_,a3 rfl u6 (c2 u7 (a1 el (bY6 _)) eadd) (lV _ _ _),up (rP (m:=7+2*m') gw gq gpl bD bD bD (gv3 m')),su (cP0 xq fun x hx=>(all x hx).2)⟩
 ·have a0:0<=nb/48%3:=emod_nonneg _ (by decide)
  have a1':nb/48%3<3:=emod_lt_of_pos _ (by decide)
  obtain⟨b2,hb2,ys,rfl,ly,gy⟩:=hbl m' rfl v3 (nb/48%3) a0 bD
  have gY:Gd (7+2*m') (.tup ys):=blk bD fun x hx=>(gy x hx).1
  exact wR ⟨_,a4 rfl r6 r7 (a6 (a2 r0 rfl e3) (jI 3 (by decide) (lE 48 (by decide) r0)) r1 r2 r3 (c2 r4 rfl hsub) hb2) (cP1 _ _ _ _),up (gt4 (m:=7+2*m') gw ge gX gY bD bD bD bD (gv2 m')),su (dQ7 xe (fun x hx=>(gx x hx).2) fun x hx=>(gy x hx).2)⟩
theorem gT2(m:Nat)(M nb sz:Int)(hM:M=(m:Int))(h0:0<=sz)(h4:sz<=4)(K:∀(nb k:Int),jQ k=true->∃v:Int,C .q48 [.int nb,.int k]= .ok (.int v))
 (hst:∀nb:Int,∃d,C .q54 [.int nb,.lst ns,.lst es,.lst ps,.int M]= .ok d/\lH m d):jD ((bU5 C C') #[.int nb,.int sz,.lst ns,.lst es,.lst ps,.int M,()]) (Bk6 m):=by
 have hs:=sizeLine_eq
 unfold bU5
 obtain⟨ys,hys,ly,py⟩:=bK8 (g:=mA (C .q54) {(mA (C .q48) {@5,@0}),@1,@2,@3,@4}) (rest:= #[.lst ns,.lst es,.lst ps,.int M,.int nb]) (Pd:=lH m) (upTo 0 sz.toNat) fun x hx=>by
  obtain⟨k,rfl,k0,k1⟩:=tH hx
  obtain⟨v,ev⟩:=K nb k (wP k0 bD)
  obtain⟨d,ed,gdd⟩:=hst v
  exact⟨d,a5 (a2 rfl rfl ev) rfl rfl rfl rfl ed,gdd⟩
 rw[kC]at ly
 refine gK (P:=fun d=>d= .lst ys) ⟨_,pC (pF rfl (rng h0 bD)) (by rw[kC];omega) hys,rfl⟩ fun d hd=>?_
 subst hd
 exact wR ⟨.tup ys,a1 rfl rfl,ys,rfl,by omega,py⟩
end
theorem mk6(n:Nat)(hn:rQ ns)(he:tP es):Mk6 (Ph (n+7)) ns es:=
 ⟨fun nb k hk=>bK5 (n+4) nb k hk,fun m nb hm=>by
  have e:n+7=(n+2-m)+m+5:=by omega
  rw[e]
  exact dQ9 m _ nb ns es hn he⟩
theorem gT3(n:Nat)(nb:Int){ps:List D}(hn:rQ ns)(he:tP es)(hp:zG ps):∃d,Ph (n+8) .q53 [.int nb,.lst ns,.lst es,.lst ps]= .ok d/\lH 0 d:=by
 show ∃d,((bU3 (Ph (n+7)) (Ph (n+5))) #[.int nb,.lst ns,.lst es,.lst ps,(),(),(),(),(),()]).bind bL= .ok d/\_
 exact gS7 _ _ ns es ps nb hn he hp (mk6 n hn he)
mutual
theorem dR1(m n:Nat)(nb:Int){ps:List D}(hn:rQ ns)(he:tP es)(hp:zG ps):∃d,Ph (n+2*m+12) .q54 [.int nb,.lst ns,.lst es,.lst ps,.int (m:Int)]= .ok d/\lH m d:=by
 show ∃d,((bU4 (Ph (n+2*m+11)) (Ph (n+2*m+9))) #[.int nb,.lst ns,.lst es,.lst ps,.int (m:Int),(),(),(),()]).bind bL= .ok d/\_
 refine gT1 _ _ ns es ps m _ nb rfl hn he hp (mk6 (n+2*m+4) hn he) (fun nb=>gT3 (n+2*m+3) nb hn he hp) fun m' hm nb sz h0 h4=>?_
 subst hm
 exact block6 m' n nb sz h0 h4 hn he hp
theorem block6(m n:Nat)(nb sz:Int)(h0:0<=sz)(h4:sz<=4){ps:List D}(hn:rQ ns)(he:tP es)(hp:zG ps):∃d,Ph (n+2*m+13) .q55 [.int nb,.int sz,.lst ns,.lst es,.lst ps,.int (m:Int)]= .ok d/\Bk6 m d:=by
 show ∃d,((bU5 (Ph (n+2*m+12)) (Ph (n+2*m+10))) #[.int nb,.int sz,.lst ns,.lst es,.lst ps,.int (m:Int),()]).bind bL= .ok d/\_
 exact gT2 _ _ ns es ps m _ nb sz rfl h0 h4 (fun nb k hk=>bK5 (n+2*m+9) nb k hk) fun nb=>dR1 m n nb hn he hp
end
theorem bF2{g:ME}{f:Int->D}:∀(ks:List Int),(∀k∈ks,g (.val (.int k)::rest)= .ok (f k))->dG (fun _=>.ok true) g rest (ks.map .int)= .ok (ks.map f)
 | [],_=>rfl
 |k::ks,h=>by
  rw[map_cons,dG]
  show bA.bind (g (.val (.int k)::rest)) _=_
  rw[h k mem_cons_self]
  show bA.bind (dG _ g rest (ks.map .int)) _=_
  rw[bF2 ks fun j hj=>h j (mem_cons_of_mem _ hj)];rfl
noncomputable def pY(n:Nat):List Int:=(List.range n).map fun(k:Nat)=>(k:Int)
theorem bY8(n:Nat):upTo 0 n=(pY n).map .int:=by
 unfold R.upTo pY
 rw[map_map]
 exact List.map_congr_left fun k _=>by show D.int (0+(k:Int))=D.int (k:Int);rw[Int.zero_add]
theorem bF3{k:Int}(h:k∈pY n):0<=k/\k<n:=by
 obtain⟨j,hj,rfl⟩:=List.mem_map.mp h
 have:=List.mem_range.mp hj
 omega
theorem bM5{f:α->β}:∀{ks:List α},ks.Nodup->(∀a∈ks,∀b∈ks,f a=f b->a=b)->(ks.map f).Nodup
 | [],_,_=>List.nodup_nil
 |k::ks,h,hi=>by
  rw[List.nodup_cons]at h
  rw[map_cons,List.nodup_cons]
  refine⟨fun hm=>?_,bM5 h.2 fun a ha b hb=>hi a (mem_cons_of_mem _ ha) b (mem_cons_of_mem _ hb)⟩
  obtain⟨j,hj,e⟩:=List.mem_map.mp hm
  exact h.1 (hi j (mem_cons_of_mem _ hj) k mem_cons_self e▸hj)
theorem cP4(n:Nat):(pY n).Nodup:=bM5 List.nodup_range fun a _ b _ e=>by omega
theorem bY9(n:Nat):(pY n).length=n:=by unfold pY;rw[length_map,List.length_range]
theorem gT4{y:Str}{ks:List Int}(h:ks.Nodup)(hr:∀k∈ks,0<=k/\k<26):(ks.map (nJ z y)).Nodup:=bM5 h fun a ha b hb e=>gR7 (hr a ha) (hr b hb) e
theorem dR2{ps os:List Int}(hp:ps.Nodup)(ho:os.Nodup)(h:∀k∈ps,k∉os):(ps++os).Nodup:=List.nodup_append.mpr ⟨hp,ho,fun a ha b hb e=>h a ha (e▸hb)⟩
theorem gT5(f:α->β)(xs:List α)(lo hi:Option Int):jN (xs.map f) lo hi=(jN xs lo hi).map f:=by
 unfold jN
 rw[length_map, <-List.map_drop, <-List.map_take]
theorem gT6(xs:List α)(lo hi:Option Int):(jN xs lo hi).Sublist xs:=(List.take_sublist _ _).trans (List.drop_sublist _ _)
abbrev zH(C:CT)(N:Int->Int->Str):Prop:=(∀nb k:Int,C .q50 [.int nb,.int k]= .ok (.str (N nb k)))/\(∀nb k,bR (.str (N nb k))=true)/\ ∀nb (ks:List Int),ks.Nodup->(∀k∈ks,0<=k/\k<26)->(ks.map (N nb)).Nodup
theorem gT7:∃N,∀n,zH (Ph (n+4)) N:=by
 obtain⟨F,hF⟩:=axiomOfChoice gR5
 obtain⟨G,hG⟩:=axiomOfChoice hF
 exact⟨fun nb k=>nJ (F nb) (G nb) k,fun n=>⟨fun nb k=>(hG nb).1 n k,fun nb k=>(hG nb).2 k,fun nb ks h hr=>gT4 h hr⟩⟩
def zI(x:D):Prop:=∃(z:Str) (i:Int),x= .tup [.str z,.int i]/\bR (.str z)=true/\0<=i/\i<=4
theorem nm8(h:jX zs):∀y∈zs.map D.str,∃z:Str,y= .str z/\z.length<=8:=fun y hy=>by
 obtain⟨z,hz,rfl⟩:=List.mem_map.mp hy
 exact⟨z,rfl,mW (h z hz)⟩
theorem nmS(h:jX zs):∀y∈zs.map D.str,∃z:Str,y= .str z/\bR (.str z)=true:=fun y hy=>by
 obtain⟨z,hz,rfl⟩:=List.mem_map.mp hy
 exact⟨z,rfl,h z hz⟩
theorem nmP{m:Nat}(h:jX zs)(l:zs.length<=m):fS m (.tup (zs.map .str))=true:=by
 simp only[fS,and_eq_true,decide_eq_true_eq,length_map,all_map,all_eq_true,comp]
 exact⟨l,h⟩
section
variable(C C':CT)
theorem dR3(nb st:Int)(hN:zH C N)(hdr:∀(nb k:Int),jQ k=true->∃v:Int,C .q48 [.int nb,.int k]= .ok (.int v)):∀(ds xs:List D) (s:Slot),(∀d∈ds,∃k:Int,d= .int k/\0<=k/\k<=1000)->(∀x∈xs,zI x)->xs.length+ds.length<=1000->
 ∃ys s',gG 3 (qK 2 (mA bJ {(mA (C .q50) {@1,(m2 bN .(10) @3)}),(m2 bY (mA (C .q48) {@0,@3}) .(5))})) ds [.val (.int nb),.val (.int st),.own xs,s]= .ok (.nx [.val (.int nb),.val (.int st),.own ys,s'])/\(∀y∈ys,zI y)/\ys.length=xs.length+ds.length
 | [],xs,s,_,hx,_=>⟨xs,s,rfl,hx,by simp⟩
 |d::ds,xs,s,h,hx,hl=>by
  obtain⟨k,rfl,k0,k1⟩:=h d mem_cons_self
  have hs:=sizeLine_eq
  obtain⟨v,ev⟩:=hdr nb k (wP k0 bD)
  have b0:0<=v%5:=emod_nonneg _ (by decide)
  have b1:v%5<5:=emod_lt_of_pos _ (by decide)
  rw[length_cons]at hl
  obtain⟨ys,s',e,py,ly⟩:=dR3 nb st hN hdr ds (xs++ [.tup [.str (N st (10+k)),.int (v%5)]]) (.val (.int k)) (fun d hd=>h d (mem_cons_of_mem _ hd)) (fun x hx'=>by
   rcases List.mem_append.mp hx' with hx'|hx'
   ·exact hx x hx'
   ·rw[List.mem_singleton.mp hx'];exact⟨_,v%5,rfl,hN.2.1 st _,b0,by omega⟩) (by simp only[length_append,length_cons,length_nil];omega)
  refine⟨ys,s',?_,py,by rw[ly];simp only[length_append,length_cons,length_nil];omega⟩
  rw[gG]
  have step:qK 2 (mA bJ {(mA (C .q50) {@1,(m2 bN .(10) @3)}),(m2 bY (mA (C .q48) {@0,@3}) .(5))}) ([.val (.int nb),.val (.int st),.own xs,s].set 3 (.val (.int k)))= .ok (.nx [.val (.int nb),.val (.int st),.own (xs++ [.tup [.str (N st (10+k)),.int (v%5)]]),.val (.int k)]):=by
   show bA.bind (mA bJ _ [.val (.int nb),.val (.int st),.own xs,.val (.int k)]) _=_
   rw[a2 (a2 rfl (c2 rfl rfl rfl) (hN.1 st (10+k))) (jI 5 (by decide) (a2 rfl rfl ev)) (nG _ _)]
   show(if xs.length<sizeLine then _ else _)=_
   rw[if_pos bD];rfl
  rw[step]
  exact e
theorem gT8(nb st:Int)(hN:zH C N)(hdr:∀(nb k:Int),jQ k=true->∃v:Int,C .q48 [.int nb,.int k]= .ok (.int v)):
 ∃ys,((bU6 C C') #[.int nb,.int st,(),()]).bind bL= .ok (.lst ys)/\(∀y∈ys,zI y)/\ys.length<=6:=by
 have a0:0<=nb%7:=emod_nonneg _ (by decide)
 have a1':nb%7<7:=emod_lt_of_pos _ (by decide)
 obtain⟨ys,s',e,py,ly⟩:=dR3 C nb st hN hdr (upTo 0 (nb%7).toNat) [] .no (fun d hd=>by
  obtain⟨k,rfl,k0,k1⟩:=tH hd
  exact⟨k,rfl,k0,by omega⟩) (fun x hx=>by cases hx) (by rw[kC];simp;omega)
 rw[kC]at ly
 refine⟨ys,?_,py,by simp at ly;omega⟩
 unfold bU6
 have f1:∀R:MS,bB (hV 2) R #[.int nb,.int st,(),()]=R [.val (.int nb),.val (.int st),.own [],.no]:=fun R=>rfl
 rw[f1,gQ ((qO (pF (jI (f:=gv 0) 7 (by decide) rfl) (rng a0 bD))).trans e),pJ rfl]
 exact gT rfl
theorem cP5:∀es:List D,(∀x∈es,zI x)->∃ps,dG (kG (mB (m2 cI @1 .(0)))) (kG @0) [] es= .ok ps/\(∀y∈ps,∃z:Str,y= .str z/\bR (.str z)=true)/\ps.length<=es.length
 | [],_=>⟨[],rfl,fun y hy=>(by cases hy),le_refl _⟩
 |x::r,h=>by
  obtain⟨z,i,rfl,hz,i0,i4⟩:=h x mem_cons_self
  obtain⟨ps,e,pp,lp⟩:=cP5 r fun y hy=>h y (mem_cons_of_mem _ hy)
  have ht:kG (mB (m2 cI @1 .(0))) #[.tup [.str z,.int i]]= .ok (i==0):=pG (f:=gv 1) (O:= #[.str z,.int i]) 0 rfl
  rw[dG]
  show ∃ps,bA.bind (kG (mB (m2 cI @1 .(0))) #[.tup [.str z,.int i]]) _= .ok ps/\_
  rw[ht]
  cases hi:(i==0)with
  |true=>
   refine⟨.str z::ps,?_,pH ⟨z,rfl,hz⟩ pp,by simp only[length_cons];omega⟩
   show bA.bind (dG _ (kG @0) [] r) _=_
   rw[e];rfl
  |false=>exact⟨ps,e,pp,by simp only[length_cons];omega⟩
def vU(d:D):Prop:=mP d=true/\(gd d=true/\cV d<=14)/\wt d<=173000
theorem dg6{ps os:List Str}(hz:bR (.str z)=true)(hp:jX ps)(lp:ps.length<=4)(ho:jX os)(lo:os.length<=6)(hn:(ps++os).Nodup)(lb:bs.length<=4)(hb:∀y∈bs,lH 2 y):vU (.tup [.str z,.tup (ps.map .str),.tup (os.map .str),.tup bs]):=by
 refine⟨?_,gJ9 ⟨z,ps.map .str,os.map .str,bs,rfl,mW hz,nm8 hp,by rw[length_map];exact lp,nm8 ho,by rw[length_map];exact lo,lb,fun y hy=>(hb y hy).1⟩⟩
 simp only[mP,and_eq_true]
 refine⟨hz,nmP hp lp,nmP ho lo,?_,bF1 fun y hy=>vT (hb y hy).2 bD⟩
 rw[dJ4]
 exact dQ5 (acc:=[]) hn
theorem gU0(nb st i:Int)(z0:Str)(ws:List Str)(es:List D)(hz0:bR (.str z0)=true)(i0:0<=i)(i4:i<=4)(hw:jX ws)(lw:0<ws.length)(lw6:ws.length<=6)(he:∀y∈es,zI y)(le:es.length<=7)(hN:zH C N)
 (hbl:∀(nb sz:Int) (ns es ps:List D),0<=sz->sz<=4->rQ ns->tP es->zG ps->∃d,C .q55 [.int nb,.int sz,.lst ns,.lst es,.lst ps,.int 2]= .ok d/\Bk6 2 d):
 jD ((bU7 C C') #[.int nb,.tup [.str z0,.int i],.int st,.lst (ws.map .str),.lst es,(),(),(),(),()]) vU:=by
 have hs:=sizeLine_eq
 unfold bU7
 obtain⟨pi,hpi⟩:∃pi:List Int,pi=(pY i.toNat).map (16+ ·):=⟨_,rfl⟩
 have pil:pi.length=i.toNat:=by rw[hpi,length_map,bY9]
 have pir:∀k∈pi,16<=k/\k<20:=fun k hk=>by
  rw[hpi]at hk
  obtain⟨j,hj,rfl⟩:=List.mem_map.mp hk
  have:=bF3 hj
  omega
 have pin:pi.Nodup:=hpi▸bM5 (cP4 _) fun a _ b _ e=>by omega
 have hps:dG (fun _=>.ok true) (mA (C .q50) {@1,(m2 bN .(16) @0)}) #[.int st] (upTo 0 i.toNat)= .ok ((pi.map (N st)).map .str):=by
  rw[bY8,bF2 (f:=fun k=>.str (N st (16+k))) _ fun k _=>a2 rfl (c2 rfl rfl rfl) (hN.1 st (16+k)),hpi,map_map,map_map];rfl
 have hi1:m2 bS @1 .(1) #[.int nb,.tup [.str z0,.int i],.int st,.lst (ws.map .str),.lst es,(),(),(),(),()]= .ok (.int i):=c2 rfl rfl (gU 1 _ rfl)
 refine gK (P:=fun d=>d= .lst ((pi.map (N st)).map .str)) ⟨_,pC (pF hi1 (rng i0 bD)) (by rw[kC];omega) hps,rfl⟩ fun d hd=>?_
 subst hd
 show jD (bB (bU 6 _) _ #[.int nb,.tup [.str z0,.int i],.int st,.lst (ws.map .str),.lst es,.lst ((pi.map (N st)).map .str),(),(),(),()]) vU
 have e1:∀O:cU,mA bJ {.(0),.(1),.(2),.(3),.(4),.(5)} O= .ok yQ:=fun O=>by kernel_rfl
 have e2:∀O:cU,mA bJ {.(20),.(21),.(22),.(23),.(24),.(6)} O= .ok yR:=fun O=>by kernel_rfl
 have e3:dM [yQ,yR]= .ok (.lst [yQ,yR]):=by unfold dM;rw[if_pos (by show 2<=sizeLine;omega)]
 generalize hρ:(#[.int nb,.tup [.str z0,.int i],.int st,.lst (ws.map .str),.lst es,.lst ((pi.map (N st)).map .str),(),(),(),()]:cU)=O
 have r0:gv 0 O= .ok (.int nb):=by rw[<-hρ];rfl
 have hso:∃ks:List Int,Ex (m2 bS (mA dM {(mA bJ {.(0),.(1),.(2),.(3),.(4),.(5)}),(mA bJ {.(20),.(21),.(22),.(23),.(24),.(6)})}) (mA pS {(m2 dJ (m2 bY (m2 dR @0 .(32)) .(3)) .(0))}) O) (fun d=>d= .tup (ks.map .int))/\(ks= [0,1,2,3,4,5]\/ks= [20,21,22,23,24,6]):=by
  have hl:=a2 (e1 O) (e2 O) e3
  have hg:m2 dJ (m2 bY (m2 dR @0 .(32)) .(3)) .(0) O= .ok (.bl (decide (0<nb/32%3))):=c2 (jI 3 (by decide) (lE 32 (by decide) r0)) rfl rfl
  cases hb:decide (0<nb/32%3)with
  |false=>
   rw[hb]at hg
   exact⟨[0,1,2,3,4,5],⟨yQ,c2 hl (a1 hg (show pS [.bl false]= .ok (.int 0) by kernel_rfl)) (by simp only[bS,show fP [yQ,yR] 0=some yQ from rE bD rfl]),rfl⟩,.inl rfl⟩
  |true=>
   rw[hb]at hg
   exact⟨[20,21,22,23,24,6],⟨yR,c2 hl (a1 hg (show pS [.bl true]= .ok (.int 1) by kernel_rfl)) (by simp only[bS,show fP [yQ,yR] 1=some yR from rE bD rfl]),rfl⟩,.inr rfl⟩
 obtain⟨ks,hks,hk2⟩:=hso
 have ksn:ks.Nodup:=by rcases hk2 with rfl|rfl<;>decide
 have ksr:∀k∈ks,(0<=k/\k<26)/\(k<16\/20<=k):=by rcases hk2 with rfl|rfl<;>decide
 have ksl:ks.length=6:=by rcases hk2 with rfl|rfl<;>rfl
 refine gK hks fun d hd=>?_
 subst hd
 generalize hρ2:O.set 6 (.val (.tup (ks.map .int)))=ρ2
 have w0:gv 0 ρ2= .ok (.int nb):=by rw[<-hρ2, <-hρ];rfl
 have w6:gv 6 ρ2= .ok (.tup (ks.map .int)):=by rw[<-hρ2, <-hρ];rfl
 have hcut:∃e:Int,pP @6 (pN) (pO (m2 bN (m2 bY @0 .(4)) (m2 jZ .(3) (mA pS {(m2 cI (m2 bY (m2 dR @0 .(96)) .(5)) .(1))})))) ρ2= .ok (.tup (jN (ks.map D.int) none (some e))):=by
  have h2:m2 cI (m2 bY (m2 dR @0 .(96)) .(5)) .(1) ρ2= .ok (.bl (nb/96%5==1)):=c2 (jI 5 (by decide) (lE 96 (by decide) w0)) rfl (rF _ _)
  obtain⟨j,hj⟩:∃j:Int,pS [.bl (nb/96%5==1)]= .ok (.int j):=by
   cases(nb/96%5==1)
   ·exact⟨0,by kernel_rfl⟩
   ·exact⟨1,by kernel_rfl⟩
  exact⟨nb%4+3*j,dJ6 w6 (c2 (jI 4 (by decide) w0) (c2 rfl (a1 h2 hj) (tG (.inl (by decide)))) rfl)⟩
 obtain⟨ee,hcut⟩:=hcut
 obtain⟨oi,hoi⟩:∃oi:List Int,oi=jN ks none (some ee):=⟨_,rfl⟩
 rw[gT5, <-hoi]at hcut
 have ois:oi.Sublist ks:=hoi▸gT6 ks none (some ee)
 have oil:oi.length<=6:=ksl▸ois.length_le
 have oir:∀k∈oi,(0<=k/\k<26)/\(k<16\/20<=k):=fun k hk=>ksr k (ois.subset hk)
 have hos:dG (fun _=>.ok true) (mA (C .q50) {@1,@0}) #[.int st] (oi.map .int)= .ok ((oi.map (N st)).map .str):=by
  rw[bF2 (f:=fun k=>.str (N st k)) _ fun k _=>a2 rfl rfl (hN.1 st k),map_map];rfl
 have cap:fJ [2] ρ2= #[.int st]:=by rw[<-hρ2, <-hρ];rfl
 refine gK (P:=fun d=>d= .lst ((oi.map (N st)).map .str)) ⟨_,pC (tJ hcut) (by rw[length_map];omega) (by rw[cap];exact hos),rfl⟩ fun d hd=>?_
 subst hd
 obtain⟨pl,hpl,ppl,lpl⟩:=cP5 es he
 have hitL:∀(f:ME) (O:cU) (xs:List D),f O= .ok (.lst xs)->dP f O= .ok xs:=fun f O xs h=>by unfold dP;rw[h];rfl
 subst hρ2
 subst hρ
 refine gK (P:=fun d=>d= .lst pl) ⟨_,pC (hitL _ _ _ rfl) bD hpl,rfl⟩ fun d hd=>?_
 subst hd
 have ppn:jX (pi.map (N st)):=fun z hz=>by obtain⟨k,_,rfl⟩:=List.mem_map.mp hz;exact hN.2.1 st k
 have oon:jX (oi.map (N st)):=fun z hz=>by obtain⟨k,_,rfl⟩:=List.mem_map.mp hz;exact hN.2.1 st k
 generalize hP:pi.map (N st)=P at ppn ⊢
 generalize hO:oi.map (N st)=Oa at oon ⊢
 have lP:P.length<=4:=by rw[<-hP,length_map];omega
 have lO:Oa.length<=6:=by rw[<-hO,length_map];exact oil
 have nd:(P++Oa).Nodup:=by
  rw[<-hP, <-hO, <-map_append]
  refine hN.2.2 st _ (dR2 pin (ois.nodup ksn) fun k h1 h2=>?_) fun k hk=>?_
  ·have:=pir k h1;have:=(oir k h2).2;omega
  ·rcases List.mem_append.mp hk with h|h
   ·have:=pir k h;omega
   ·exact(oir k h).1
 show jD (bB (bU 9 _) _ #[.int nb,.tup [.str z0,.int i],.int st,.lst (ws.map .str),.lst es,.lst (P.map .str),.tup (ks.map .int),.lst (Oa.map .str),.lst pl,()]) vU
 have a6:∀{mm:List D->bA D} {f1 f2 f3 f4 f5 f6:ME} {x1 x2 x3 x4 x5 x6 zz:D} {O:cU},f1 O= .ok x1->f2 O= .ok x2->f3 O= .ok x3->f4 O= .ok x4->f5 O= .ok x5->f6 O= .ok x6->mm [x1,x2,x3,x4,x5,x6]= .ok zz->mA mm (aC f1 (aC f2 (aC f3 (aC f4 (aC f5 (aC f6 (bP))))))) O= .ok zz:=fun h1 h2 h3 h4 h5 h6 h7=>by simp[mA,aC,bP,h1,h2,h3,h4,h5,h6,h7,bA.bind]
 have b0:0<=nb/4%4:=emod_nonneg _ (by decide)
 have b1:nb/4%4<4:=emod_lt_of_pos _ (by decide)
 have hadd:∀xs ys:List D,xs.length+ys.length<=1000->bN (.lst xs) (.lst ys)= .ok (.lst (xs++ys)):=fun xs ys h=>by simp only[bN];rw[if_pos bD]
 have hns:rQ (ws.map .str++P.map .str++Oa.map .str):=⟨by simp only[length_append,length_map];omega,by simp only[length_append,length_map];omega,fun x hx=>by
  rcases List.mem_append.mp hx with hx|hx
  ·rcases List.mem_append.mp hx with hx|hx
   ·exact nmS hw x hx
   ·exact nmS ppn x hx
  ·exact nmS oon x hx⟩
 obtain⟨bd,hbd,bs,rfl,lbs,gbs⟩:=hbl (nb/4) (1+nb/4%4) (ws.map .str++P.map .str++Oa.map .str) es pl bD bD hns ⟨by omega,he⟩ ⟨by omega,ppl⟩
 refine gK (P:=fun d=>d= .tup bs) ⟨_,a6 (lE (i:=0) (v:=nb) 4 (by decide) rfl) (c2 rfl (jI 4 (by decide) (lE (i:=0) (v:=nb) 4 (by decide) rfl)) rfl) (c2 (c2 rfl rfl (hadd _ _ (by simp only[length_map];omega))) rfl (hadd _ _ (by simp only[length_append,length_map];omega))) rfl rfl rfl hbd,rfl⟩ fun d hd=>?_
 subst hd
 exact wR ⟨_,a4 (c2 rfl rfl (gU 0 _ rfl)) (a1 rfl rfl) (a1 rfl rfl) rfl (cP1 _ _ _ _),dg6 hz0 ppn lP oon lO nd lbs gbs⟩
end
def Fc6(d:D):Prop:=jW d=true/\Gt d/\ ∃a b c,d= .tup [a,b,c]
def Un6(d:D):Prop:=∃(z:Str) (tk:List D) (ws:List Str) (ds bs:List D),d= .tup [.str z,.tup tk,.tup (ws.map .str),.tup ds,.tup bs]/\bR (.str z)=true/\(∀y∈tk,kL y=true/\Gd 1 y)/\tk.length<=8/\jX ws/\ws.length<=6/\(∀y∈ds,vU y)/\ds.length<=6/\(∀y∈bs,lH 2 y)/\bs.length<=30
section
variable(C C':CT)(ss:List D)
theorem gU1(hmx:∀k:Int,0<=k->∃v:Int,C .q47 [.lst ss,.int k]= .ok (.int v))(hN:zH C N):jD ((bU9 C C') #[.lst ss,(),(),()]) Fc6:=by
 have hs:=sizeLine_eq
 unfold bU9
 obtain⟨st,e1⟩:=hmx 1 (by decide)
 obtain⟨n2,e2⟩:=hmx 2 (by decide)
 obtain⟨n3,e3⟩:=hmx 3 (by decide)
 refine gK (P:=fun d=>d= .int st) ⟨_,a2 rfl rfl e1,rfl⟩ fun d hd=>?_
 subst hd
 have b0:0<=n2%7:=emod_nonneg _ (by decide)
 have b1:n2%7<7:=emod_lt_of_pos _ (by decide)
 have b2:0<=n3%7:=emod_nonneg _ (by decide)
 have b3:n3%7<7:=emod_lt_of_pos _ (by decide)
 obtain⟨F,hF⟩:∃F:Int->Int,∀k,0<=k->C .q47 [.lst ss,.int (4+k)]= .ok (.int (F k)):=by
  have:∀k:Int,∃v:Int,0<=k->C .q47 [.lst ss,.int (4+k)]= .ok (.int v):=fun k=>by
   by_cases h:0<=k
   ·obtain⟨v,e⟩:=hmx (4+k) bD;exact⟨v,fun _=>e⟩
   ·exact⟨0,fun z=>absurd z h⟩
  exact axiomOfChoice this
 obtain⟨wi,hwi⟩:∃wi,wi=pY (n2%7).toNat:=⟨_,rfl⟩
 obtain⟨di,hdi⟩:∃di,di=pY (n3%7).toNat:=⟨_,rfl⟩
 have wl:wi.length<=6:=by rw[hwi,bY9];omega
 have dl:di.length<=6:=by rw[hdi,bY9];omega
 have hws:dG (fun _=>.ok true) (mA (C .q50) {@1,@0}) #[.int st] (upTo 0 (n2%7).toNat)= .ok ((wi.map (N st)).map .str):=by
  rw[bY8, <-hwi,bF2 (f:=fun k=>.str (N st k)) _ fun k _=>a2 rfl rfl (hN.1 st k),map_map];rfl
 refine gK (P:=fun d=>d= .lst ((wi.map (N st)).map .str)) ⟨_,pC (pF (jI 7 (by decide) (a2 rfl rfl e2)) (rng b0 bD)) (by rw[kC];omega) hws,rfl⟩ fun d hd=>?_
 subst hd
 have hds:dG (fun _=>.ok true) (mA bJ {(mA (C .q50) {@1,(m2 bN .(10) @0)}),(m2 bY (mA (C .q47) {@2,(m2 bN .(4) @0)}) .(5))}) #[.int st,.lst ss] (upTo 0 (n3%7).toNat)= .ok (di.map fun k=>.tup [.str (N st (10+k)),.int (F k%5)]):=by
  rw[bY8, <-hdi]
  exact bF2 _ fun k hk=>a2 (a2 rfl (c2 rfl rfl rfl) (hN.1 st (10+k))) (jI 5 (by decide) (a2 rfl (c2 rfl rfl rfl) (hF k (bF3 (hdi▸hk)).1))) (nG _ _)
 refine gK (P:=fun d=>d= .lst (di.map fun k=>.tup [.str (N st (10+k)),.int (F k%5)])) ⟨_,pC (pF (jI 7 (by decide) (a2 rfl rfl e3)) (rng b2 bD)) (by rw[kC];omega) hds,rfl⟩ fun d hd=>?_
 subst hd
 have hnw:jX (wi.map (N st)):=fun z hz=>by obtain⟨k,_,rfl⟩:=List.mem_map.mp hz;exact hN.2.1 st k
 refine wR ⟨_,a3 (a2 rfl rfl (hN.1 st 25)) (a1 rfl rfl) (a1 rfl rfl) (lV _ _ _),?_,gK0 ⟨_,_,_,rfl,mW (hN.2.1 st 25),⟨nm8 hnw,by rw[length_map,length_map];exact wl⟩,fun y hy=>?_,by rw[length_map];exact dl⟩,_,_,_,rfl⟩
 ·simp only[jW,and_eq_true]
  refine⟨hN.2.1 st 25,nmP hnw (by rw[length_map];exact wl),?_,?_⟩
  ·simp only[lF,and_eq_true,decide_eq_true_eq,length_map,all_map,all_eq_true,comp]
   refine⟨dl,fun k hk=>?_⟩
   have:=md5 (F k)
   simp only[mS,and_eq_true,decide_eq_true_eq]
   exact⟨hN.2.1 st _,this.1,this.2⟩
  ·rw[dK2 (wi.map (N st)) (ys:=(di.map (10+ ·)).map (N st)) (by rw[map_map,map_map,map_map];rfl), <-map_append]
   refine dQ5 (acc:=[]) (hN.2.2 st _ (dR2 (hwi▸cP4 _) (hdi▸bM5 (cP4 _) fun a _ b _ e=>by omega) fun k h1 h2=>?_) fun k hk=>?_)
   ·obtain⟨j,hj,rfl⟩:=List.mem_map.mp h2
    have:=bF3 (hwi▸h1);have:=bF3 (hdi▸hj);omega
   ·rcases List.mem_append.mp hk with h|h
    ·have:=bF3 (hwi▸h);omega
    ·obtain⟨j,hj,rfl⟩:=List.mem_map.mp h
     have:=bF3 (hdi▸hj);omega
 ·obtain⟨k,_,rfl⟩:=List.mem_map.mp hy
  have:=md5 (F k)
  exact⟨_,_,rfl,mW (hN.2.1 st _),this.1,this.2⟩
theorem dR4(ws es pl:List D)(s1 s5:Slot)(hmx:∀k:Int,0<=k->∃v:Int,C .q47 [.lst ss,.int k]= .ok (.int v))(hst:∀nb:Int,∃d,C .q54 [.int nb,.lst ws,.lst es,.lst pl,.int 2]= .ok d/\lH 2 d):∀(ds xs:List D) (s:Slot),(∀d∈ds,∃k:Int,d= .int k/\0<=k)->(∀x∈xs,lH 2 x)->xs.length+ds.length<=1000->
 ∃ys s',gG 7 (bW8 C) ds [.val (.lst ss),s1,.val (.lst ws),.val (.lst es),.val (.lst pl),s5,.own xs,s]= .ok (.nx [.val (.lst ss),s1,.val (.lst ws),.val (.lst es),.val (.lst pl),s5,.own ys,s'])/\(∀y∈ys,lH 2 y)/\ys.length=xs.length+ds.length
 | [],xs,s,_,hx,_=>⟨xs,s,rfl,hx,by simp⟩
 |d::ds,xs,s,h,hx,hl=>by
  obtain⟨k,rfl,k0⟩:=h d mem_cons_self
  have hs:=sizeLine_eq
  obtain⟨v,ev⟩:=hmx (8+k) bD
  obtain⟨y,ey,gy⟩:=hst v
  rw[length_cons]at hl
  obtain⟨ys,s',e,py,ly⟩:=dR4 ws es pl s1 s5 hmx hst ds (xs++ [y]) (.val (.int k)) (fun d hd=>h d (mem_cons_of_mem _ hd)) (fun x hx'=>by
   rcases List.mem_append.mp hx' with hx'|hx'
   ·exact hx x hx'
   ·rw[List.mem_singleton.mp hx'];exact gy) (by simp only[length_append,length_cons,length_nil];omega)
  refine⟨ys,s',?_,py,by rw[ly];simp only[length_append,length_cons,length_nil];omega⟩
  rw[gG]
  have step:(bW8 C) ([.val (.lst ss),s1,.val (.lst ws),.val (.lst es),.val (.lst pl),s5,.own xs,s].set 7 (.val (.int k)))= .ok (.nx [.val (.lst ss),s1,.val (.lst ws),.val (.lst es),.val (.lst pl),s5,.own (xs++ [y]),.val (.int k)]):=by
   unfold bW8 qK
   rw[a5 (a2 rfl (c2 rfl rfl rfl) ev) rfl rfl rfl rfl ey]
   show(if xs.length<sizeLine then _ else _)=_
   rw[if_pos bD];rfl
  rw[step]
  exact e
def Ub6(d:D):Prop:=∃(z:Str) (ws:List Str) (ds bs:List D),d= .tup [.str z,.tup [],.tup (ws.map .str),.tup ds,.tup bs]/\bR (.str z)=true/\jX ws/\ws.length<=6/\(∀y∈ds,vU y)/\ds.length<=6/\(∀y∈bs,lH 2 y)/\bs.length<=30
theorem gU2(hmx:∀k:Int,0<=k->∃v:Int,C .q47 [.lst ss,.int k]= .ok (.int v))(hN:zH C N)
 (hds:∀nb st:Int,∃ys,C .q56 [.int nb,.int st]= .ok (.lst ys)/\(∀y∈ys,zI y)/\ys.length<=6)
 (hdd:∀(nb st i:Int) (z0:Str) (ws:List Str) (es:List D),bR (.str z0)=true->0<=i->i<=4->jX ws->0<ws.length->ws.length<=6->(∀y∈es,zI y)->es.length<=7->∃d,C .q57 [.int nb,.tup [.str z0,.int i],.int st,.lst (ws.map .str),.lst es]= .ok d/\vU d)
 (hst:∀(nb:Int) (ns es ps:List D),rQ ns->tP es->zG ps->∃d,C .q54 [.int nb,.lst ns,.lst es,.lst ps,.int 2]= .ok d/\lH 2 d):jD ((bU8 C C') #[.lst ss,(),(),(),(),(),(),()]) Ub6:=by
 have hs:=sizeLine_eq
 unfold bU8
 obtain⟨st,e0⟩:=hmx 0 (by decide)
 obtain⟨n1,e1⟩:=hmx 1 (by decide)
 obtain⟨n2,e2⟩:=hmx 2 (by decide)
 refine gK (P:=fun d=>d= .int st) ⟨_,a2 rfl rfl e0,rfl⟩ fun d hd=>?_
 subst hd
 have b0:0<=n1%6:=emod_nonneg _ (by decide)
 have b1:n1%6<6:=emod_lt_of_pos _ (by decide)
 have hws:dG (fun _=>.ok true) (mA (C .q50) {@1,@0}) #[.int st] (upTo 0 (1+n1%6).toNat)= .ok (((pY (1+n1%6).toNat).map (N st)).map .str):=by
  rw[bY8,bF2 (f:=fun k=>.str (N st k)) _ fun k _=>a2 rfl rfl (hN.1 st k),map_map];rfl
 have hnw:jX ((pY (1+n1%6).toNat).map (N st)):=fun z hz=>by obtain⟨k,_,rfl⟩:=List.mem_map.mp hz;exact hN.2.1 st k
 have hlw:((pY (1+n1%6).toNat).map (N st)).length=(1+n1%6).toNat:=by rw[length_map,bY9]
 generalize (pY (1+n1%6).toNat).map (N st)=ws at hws hnw hlw
 refine gK (P:=fun d=>d= .lst (ws.map .str)) ⟨_,pC (pF (c2 rfl (jI 6 (by decide) (a2 rfl rfl e1)) rfl) (rng bD bD)) (by rw[kC];omega) hws,rfl⟩ fun d hd=>?_
 subst hd
 obtain⟨es,ees,pes,les⟩:=hds n2 st
 refine gK (P:=fun d=>d= .lst es) ⟨_,a2 (a2 rfl rfl e2) rfl ees,rfl⟩ fun d hd=>?_
 subst hd
 obtain⟨pl,hpl,ppl,lpl⟩:=cP5 es pes
 refine gK (P:=fun d=>d= .lst pl) ⟨_,pC (show dP @3 _=bA.ok es from rfl) bD hpl,rfl⟩ fun d hd=>?_
 subst hd
 have len:(wH es).length<=es.length:=by unfold wH R.pairD;rw[List.length_zipWith];omega
 obtain⟨mk,hmk,lmk,pmk⟩:=dK8 (g:=mA (C .q57) {(mA (C .q47) {@5,(m2 bN .(3) @0)}),@1,@2,@3,@4}) (rest:= #[.int st,.lst (ws.map .str),.lst es,.lst ss]) (Pd:=vU) (wH es) fun x hx=>by
  obtain⟨a,b,ha,hb,rfl⟩:=dK7 hx
  obtain⟨k,rfl,k0,k1⟩:=tH ha
  obtain⟨z,i,rfl,hz,i0,i4⟩:=pes b hb
  obtain⟨v,ev⟩:=hmx (3+k) bD
  obtain⟨d,ed,sd⟩:=hdd v st i z ws es hz i0 i4 hnw bD bD pes bD
  exact⟨_,_,d,rfl,a5 (a2 rfl (c2 rfl rfl rfl) ev) rfl rfl rfl rfl ed,sd⟩
 refine gK (P:=fun d=>d= .lst mk) ⟨_,pC (show bH8 @3 _=bA.ok (wH es)from rfl) bD hmk,rfl⟩ fun d hd=>?_
 subst hd
 show jD (bB (hV 6) _ #[.lst ss,.int st,.lst (ws.map .str),.lst es,.lst pl,.lst mk,(),()]) Ub6
 have f1:∀R:MS,bB (hV 6) R #[.lst ss,.int st,.lst (ws.map .str),.lst es,.lst pl,.lst mk,(),()]=R [.val (.lst ss),.val (.int st),.val (.lst (ws.map .str)),.val (.lst es),.val (.lst pl),.val (.lst mk),.own [],.no]:=fun R=>rfl
 unfold jD
 rw[f1]
 obtain⟨l,hl⟩:∃l:Int,(ss.length:Int)=l:=⟨_,rfl⟩
 have elen:cD [.lst ss]= .ok (.int l):=by rw[<-hl];rfl
 obtain⟨L,hL,L0,L1⟩:∃L:Int,mA bH9 {.(30),(mA bI0 {.(2),(m2 mG (mA cD {@0}) .(8))})} [.val (.lst ss),.val (.int st),.val (.lst (ws.map .str)),.val (.lst es),.val (.lst pl),.val (.lst mk),.own [],.no]= .ok (.int L)/\0<=L/\L<=30:=
  ⟨_,a2 rfl (a2 rfl (c2 (a1 rfl elen) rfl rfl) rfl) rfl,by split<;>split<;>omega,by split<;>split<;>omega⟩
 obtain⟨bs,s',et,pbs,lbs⟩:=dR4 C ss (ws.map .str) es pl (.val (.int st)) (.val (.lst mk)) hmx (fun nb=>hst nb (ws.map .str) es pl ⟨by rw[length_map];omega,by rw[length_map];omega,nmS hnw⟩ ⟨by omega,pes⟩ ⟨by omega,ppl⟩) (upTo 0 L.toNat) [] .no (fun d hd=>by
  obtain⟨k,rfl,k0,k1⟩:=tH hd
  exact⟨k,rfl,k0⟩) (fun x hx=>by cases hx) (by rw[kC];simp;omega)
 rw[kC]at lbs
 have ef:=(qO (i:=7) (body:=bW8 C) (pF hL (rng L0 bD))).trans et
 rw[gQ ef,gQ (show kB 6 _=bA.ok (Fl.nx [.val (.lst ss),.val (.int st),.val (.lst (ws.map .str)),.val (.lst es),.val (.lst pl),.val (.lst mk),.val (.lst bs),s'])from rfl)]
 have t0:mA bJ (bP) [.val (.lst ss),.val (.int st),.val (.lst (ws.map .str)),.val (.lst es),.val (.lst pl),.val (.lst mk),.val (.lst bs),s']= .ok (.tup []):=by kernel_rfl
 exact wR ⟨_,a5 (a2 rfl rfl (hN.1 st 25)) t0 (a1 rfl rfl) (a1 rfl rfl) (a1 rfl rfl) (cM2 _ _ _ _ _),_,ws,mk,bs,rfl,hN.2.1 st 25,hnw,by omega,pmk,by omega,pbs,by simp at lbs;omega⟩
theorem gU3(hmx:∀k:Int,0<=k->∃v:Int,C .q47 [.lst ss,.int k]= .ok (.int v))(hN:zH C N)(hdr:∀(nb k:Int),jQ k=true->∃v:Int,C .q48 [.int nb,.int k]= .ok (.int v))
 (hf:∃d,C .q59 [.lst ss]= .ok d/\Fc6 d) (hu:∃d,C .q58 [.lst ss]= .ok d/\Ub6 d):jD ((bV0 C C') #[.lst ss,(),(),()]) (fun d=>Fc6 d\/Un6 d):=by
 have hs:=sizeLine_eq
 unfold bV0
 obtain⟨n5,e5⟩:=hmx 5 (by decide)
 obtain⟨n6,e6⟩:=hmx 6 (by decide)
 obtain⟨fd,efd,hfs⟩:=hf
 refine mR (pG 1 (jI (v:=n5) 3 (by decide) (a2 (f:=gv 0) (g:=kc (.int 5)) rfl rfl e5))) (fun _=>mQ ⟨fd,a1 rfl efd,.inl hfs⟩) fun _=>?_
 obtain⟨ud,eud,z,ws,ds,bs,rfl,nz,nw,lw,pds,lds,pbs,lbs⟩:=hu
 refine gK (P:=fun d=>d= .tup [.str z,.tup [],.tup (ws.map .str),.tup ds,.tup bs]) ⟨_,a1 rfl eud,rfl⟩ fun d hd=>?_
 subst hd
 refine gK (P:=fun d=>d= .int n6) ⟨_,a2 rfl rfl e6,rfl⟩ fun d hd=>?_
 subst hd
 have b0:0<=n6%9:=emod_nonneg _ (by decide)
 have b1:n6%9<9:=emod_lt_of_pos _ (by decide)
 obtain⟨tk,htk,ltk,ptk⟩:=bK8 (g:=mA bJ {(mA (C .q50) {(mA (C .q48) {@1,@0}),@0}),(mA (C .q50) {(mA (C .q48) {@1,(m2 bN @0 .(9))}),@0})}) (rest:= #[.int n6]) (Pd:=fun y=>kL y=true/\Gd 1 y) (upTo 0 (n6%9).toNat) fun x hx=>by
  obtain⟨k,rfl,k0,k1⟩:=tH hx
  obtain⟨v,ev⟩:=hdr n6 k (wP k0 bD)
  obtain⟨v',ev'⟩:=hdr n6 (k+9) (wP bD bD)
  refine⟨_,a2 (a2 (a2 rfl rfl ev) rfl (hN.1 v k)) (a2 (a2 rfl (c2 rfl rfl rfl) ev') rfl (hN.1 v' k)) (nG _ _),?_,tO (m:=0) (gw (mW (hN.2.1 v k))) (gw (mW (hN.2.1 v' k)))⟩
  simp only[kL,and_eq_true]
  exact⟨hN.2.1 v k,hN.2.1 v' k⟩
 rw[kC]at ltk
 refine gK (P:=fun d=>d= .lst tk) ⟨_,pC (pF (jI (f:=gv 2) 9 (by decide) rfl) (rng b0 bD)) (by rw[kC];omega) htk,rfl⟩ fun d hd=>?_
 subst hd
 have ix:∀(i:Nat) (x:D),[D.str z,.tup [],.tup (ws.map .str),.tup ds,.tup bs][i]? =some x->m2 bS @1 (kc (.int (i:Int))) #[.lst ss,.tup [.str z,.tup [],.tup (ws.map .str),.tup ds,.tup bs],.int n6,.lst tk]= .ok x:=fun i x h=>c2 rfl rfl (gU i x h)
 exact wR ⟨_,a5 (ix 0 _ rfl) (a1 rfl rfl) (ix 2 _ rfl) (ix 3 _ rfl) (ix 4 _ rfl) (cM2 _ _ _ _ _),.inr ⟨z,tk,ws,ds,bs,rfl,nz,ptk,by omega,nw,lw,pds,lds,pbs,lbs⟩⟩
end
theorem gU4(n:Nat)(ns:List Int):∃d,Ph (n+21) .q60 [.lst (ns.map .int)]= .ok d/\(Fc6 d\/Un6 d):=by
 obtain⟨N,hN⟩:=gT7
 show ∃d,((bV0 (Ph (n+20)) (Ph (n+18))) #[.lst (ns.map .int),(),(),()]).bind bL= .ok d/\(Fc6 d\/Un6 d)
 refine gU3 _ _ _ (fun k hk=>⟨_,bV5 (n+16) ns k hk⟩) (hN (n+16)) (fun nb k hk=>bK5 (n+17) nb k hk) ?_ ?_
 ·show ∃d,((bU9 (Ph (n+19)) (Ph (n+17))) #[.lst (ns.map .int),(),(),()]).bind bL= .ok d/\_
  exact gU1 _ _ _ (fun k hk=>⟨_,bV5 (n+15) ns k hk⟩) (hN (n+15))
 ·show ∃d,((bU8 (Ph (n+19)) (Ph (n+17))) #[.lst (ns.map .int),(),(),(),(),(),(),()]).bind bL= .ok d/\_
  refine gU2 _ _ _ (fun k hk=>⟨_,bV5 (n+15) ns k hk⟩) (hN (n+15)) (fun nb st=>?_) (fun nb st i z0 ws es hz h0 h4 hw l0 l6 he le=>?_) fun nb ns es ps hn he hp=>dR1 2 (n+3) nb hn he hp
  ·show ∃ys,((bU6 (Ph (n+18)) (Ph (n+16))) #[.int nb,.int st,(),()]).bind bL= .ok (.lst ys)/\_
   exact gT8 _ _ nb st (hN (n+14)) fun nb k hk=>bK5 (n+15) nb k hk
  ·show ∃d,((bU7 (Ph (n+18)) (Ph (n+16))) #[.int nb,.tup [.str z0,.int i],.int st,.lst (ws.map .str),.lst es,(),(),(),(),()]).bind bL= .ok d/\_
   exact gU0 _ _ nb st i z0 ws es hz h0 h4 hw l0 l6 he le (hN (n+14)) fun nb sz ns es ps h0 h4 hn he hp=>block6 2 (n+1) nb sz h0 h4 hn he hp
theorem dR5{p:MT}{g:ME}:∀xs:List D,(∀x∈xs,p (.val x::rest)= .ok false)->dG p g rest xs= .ok []
 | [],_=>rfl
 |x::r,h=>by
  rw[dG,h x mem_cons_self]
  exact dR5 r fun y hy=>h y (mem_cons_of_mem _ hy)
theorem gU5:∀(m n:Nat) (d:D),cV d<=m->gd d=true->Ph (n+m+3) .q61 [d,d]= .ok (.bl true):=fun m=>by
 induction m with
 |zero=>
  intro n d hd hg
  show((bJ8 (Ph (n+2)) (Ph n)) #[d,d]).bind bL=_
  unfold bJ8
  cases d with
  |str z=>simp! [fY,qF,dL]
  |int i=>simp! [fY,qF,rF,xL]
  |tup xs=>simp only[cV]at hd;omega
  |_=>simp only[gd]at hg;cases hg
 |succ m ih=>
  intro n d hd hg
  show((bJ8 (Ph (n+m+3)) (Ph (n+m+1))) #[d,d]).bind bL=_
  unfold bJ8
  cases d with
  |str z=>simp! [fY,qF,dL]
  |int i=>simp! [fY,qF,rF,xL]
  |tup xs=>
   have hs:=sizeLine_eq
   simp only[cV]at hd
   simp only[gd,and_eq_true,decide_eq_true_eq]at hg
   have t0:mT (m1 (fY "tuple") @0) #[.tup xs,.tup xs]= .ok true:=cT rfl
   have t1:mT (m1 (fY "tuple") @1) #[.tup xs,.tup xs]= .ok true:=cT rfl
   have l0:mA cD {@0} #[.tup xs,.tup xs]= .ok (.int (xs.length:Int)):=a1 rfl rfl
   have l1:mA cD {@1} #[.tup xs,.tup xs]= .ok (.int (xs.length:Int)):=a1 rfl rfl
   have ne:jS (.int (xs.length:Int)) (.int (xs.length:Int))= .ok (.bl false):=by simp[jS,cV,fV]
   rw[fH t0,bK9,dD ((cO (cN t1) fun _=>cB (c2 l0 l1 ne)).trans rfl)]
   have hc:kO [0,1] (jG (mA cD {@0})) (dC (mT (mA (Ph (n+m+3) .q61) {(m2 bS @1 @0),(m2 bS @2 @0)}))) @0 #[.tup xs,.tup xs]= .ok (.lst []):=by
    refine pC (pF l0 (rng bD bD)) (by rw[kC];omega) (dR5 _ fun x hx=>?_)
    obtain⟨k,rfl,k0,k1⟩:=tH hx
    obtain⟨j,rfl⟩:=Int.eq_ofNat_of_zero_le k0
    have hj:j<xs.length:=by omega
    have hx:xs[j]? =some xs[j]:=getElem?_eq_getElem hj
    have hm:=List.getElem_mem hj
    exact cN (cT (a2 (c2 rfl rfl (gU j _ hx)) (c2 rfl rfl (gU j _ hx)) (ih n xs[j] (by have:=dI1 hm;omega) (dI2 hg.2 hm))))
   have e0:mA dM (bP) #[.tup xs,.tup xs]= .ok (.lst []):=by kernel_rfl
   exact gP (c2 hc e0 bO)
  |_=>simp only[gd]at hg;cases hg
def wY(j:Nat)(xs:List D):Prop:=(∀x∈xs,cE (3+j) x=true/\gd x=true/\cV x<=3+2*j)/\xs.length<=2/\wtL xs<=100+27*j
noncomputable def baseB:List D:=[.tup [.str "tell",.tup [.str "+",.tup [.str "number",.int 1],.tup [.str "number",.int (-2)]]],.tup [.str "give",.tup [.str "name",.str "a"]]]
theorem gU6:wY 0 baseB:=by
 have na:bR (.str "a")=true:=by decide+kernel
 refine⟨rH ⟨bM4 (.inl rfl) (bM3 cP3.2 (vR (by decide)) (vR (by decide))),by decide+kernel,by decide+kernel⟩ ⟨bM4 (.inr rfl) (bM2 na),by decide+kernel,by decide+kernel⟩,by decide,by decide+kernel⟩
theorem dR6{k:Int}(k0:0<=k)(k1:k<11):gd (.tup [.str "number",.int k])=true/\cV (.tup [.str "number",.int k])<=1/\wt (.tup [.str "number",.int k])=17:=by
 have e:(ofString "number").length=6:=by decide+kernel
 have e2:k.natAbs<=1000000000000:=by omega
 exact⟨by simp[gd,gdL,e,e2],by simp[cV,depL],by simp only[wt,wtL,e];omega⟩
theorem gU7{k:Int}(h:wY j xs)(k0:0<=k)(k1:k<11):wY (j+1) [.tup [.str "while",.tup [.str "number",.int k],.tup xs]]:=by
 obtain⟨g1,g2,g3⟩:=dR6 k0 k1
 have e:(ofString "while").length=5:=by decide+kernel
 have hx:=nH (m:=3+2*j) (fun x hx=>(h.1 x hx).2) (by have:=h.2.1;omega)
 have hw:gd (.str "while")=true/\cV (.str "while")<=3+2*j+1:=⟨by simp[gd,e],by simp[cV]⟩
 have ht:=nH (m:=3+2*j+1) (pH hw (rH ⟨g1,by omega⟩ hx)) (by simp)
 refine⟨fun x hx=>?_,by simp,?_⟩
 ·rw[List.mem_singleton.mp hx]
  exact⟨vT (k:=3+j+1) (cP0 (bF0 (k:=1) (vR (by simp only[jV,decide_eq_true_eq];omega)) bD) fun x hx=>(h.1 x hx).1) bD,ht.1,by have:=ht.2;omega⟩
 ·have:=h.2.2
  simp only[wtL,wt,e]at g3 ⊢;omega
theorem gU8{k:Int}(h:wY j xs)(k0:0<=k)(k1:k<11):wY (j+1) [.tup [.str "if",.tup [.str "number",.int k],.tup [],.tup xs]]:=by
 obtain⟨g1,g2,g3⟩:=dR6 k0 k1
 have e:(ofString "if").length=2:=by decide+kernel
 have hx:=nH (m:=3+2*j) (fun x hx=>(h.1 x hx).2) (by have:=h.2.1;omega)
 have hw:gd (.str "if")=true/\cV (.str "if")<=3+2*j+1:=⟨by simp[gd,e],by simp[cV]⟩
 have hn:gd (.tup [])=true/\cV (.tup [])<=3+2*j+1:=⟨by simp[gd,gdL],by simp[cV,depL]⟩
 have ht:=nH (m:=3+2*j+1) (pH hw (pH ⟨g1,by omega⟩ (rH hn hx))) (by simp)
 refine⟨fun x hx=>?_,by simp,?_⟩
 ·rw[List.mem_singleton.mp hx]
  exact⟨vT (k:=3+j+1) (dQ7 (bF0 (k:=1) (vR (by simp only[jV,decide_eq_true_eq];omega)) bD) (fun x hx=>by cases hx) fun x hx=>(h.1 x hx).1) bD,ht.1,by have:=ht.2;omega⟩
 ·have:=h.2.2
  simp only[wtL,wt,e]at g3 ⊢;omega
abbrev cP7:MS:=bU 2 (m2 bS (mA dM {(mA bJ {(mA bJ {.("while"),(mA bJ {.("number"),@3}),@2})}),(mA bJ {(mA bJ {.("if"),(mA bJ {.("number"),@3}),(mA bJ (bP)),@2})})}) (m2 bY @3 .(2)))
theorem dR7(s0 s1 s4:Slot):∀(ds xs:List D) (j:Nat) (s3:Slot),(∀d∈ds,∃k:Int,d= .int k/\0<=k/\k<11)->wY j xs->∃ys s',gG 3 cP7 ds [s0,s1,.val (.tup xs),s3,s4]= .ok (.nx [s0,s1,.val (.tup ys),s',s4])/\wY (j+ds.length) ys
 | [],xs,j,s3,_,h=>⟨xs,s3,rfl,h⟩
 |d::ds,xs,j,s3,hd,h=>by
  have hs:=sizeLine_eq
  obtain⟨k,rfl,k0,k1⟩:=hd d mem_cons_self
  obtain⟨A,hA⟩:∃A:D,A= .tup [.tup [.str "while",.tup [.str "number",.int k],.tup xs]]:=⟨_,rfl⟩
  obtain⟨B,hB⟩:∃B:D,B= .tup [.tup [.str "if",.tup [.str "number",.int k],.tup [],.tup xs]]:=⟨_,rfl⟩
  have nm:mA bJ {.("number"),@3} [s0,s1,.val (.tup xs),.val (.int k),s4]= .ok (.tup [.str "number",.int k]):=a2 rfl rfl (nG _ _)
  have n0:mA bJ (bP) [s0,s1,.val (.tup xs),.val (.int k),s4]= .ok (.tup []):=by
   show bJ []=_
   unfold bJ;rw[if_pos (by show 0<=sizeLine;omega)]
  have eL:mA dM {(mA bJ {(mA bJ {.("while"),(mA bJ {.("number"),@3}),@2})}),(mA bJ {(mA bJ {.("if"),(mA bJ {.("number"),@3}),(mA bJ (bP)),@2})})} [s0,s1,.val (.tup xs),.val (.int k),s4]= .ok (.lst [A,B]):=
   a2 (a1 (a3 rfl nm rfl (lV _ _ _)) (hA▸bY6 _)) (a1 (a4 rfl nm n0 rfl (cP1 _ _ _ _)) (hB▸bY6 _)) (by unfold dM;rw[if_pos (by show 2<=sizeLine;omega)])
  have key:∃ys,m2 bS (mA dM {(mA bJ {(mA bJ {.("while"),(mA bJ {.("number"),@3}),@2})}),(mA bJ {(mA bJ {.("if"),(mA bJ {.("number"),@3}),(mA bJ (bP)),@2})})}) (m2 bY @3 .(2)) [s0,s1,.val (.tup xs),.val (.int k),s4]= .ok (.tup ys)/\wY (j+1) ys:=by
   have em:m2 bY @3 .(2) [s0,s1,.val (.tup xs),.val (.int k),s4]= .ok (.int (k%2)):=jI 2 (by decide) rfl
   have q:k%2=0\/k%2=1:=by omega
   rcases q with q|q
   ·rw[q]at em
    exact⟨_,hA▸c2 eL em (by simp only[bS,show fP [A,B] 0=some A from rE bD rfl]),gU7 h k0 k1⟩
   ·rw[q]at em
    exact⟨_,hB▸c2 eL em (by simp only[bS,show fP [A,B] 1=some B from rE bD rfl]),gU8 h k0 k1⟩
  obtain⟨ys,ey,hy⟩:=key
  obtain⟨zs,s',e,hz⟩:=dR7 s0 s1 s4 ds ys (j+1) (.val (.int k)) (fun d hd'=>hd d (mem_cons_of_mem _ hd')) hy
  refine⟨zs,s',?_,by rw[length_cons,show j+(ds.length+1)=j+1+ds.length by omega];exact hz⟩
  rw[gG]
  have step:cP7 ([s0,s1,.val (.tup xs),s3,s4].set 3 (.val (.int k)))= .ok (.nx [s0,s1,.val (.tup ys),.val (.int k),s4]):=by
   show(m2 bS _ _ [s0,s1,.val (.tup xs),.val (.int k),s4]).bind _=_
   rw[ey];rfl
  rw[step]
  exact e
def bZ4(d:D):Prop:=(jW d=true\/(jW d=false/\lU d=true))/\gd d=true/\cV d<=60/\wt d<=2600000
theorem dR8{tk:List D}{ws:List Str}(nz:bR (.str z)=true)(pt:∀y∈tk,kL y=true/\Gd 1 y)(lt:tk.length<=8)(nw:jX ws)(lw:ws.length<=6)(pd:∀y∈ds,vU y)(ld:ds.length<=6)(pb:∀y∈bs,cE 13 y=true/\gd y=true/\cV y<=40)(lb:bs.length<=40)(wb:wtL bs<=1300000):bZ4 (.tup [.str z,.tup tk,.tup (ws.map .str),.tup ds,.tup bs]):=by
 refine⟨.inr ⟨rfl,?_⟩,?_⟩
 ·simp only[lU,and_eq_true]
  refine⟨nz,nmP nw lw,?_,?_,bF1 fun y hy=>(pb y hy).1⟩
  ·simp only[lF,and_eq_true,decide_eq_true_eq,all_eq_true];exact⟨lt,fun y hy=>(pt y hy).1⟩
  ·simp only[lF,and_eq_true,decide_eq_true_eq,all_eq_true];exact⟨ld,fun y hy=>(pd y hy).1⟩
 ·have h1:=bW9 (k:=40) (m:=6) (xs:=ws.map .str) ⟨nm8 nw,by rw[length_map];exact lw⟩ bD
  have h2:=nH (m:=40) (fun x hx=>⟨(pd x hx).2.1.1,le_trans (pd x hx).2.1.2 bD⟩) (show ds.length<=40 by omega)
  have h4:=bD6 (m:=41) (mW nz)
  have h5:=nH (m:=40) (fun x hx=>g0 (pt x hx).2 bD) (show tk.length<=40 by omega)
  have h6:=nH (m:=40) (fun x hx=>(pb x hx).2) lb
  have h3:=nH (m:=41) (pH ⟨h4.1,h4.2.1⟩ (pH h5 (pH h1.1 (rH h2 h6)))) (by simp)
  refine⟨h3.1,by have:=h3.2;omega,?_⟩
  have w1:=rG fun x hx=>(pd x hx).2.2
  have w2:=rG fun x hx=>(pt x hx).2.2.2
  rw[show V 1=20 from rfl]at w2
  have:=h1.2
  simp only[wt,wtL];omega
theorem gU9{d:D}(h:Fc6 d):bZ4 d:=⟨.inl h.1,h.2.1.1,by have:=h.2.1.2.1;omega,by have:=h.2.1.2.2;omega⟩
theorem dR9(h:∀y∈bs,lH 2 y)(l:bs.length<=30):(∀y∈bs,cE 13 y=true/\gd y=true/\cV y<=40)/\wtL bs<=1295400:=by
 refine⟨fun y hy=>⟨vT (h y hy).2 bD,(h y hy).1.1,by have:=(h y hy).1.2.1;omega⟩,?_⟩
 have w3:=rG fun x hx=>(h x hx).1.2.2
 rw[V10]at w3
 omega
theorem gV0{d:D}(h:Un6 d):bZ4 d:=by
 obtain⟨z,tk,ws,ds,bs,rfl,nz,pt,lt,nw,lw,pd,ld,pb,lb⟩:=h
 have:=dR9 pb lb
 exact dR8 nz pt lt nw lw pd ld this.1 bD bD
theorem cP8(n:Nat){d:D}(h:bZ4 d)(s0 s2 s3:Slot):(bB (bU 4 (mA (Ph (n+86) .q36) {@1})) (bG (gR (mA (Ph (n+86) .q61) {@1,(mA (Ph (n+86) .read) {@4})}) (mA (Ph (n+86) .q61) {(mA (Ph (n+86) .read) {@4}),@1}))) [s0,.val d,s2,s3,.no]).bind bL= .ok (.bl true):=by
 obtain⟨h1,h2,h3,h4⟩:=h
 have hs:=sizeLine_eq
 obtain⟨t,et,lt⟩:=gM3 (n+2) d h1 (by unfold NN;omega) (dI3 h2)
 rw[mO (a1 rfl et)]
 show(bG _ [s0,.val d,s2,s3,.val (.str t)]).bind bL=_
 have hc:yW d\/yX d:=h1.elim (fun h=>.inl (bE1 h)) fun h=>.inr (bE2 h.2)
 have l1:=(cN8 hc).1
 have l2:=rJ (fG d)
 have l3:=dL3 (fG d)
 have l4:t.length=(tl (fG d)).length:=by rw[<-bL3,lt]
 have hr:=gR0 (n+2) h1 lt bD bD
 have ha:=gU5 60 (n+23) d h3 h2
 have er:mA (Ph (n+86) .read) {@4} [s0,.val d,s2,s3,.val (.str t)]= .ok d:=a1 rfl hr
 exact gT (gA (a2 rfl er ha) fun _=>a2 er rfl ha)
theorem gV1(ns:List Int):Ph 87 .law [.lst (ns.map .int)]= .ok (.bl true):=by
 have hs:=sizeLine_eq
 show((cK1 (Ph 86) (Ph 84)) #[.lst (ns.map .int),(),(),(),()]).bind bL=_
 unfold cK1
 obtain⟨d,ed,hd⟩:=gU4 65 ns
 rw[mO (a1 rfl ed)]
 show(bB (bH _ _ bM) _ #[.lst (ns.map .int),d,(),(),()]).bind bL=_
 have m7:=bV5 82 ns 7 (by decide)
 generalize cK9 ns 7=v at m7
 generalize hss:ns.map D.int=ss at*
 have e7:∀s2 s3 s4:Slot,∀d:D,mA (Ph 86 .q47) {@0,.(7)} [.val (.lst ss),.val d,s2,s3,s4]= .ok (.int v):=fun _ _ _ _=>a2 rfl rfl m7
 rcases hd with hd|hd
 ·have hf:=gU9 hd
  obtain⟨_,_,a,b,c,rfl⟩:=hd
  have l:mA cD {@1} #[.lst ss,.tup [a,b,c],(),(),()]= .ok (.int 3):=a1 rfl rfl
  rw[dD ((cA (cB (c2 l rfl (rF 3 5))) fun z=>absurd z (by decide)).trans (by rfl:bA.ok (((3:Int)==5)&&false)=bA.ok false))]
  exact cP8 0 hf _ _ _
 ·have hf:=gV0 hd
  obtain⟨z,tk,ws,ds,bs,rfl,nz,pt,lt,nw,lw,pd,ld,pb,lb⟩:=hd
  have l:mA cD {@1} #[.lst ss,.tup [.str z,.tup tk,.tup (ws.map .str),.tup ds,.tup bs],(),(),()]= .ok (.int 5):=a1 rfl rfl
  have tc:=cA (cB (c2 l (show kc (.int 5) _= .ok (.int 5)from rfl) (rF 5 5))) fun _=>pG 1 (jI 3 (by decide) (e7 .no .no .no _))
  cases hv:(v%3==1)with
  |false=>
   rw[hv]at tc
   rw[dD (tc.trans rfl)]
   exact cP8 0 hf _ _ _
  |true=>
   rw[hv]at tc
   rw[fH (tc.trans rfl),sq,sq]
   have eb:∀O:cU,mA bJ {(mA bJ {.("tell"),(mA bJ {.("+"),(mA bJ {.("number"),.(1)}),(mA bJ {.("number"),(m1 vA .(2))})})}),(mA bJ {.("give"),(mA bJ {.("name"),.("a")})})} O= .ok (.tup baseB):=fun O=>by kernel_rfl
   rw[mO (eb _)]
   show(bB (gH 3 _ cP7) _ #[.lst ss,.tup [.str z,.tup tk,.tup (ws.map .str),.tup ds,.tup bs],.tup baseB,(),()]).bind bL=_
   have c0:0<=v/3%11:=emod_nonneg _ (by decide)
   have c1:v/3%11<11:=emod_lt_of_pos _ (by decide)
   have hr:jG (m2 bY (m2 dR (mA (Ph 86 .q47) {@0,.(7)}) .(3)) .(11)) #[.lst ss,.tup [.str z,.tup tk,.tup (ws.map .str),.tup ds,.tup bs],.tup baseB,(),()]= .ok (upTo 0 (v/3%11).toNat):=
    pF (jI 11 (by decide) (c2 (e7 _ _ _ _) rfl (by simp[dR,dI]))) (rng c0 bD)
   obtain⟨ys,s',et,hy⟩:=dR7 (.val (.lst ss)) (.val (.tup [.str z,.tup tk,.tup (ws.map .str),.tup ds,.tup bs])) .no (upTo 0 (v/3%11).toNat) baseB 0 .no (fun d hd=>by
    obtain⟨k,rfl,k0,k1⟩:=tH hd
    exact⟨k,rfl,k0,by omega⟩) gU6
   rw[kC]at hy
   rw[gQ ((qO hr).trans et)]
   have hl:=hy.2.1
   have sp:=dR9 pb lb
   have e4:pP @1 (pN) (pO .(4)) [.val (.lst ss),.val (.tup [.str z,.tup tk,.tup (ws.map .str),.tup ds,.tup bs]),.val (.tup ys),s',.no]= .ok (.tup [.str z,.tup tk,.tup (ws.map .str),.tup ds]):=(dJ6 rfl rfl).trans (by unfold jN;rw[HT.sIx_none,show(4:Int)=((4:Nat):Int)from rfl,HT.sIx_nat];rfl)
   have e5:m2 bS @1 .(4) [.val (.lst ss),.val (.tup [.str z,.tup tk,.tup (ws.map .str),.tup ds,.tup bs]),.val (.tup ys),s',.no]= .ok (.tup bs):=c2 rfl rfl (gU 4 _ rfl)
   rw[mO (c2 e4 (a1 (c2 e5 rfl (cM3 bD)) (bY6 _)) (cM3 (by simp)))]
   refine cP8 0 (dR8 nz pt lt nw lw pd ld (bs:=bs++ys) (fun y hy'=>?_) (by rw[length_append];omega) ?_) _ _ _
   ·rcases List.mem_append.mp hy' with q|q
    ·exact sp.1 y q
    ·obtain⟨g1,g2,g3⟩:=hy.1 y q
     exact⟨vT g1 bD,g2,by omega⟩
   ·rw[dI4];have:=hy.2.2;have:=sp.2;omega
end
section
noncomputable def vV:List Value->List Str->Bool
 | [],[]=>true
 | .str x _::r,y::s=>x==y&&vV r s
 |_,_=>false
theorem dS0:∀{its:List Value} {ts:List Str},vV its ts=true->bV (ts.map V.str) its
 | [],[],_=>.nil
 | .str x t::r,y::s,h=>by
  rw[vV,and_eq_true]at h
  have e:x=y:=eq_of_beq h.1
  subst e
  exact .cons ⟨t,rfl⟩ (dS0 h.2)
section
variable [dF] [Pd]
theorem bM6{x:Str}{p:Addr}{its:Array Value}{ts:List Str}(hm:mg x=some (.ref p))(hk:K.lookup p=some ⟨.type "tuple",od,.seq its n,sl⟩)
 (hz:ts.length<=1000) (hl:(ts.all fun t=>decide (t.length<=1000))=true) (hv:vV its.toList ts=true):vC K mg x (.tup (ts.map .str)):=
 fR0 (its:=its.toList) (n:=n) hm hk rfl (by simp) hz (fun t ht=>small1000' (of_decide_eq_true (List.all_eq_true.mp hl t ht))) (dS0 hv)
 where small1000' {n:Nat} (h:n<=1000):n<=sizeLine:=Nat.le_of_lt (cV9 h)
def enB(K:W.Frag):List DictEntry->List (Str×List Str)->Bool
 | [],[]=>true
 |e::es,(x,ts)::r=>(match e.key with| .str y _=>y==x|_=>false)&&(match e.val with
  | .ref p=>(match K.lookup p with|some ⟨.type "tuple",_,.seq its _,_⟩=>vV its.toList ts|_=>false)
  |_=>false)&&enB K es r
 |_,_=>false
theorem dS1{w:World}{K:W.Frag}{Ps:List Addr}{bm:Addr}{ob:Obj}{h:Heap}(U:kR K Ps bm ob h):∀{es:List DictEntry} {ft:List (Str×List Str)},enB K es ft=true->es.map (·.hash)=(ft.map fun p=>hashStr w p.1)->(ft.all fun p=>decide (p.2.length<=1000)&&p.2.all fun t=>decide (t.length<=1000))=true->
 qZ w (mJ K Ps bm ob) es (ft.map fun p=>(p.1,.tup (p.2.map .str)))
 | [],[],_,_,_=>trivial
 | [],_::_,h,_,_=>by cases h
 |_::_,[],h,_,_=>by cases h
 |e::es,(x,ts)::r,h1,h2,h3=>by
  rw[enB,and_eq_true,and_eq_true]at h1
  simp only[map_cons,List.cons.injEq]at h2
  rw[all_cons,and_eq_true,and_eq_true,decide_eq_true_eq]at h3
  refine⟨h2.1,?_,?_,dS1 U h1.2 h2.2 h3.2⟩
  ·have hk:=h1.1.1
   split at hk
   ·rename_i y t e1
    exact⟨t,by rw[e1,eq_of_beq hk]⟩
   ·cases hk
  ·have hv:=h1.1.2
   split at hv
   ·rename_i p e1
    split at hv
    ·rename_i od its nn sl e2
     rw[e1]
     refine⟨.ref p,rfl,fun F=>?_⟩
     have gc:=bM6 (mg:=fun _=>some (.ref p)) (x:="x") rfl (U.up e2 fun z=>by cases z) h3.1.1 h3.1.2 hv
     obtain⟨v,u,g1,g2,g3⟩:=gc.ex
     cases g1
     have:v= .ref p:=by
      cases v<;>first| (cases g2;rfl)| (obtain⟨_,z⟩:=g2;cases z)|cases g2
     subst this
     exact g3 F
    ·cases hv
   ·cases hv
theorem gV2{w:World}{bm:Addr}{ob:Obj}{x:Str}{p:Addr}{es:Array DictEntry}{ep:Nat}(U:kR K Ps bm ob h)(hm:mg x=some (.ref p))(hs:(p==sysModules)=false)(hk:K.lookup p=some ⟨.type "dict",none,.dict es ep, #[]⟩)
 (h1:enB K es.toList ft=true) (h2:es.toList.map (·.hash)=ft.map fun p=>hashStr w p.1) (h3:(ft.all fun p=>decide (p.2.length<=1000)&&p.2.all fun t=>decide (t.length<=1000))=true):wG w (mJ K Ps bm ob) mg x (ft.map fun p=>(p.1,.tup (p.2.map .str))):=
 ⟨⟨p,es,ep,hm,hs,(U.up hk fun z=>by cases z),dS1 U h1 h2 h3⟩⟩
noncomputable def dS2:List (Str×List Str):=[("let",["WORD","be","EXPRESSION"]),("if",["EXPRESSION","then","BLOCK","else","BLOCK"]),("while",["EXPRESSION","do","BLOCK"]),("do",["DEED","PARTS"]),("give",["EXPRESSION"]),("tell",["EXPRESSION"]),("get",["WORD"]),("new",["WORD","deed","DEED"]),("hand",["WORD","to","EXPRESSION"]),("await",["WORD","and","WORD"])]
variable{w:World}
noncomputable def isM:Fn->Bool
 | .q63=>true
 | .q64=>true
 | .skip=>true
 | .q66=>true
 |_=>false
noncomputable def tQ:Fn->Bool
 | .q21=>true
 | .q22=>true
 | .q23=>true
 | .q24=>true
 | .q25=>true
 | .q26=>true
 | .q27=>true
 | .q28=>true
 | .q29=>true
 | .q30=>true
 | .q32=>true
 | .q33=>true
 | .q34=>true
 | .q63=>true
 | .q64=>true
 | .skip=>true
 | .q66=>true
 |_=>false
def qn:Fn->Str
 | .q63=>"WordRow.ahead"
 | .q64=>"WordRow.taken"
 | .skip=>"WordRow.skip"
 | .q66=>"WordRow.is_over"
 |f=>nm f
abbrev spF(K:W.Frag)(r:Bool)(m:List D->bA D):Sp:=match r with
 |true=>sU K m
 |false=>kF K m
abbrev qV(P:Program)(w:World)(K:W.Frag)(mg:Str->Option Value)(base:Heap)(t:Fn->Addr×FuncData)(n:Nat)(C:CT):Prop:=∀f,cS P w K mg base dA n (t f).1 (t f).2 (pl f) (spF K (tQ f) (C f))
structure Std(w:World)(K:W.Frag)(mg:Str->Option Value)(t:Fn->Addr×FuncData)(fI:Addr)(dI:FuncData):Prop where
 F:∀f,fU K (nm f) (qn f) (st f) (t f).1 (t f).2
 m:∀f,isM f=false->mg (nm f)=some (.ref (t f).1)
 e:∀f,isM f=true->vW K dF.rc (nm f) (t f).1
 u:∀f,jK K (t f).2 (pl f) []
 c:yC K
 i:fU K "__init__" "WordRow.__init__" s63 fI dI
 ib:jK K dI ["self","text"] []
 ic:mg "WordRow" =some (.ref dF.rc)
 im:L2.Mk K dF.rc fI
 L9:bQ0 K mg (t .q9).2 bV3 "are_parts_within.<locals>.<lambda>"
 L11:bQ0 K mg (t .q11).2 bV4 "is_block_within.<locals>.<lambda>"
 bs:∀x,bsL.contains x=true->mg x=none
 cs:∀x d,csL.lookup x=some d->vC K mg x d
 ts:∀x t,tsL.lookup x=some t->wG w K mg x t
theorem dS3:∀f∈wO,tQ f=false/\isM f=false:=by
 have h:(wO.all fun f=> !tQ f&& !isM f)=true:=rfl
 intro f hf
 have:=List.all_eq_true.mp h f hf
 rw[and_eq_true,not_eq_true',not_eq_true']at this
 exact this
theorem dS4:∀f∈rnL,tQ f=true/\isM f=false:=by
 have h:(rnL.all fun f=>tQ f&& !isM f)=true:=rfl
 intro f hf
 have:=List.all_eq_true.mp h f hf
 rw[and_eq_true,not_eq_true']at this
 exact this
theorem cP9:∀f∈mnL++qnL,(tQ f=true/\isM f=true)/\(nm f==("words" :Str))=false/\(nm f==("place" :Str))=false:=by
 have h:((mnL++qnL).all fun f=>(tQ f&&isM f)&&(!(nm f==("words" :Str))&& !(nm f==("place" :Str))))=true:=by decide+kernel
 intro f hf
 have:=List.all_eq_true.mp h f hf
 rw[and_eq_true,and_eq_true,and_eq_true,not_eq_true',not_eq_true']at this
 exact this
theorem qV.d(Oa:qV P w K mg base t n C){f:Fn}(h:tQ f=false):cS P w K mg base dA n (t f).1 (t f).2 (pl f) (kF K (C f)):=by
 have:=Oa f;rw[h]at this;exact this
theorem qV.r(Oa:qV P w K mg base t n C){f:Fn}(h:tQ f=true):cS P w K mg base dA n (t f).1 (t f).2 (pl f) (sU K (C f)):=by
 have:=Oa f;rw[h]at this;exact this
theorem dS5{dI:FuncData}(S:Std w K mg t fI dI)(Oa:qV P w K mg base t n C):vN P w K mg base n C:=
 ⟨fun x m h=>by
  obtain⟨f,i,rfl,rfl⟩:=bK1 h
  exact⟨⟨_,_,_,qV.d Oa (dS3 f i).1,S.m f (dS3 f i).2,(S.F f).kp,S.u f⟩⟩⟩
theorem dS6{dI:FuncData}(S:Std w K mg t fI dI)(Oa:qV P w K mg base t n C){f:Fn}(i:f∈mnL++qnL):sV P w K mg base n (nm f) (C f):=
 ⟨S.c.c,⟨_,_,_,qV.r Oa (cP9 f i).1.1,S.e f (cP9 f i).1.2,S.u f⟩,(cP9 f i).2⟩
theorem gV4{dI:FuncData}(S:Std w K mg t fI dI)(Oa:qV P w K mg base t (n+2) C):mM P w K mg base (n+2) C:=
 ⟨⟨(dS5 S Oa).k,S.cs,S.ts,S.bs,fun x m h=>by
  obtain⟨f,i,rfl,rfl⟩:=bK1 h
  exact⟨⟨_,_,_,qV.r Oa (dS4 f i).1,S.m f (dS4 f i).2,(S.F f).kp,S.u f⟩⟩,fun x m h=>by
  obtain⟨f,i,rfl,rfl⟩:=bK1 h
  exact dS6 S Oa (List.mem_append_left _ i),fun x m h=>by
  obtain⟨f,i,rfl,rfl⟩:=bK1 h
  exact dS6 S Oa (mem_append_right _ i),fun x h=>by
  rw[List.mem_singleton.mp (List.contains_iff_mem.mp h)]
  exact⟨S.c,n+1,rfl,⟨⟨_,_,_,gA7 S.i ⟨rfl,rfl,rfl,by decide+kernel,rfl,by decide+kernel,by decide+kernel⟩ S.c (by rfl) ⟨rfl,Or.inl bO,bO,bO⟩ ⟨rfl,Or.inl bO,bO,bO⟩ (by rfl),S.ic,S.im,S.ib⟩⟩⟩⟩,⟨_,_,S.F .q4,S.m .q4 rfl,S.u .q4⟩⟩
theorem cQ0(h:∀f ds,C f ds= .bad):qV P w K mg base t n C:=fun f=>by
 cases tQ f with
 |true=>exact gD1 (h f)
 |false=>exact dB0 (h f)
theorem cQ1{dI:FuncData}(S:Std w K mg t fI dI):∀(n:Nat) (base:Heap),qV P w K mg base t n (Ph n)
 |0,_=>cQ0 fun _ _=>rfl
 |1,_=>cQ0 fun _ _=>rfl
 |2,_=>cQ0 fun _ _=>rfl
 |n+3,base=>fun f=>by
  have T:∀b:Heap,mM P w K mg b (n+2) (Ph (n+2)):=fun b=>gV4 S (cQ1 S (n+2) b)
  have T0:∀b:Heap,vN P w K mg b n (Ph n):=fun b=>dS5 S (cQ1 S n b)
  cases f with
  |q4=>exact dB0 fun _=>rfl
  |q5=>exact ok5 (S.F .q5) T T0
  |q16=>exact gF8 (S.F .q16) T T0
  |q18=>exact gG0 (S.F .q18) T T0
  |q9=>exact ok9 (S.F .q9) T T0 S.L9
  |q11=>exact gF6 (S.F .q11) T T0 S.L11
  |read=>exact rk _ (S.F _) (T base) [] [] (some 1)
  |q21=>exact lR _ (S.F _) (T base) ["deeds"] [(4,3)]
  |q22=>exact lR _ (S.F _) (T base) ["deeds","takes"] [(6,4),(3,2)]
  |q23=>exact lR _ (S.F _) (T base)
  |q24=>exact lR _ (S.F _) (T base) ["names"] [(1,1)]
  |q25=>exact lR _ (S.F _) (T base)
  |q26=>exact lR _ (S.F _) (T base) ["names"] [(1,2)]
  |q27=>exact lR _ (S.F _) (T base) ["statements"] [(1,2)]
  |q28=>exact lR _ (S.F _) (T base) ["parts"] [(4,3)]
  |q29=>exact lR _ (S.F _) (T base)
  |q30=>exact lR _ (S.F _) (T base)
  |q32=>exact lR _ (S.F _) (T base)
  |q33=>exact lR _ (S.F _) (T base)
  |q34=>exact lR _ (S.F _) (T base)
  |q37=>exact rk _ (S.F _) (T base) ["words"] [(1,1)]
  |q38=>exact rk _ (S.F _) (T base) ["words"] [(3,1)]
  |q39=>exact rk _ (S.F _) (T base) ["words"] [(1,1)]
  |q41=>exact rk _ (S.F _) (T base) ["words"] [(1,1)]
  |q42=>exact rk _ (S.F _) (T base) ["words"] [(2,1)]
  |q45=>exact rk _ (S.F _) (T base) ["words"] [(1,1)]
  |q56=>exact rk _ (S.F _) (T base) ["_law_found"] [(1,2)]
  |q58=>exact rk _ (S.F _) (T base) ["_law_block_here"] [(6,6)]
  |q63=>exact lR _ (S.F _) (T base)
  |q64=>exact lR _ (S.F _) (T base)
  |skip=>exact lR _ (S.F _) (T base)
  |q66=>exact lR _ (S.F _) (T base)
  |_=>exact rk _ (S.F _) (T base)
theorem un{l:List α}(h:l.length=n+1):∃a r,l=a::r/\r.length=n:=by
 cases l with
 |nil=>cases h
 |cons a r=>exact⟨a,r,rfl,Nat.succ.inj h⟩
theorem u1{l:List α}(h:l.length=1):∃a,l= [a]:=let ⟨a,_,e,h⟩:=un h;⟨a,List.length_eq_zero_iff.mp h▸e⟩
theorem u2{l:List α}(h:l.length=2):∃a b,l= [a,b]:=let ⟨a,_,e,h⟩:=un h;let ⟨b,z⟩:=u1 h;⟨a,b,z▸e⟩
theorem u3{l:List α}(h:l.length=3):∃a b c,l= [a,b,c]:=let ⟨a,_,e,h⟩:=un h;let ⟨b,c,z⟩:=u2 h;⟨a,b,c,z▸e⟩
theorem u4{l:List α}(h:l.length=4):∃a b c d,l= [a,b,c,d]:=let ⟨a,_,e,h⟩:=un h;let ⟨b,c,d,z⟩:=u3 h;⟨a,b,c,d,z▸e⟩
theorem u5{l:List α}(h:l.length=5):∃a b c d k,l= [a,b,c,d,k]:=let ⟨a,_,e,h⟩:=un h;let ⟨b,c,d,k,z⟩:=u4 h;⟨a,b,c,d,k,z▸e⟩
theorem u6{l:List α}(h:l.length=6):∃a b c d k g,l= [a,b,c,d,k,g]:=let ⟨a,_,e,h⟩:=un h;let ⟨b,c,d,k,g,z⟩:=u5 h;⟨a,b,c,d,k,g,z▸e⟩
theorem bnd{f:Fn}{a:Addr}{d:FuncData}(F:fU K (nm f) (qn f) (st f) a d):jK K d (pl f) []:=fU.binds F fun kV doc pm an cdv ct us hl=>by
 cases f<;>first| (obtain⟨_,rfl⟩:=u1 hl;rfl)| (obtain⟨_,_,rfl⟩:=u2 hl;rfl)| (obtain⟨_,_,_,rfl⟩:=u3 hl;rfl)| (obtain⟨_,_,_,_,rfl⟩:=u4 hl;rfl)| (obtain⟨_,_,_,_,_,rfl⟩:=u5 hl;rfl)| (obtain⟨_,_,_,_,_,_,rfl⟩:=u6 hl;rfl)
theorem gV6{a:Addr}{d:FuncData}(F:fU K "__init__" "WordRow.__init__" s63 a d):jK K d ["self","text"] []:=fU.binds F fun kV doc pm an cdv ct us hl=>by
 obtain⟨_,_,rfl⟩:=u2 hl;rfl
end
abbrev Fd(x q:Str)(s:Stmt)(kV dc pm:Value)(an:Option Addr)(cd ct:Value):FuncData:=W.fnOf x q (zS s) (kD s) (cR s) .none kV dc pm an cd ct
noncomputable abbrev Ob(oc:Value)(od:Option Addr)(d:FuncData)(sl:Array (Option Value)):Obj:=⟨oc,od,.func d,sl⟩
abbrev Pa(K:W.Frag)(C:Addr)(m:Bool)(x:Str)(f:Addr):Prop:=match m with
 |false=>nsIn K mainGlobals x=some (some (.ref f))
 |true=>vW K C x f
abbrev Df(K:W.Frag)(C:Addr)(m:Bool)(x q:Str)(s:Stmt):Prop:=∃p:Addr×FuncData,Pa K C m x p.1/\fU K x q s p.1 p.2
theorem dmk{C:Addr}{x:Str}{s:Stmt}{f:Addr}{an:Option Addr}{kV dc pm cd ct:Value}(a:nsIn K mainGlobals x=some (some (.ref f)))(l:K.lookup f=some (Ob oc od (Fd x q s kV dc pm an cd ct) sl))(c:W.codeIn K cd q=true)(k:keepIn K (.ref f)=true):Df K C false x q s:=⟨(f,_),a,cB4 l c k⟩
theorem dmkM{C:Addr}{x:Str}{s:Stmt}{f:Addr}{an:Option Addr}{kV dc pm cd ct:Value}(a:findIn K (.ref C) x=some (some (.ref f)))(l:K.lookup f=some (Ob oc od (Fd x q s kV dc pm an cd ct) sl))(c:W.codeIn K cd q=true)(k:keepIn K (.ref f)=true)(i:W.isFn K (.ref f)=true):Df K C true x q s:=⟨(f,_),⟨a,i,k⟩,cB4 l c k⟩
theorem gV7{K':W.Frag}{C:Addr}{x y:Str}{s:Stmt}{f:Addr}{d:FuncData}(U:vK K K')(m:vW K C y f)(F:fU K x q s f d):vW K' C y f:=by
 obtain⟨_,_,_,_,_,_,_,_,_,_,e,_⟩:=F.ex
 have:=dG9 U m.fn m.kp e
 exact⟨yJ U m.at_,this.1,this.2⟩
theorem dS7{x:Str}{s:Stmt}{f g:Addr}{d e:FuncData}(a:nsIn K mainGlobals x=some (some (.ref f)))(l:K.lookup f=some (Ob oc od e sl))(h:nsIn K mainGlobals x=some (some (.ref g)))(F:fU K x q s g d):d=e:=by
 cases a.symm.trans h
 obtain⟨_,_,_,_,_,_,_,_,_,r,k,_⟩:=F.ex
 cases l.symm.trans k
 exact r.symm▸rfl
theorem all_mk{l:W.OpenLaw}{C:Addr}{w:World}{fa:Addr}(X:K.In h)(G:h.Ns mainGlobals mg)(hfa:mg "law" =some (.ref fa))
 (hbm:∃bm ob,mg "__builtins__" =some (.ref bm)/\bm≠builtinsNs/\h.get? bm=some ob/\ob.cls= .type "module" /\ob.dict=some builtinsNs/\ob.data= .plain)
 (cC:nsIn K mainGlobals "WordRow" =some (some (.ref C))) (cl:K.lookup C=some ⟨.type "type",odC,.cls cdC,slC⟩) (cg:W.plainGet K C Str.empty=true) (ch:W.hasDictIn K C=true) (co:W.plainOver K C=true) (cs:findIn K (.ref C) "__setattr__" =some (some (.builtin "object.__setattr__")))
 (cw:findIn K (.ref C) "words" =some none) (cp:findIn K (.ref C) "place" =some none) (cm:W.makesIn K C=true) (ck:keepIn K (.ref C)=true)
 (ia:findIn K (.ref C) "__init__" =some (some (.ref fI))) (il:K.lookup fI=some (Ob ocI odI (Fd "__init__" "WordRow.__init__" s63 kVI dcI pmI anI cdI ctI) slI)) (ic:W.codeIn K cdI "WordRow.__init__" =true) (ik:keepIn K (.ref fI)=true) (ii:W.isFn K (.ref fI)=true)
 (D:∀f,Df K C (isM f) (nm f) (qn f) (st f))
 (a9:nsIn K mainGlobals "are_parts_within" =some (some (.ref f9))) (l9:K.lookup f9=some (Ob oc9 od9 (Fd "are_parts_within" "are_parts_within" s9 kV9 dc9 pm9 an9 cd9 ct9) sl9))
 (a11:nsIn K mainGlobals "is_block_within" =some (some (.ref f11))) (l11:K.lookup f11=some (Ob oc11 od11 (Fd "is_block_within" "is_block_within" rB kV11 dc11 pm11 an11 cd11 ct11) sl11))
 (v9:cd9= .ref ca9) (w9:K.lookup ca9=some ⟨.type "code",oda9,.fields vs9,sla9⟩) (qa9:vs9[11]? =some (.ref pt9)) (qb9:vs9.getD 18 .none= .str file9 tf9) (qc9:vs9.getD 7 .none= .int flags9 tg9) (qd9:vs9.getD 9 .none= .bool inF9) (qe9:vs9.getD 10 .none= .int text9 tt9) (x9:h.get? pt9=some (W.tabObj #[]))
 (v11:cd11= .ref ca11) (w11:K.lookup ca11=some ⟨.type "code",oda11,.fields vs11,sla11⟩) (qa11:vs11[11]? =some (.ref pt11)) (qb11:vs11.getD 18 .none= .str file11 tf11) (qc11:vs11.getD 7 .none= .int flags11 tg11) (qd11:vs11.getD 9 .none= .bool inF11) (qe11:vs11.getD 10 .none= .int text11 tt11) (x11:h.get? pt11=some (W.tabObj #[]))
 (ne9_11:pt9≠pt11)
 (Za:∀x∈bsL,nsIn K mainGlobals x=some none)
 (e_GREATEST_NUMBER:nsIn K mainGlobals "GREATEST_NUMBER" =some (some (.int (999999) i_GREATEST_NUMBER)))
 (e_KEPT_WORDS:nsIn K mainGlobals "KEPT_WORDS" =some (some (.ref p_KEPT_WORDS))) (l_KEPT_WORDS:K.lookup p_KEPT_WORDS=some ⟨.type "tuple",od_KEPT_WORDS,.seq its_KEPT_WORDS n_KEPT_WORDS,sl_KEPT_WORDS⟩) (t_KEPT_WORDS:vV its_KEPT_WORDS.toList tB=true)
 (e_MOST_AROUND:nsIn K mainGlobals "MOST_AROUND" =some (some (.int (12) i_MOST_AROUND)))
 (e_MOST_DEEDS:nsIn K mainGlobals "MOST_DEEDS" =some (some (.int (6) i_MOST_DEEDS)))
 (e_MOST_LETTERS:nsIn K mainGlobals "MOST_LETTERS" =some (some (.int (8) i_MOST_LETTERS)))
 (e_MOST_OWNS:nsIn K mainGlobals "MOST_OWNS" =some (some (.int (6) i_MOST_OWNS)))
 (e_MOST_PARAMS:nsIn K mainGlobals "MOST_PARAMS" =some (some (.int (4) i_MOST_PARAMS)))
 (e_MOST_PARTS:nsIn K mainGlobals "MOST_PARTS" =some (some (.int (4) i_MOST_PARTS)))
 (e_MOST_TAKES:nsIn K mainGlobals "MOST_TAKES" =some (some (.int (8) i_MOST_TAKES)))
 (e_MOST_WORDS:nsIn K mainGlobals "MOST_WORDS" =some (some (.int (6) i_MOST_WORDS)))
 (e_NAME_SORTS:nsIn K mainGlobals "NAME_SORTS" =some (some (.ref p_NAME_SORTS))) (l_NAME_SORTS:K.lookup p_NAME_SORTS=some ⟨.type "tuple",od_NAME_SORTS,.seq its_NAME_SORTS n_NAME_SORTS,sl_NAME_SORTS⟩) (t_NAME_SORTS:vV its_NAME_SORTS.toList rC=true)
 (e_PART_SORTS:nsIn K mainGlobals "PART_SORTS" =some (some (.ref p_PART_SORTS))) (l_PART_SORTS:K.lookup p_PART_SORTS=some ⟨.type "tuple",od_PART_SORTS,.seq its_PART_SORTS n_PART_SORTS,sl_PART_SORTS⟩) (t_PART_SORTS:vV its_PART_SORTS.toList bS2=true)
 (e_SIGNS:nsIn K mainGlobals "SIGNS" =some (some (.ref p_SIGNS))) (l_SIGNS:K.lookup p_SIGNS=some ⟨.type "tuple",od_SIGNS,.seq its_SIGNS n_SIGNS,sl_SIGNS⟩) (t_SIGNS:vV its_SIGNS.toList bC5=true)
 (e_STATEMENT_FORMS:nsIn K mainGlobals "STATEMENT_FORMS" =some (some (.ref p_STATEMENT_FORMS))) (l_STATEMENT_FORMS:K.lookup p_STATEMENT_FORMS=some ⟨.type "dict",none,.dict es_STATEMENT_FORMS ep_STATEMENT_FORMS, #[]⟩) (t_STATEMENT_FORMS:enB K es_STATEMENT_FORMS.toList dS2=true) (h_STATEMENT_FORMS:es_STATEMENT_FORMS.toList.map (·.hash)=dS2.map fun p=>hashStr w p.1) (s_STATEMENT_FORMS:(p_STATEMENT_FORMS==sysModules)=false)
 :∃(T:dF) (K':W.Frag) (fd:FuncData),K'.In h/\(∀t∈T.L,(∃c,h.TableAt c t.1 #[])/\K'.lookup t.1=none)/\(∀(s:Shared) (u:Value),BindsTo s fd ⟨[u],[]⟩ [("_law_script",u)])/\
  ∀base:Heap,K'.In base->base.Ns mainGlobals mg->cS l.prog w K' mg base dA 87 fa fd ["_law_script"] (bP6 K'):=by
 obtain⟨t,ht⟩:=axiomOfChoice D
 have e:=hfa.symm.trans (mg_of X G (ht .law).1)
 cases e
 subst v9
 subst v11
 obtain⟨bm,ob,hm1,hm2,hm3,hm4,hm5,hm6⟩:=hbm
 have U:kR K [pt9,pt11] bm ob h:=⟨X,hm3,hm6,fun P hP=>by
  simp only[mem_cons,not_mem_nil,or_false]at hP
  rcases hP with rfl|rfl
  ·exact x9
  ·exact x11⟩
 have hbg:bm≠mainGlobals:=fun z=>by
  obtain⟨o,es,ep,e1,e2,_⟩:=G
  rw[<-z,hm3]at e1;cases e1;rw[hm6]at e2;cases e2
 letI T:dF:=⟨[(pt9,bV3,"are_parts_within.<locals>.<lambda>"),(pt11,bV4,"is_block_within.<locals>.<lambda>")],fun t ht u hu e=>by
  simp only[mem_cons,not_mem_nil,or_false]at ht hu
  rcases ht with rfl|rfl<;>rcases hu with rfl|rfl<;>first|rfl|exact absurd e (by assumption)|exact absurd e.symm (by assumption),C⟩
 have hP9:pt9∈ [pt9,pt11]:=by simp
 have hP11:pt11∈ [pt9,pt11]:=by simp
 have M:vK K (mJ K [pt9,pt11] bm ob):=fun b o e z=>U.up e z
 have FI:=cB4 (st:=s63) il ic ik
 have S:Std w (mJ K [pt9,pt11] bm ob) mg t fI (Fd "__init__" "WordRow.__init__" s63 kVI dcI pmI anI cdI ctI):=by
  exact⟨fun f=>U.fn (ht f).2,fun f hf=>by have:=(ht f).1;rw[hf]at this;exact mg_of X G this,fun f hf=>by have:=(ht f).1;rw[hf]at this;exact gV7 M this (ht f).2,fun f=>bnd (U.fn (ht f).2),⟨mD.up M ⟨cg,ch,co,cs⟩,yJ M cw,yJ M cp⟩,U.fn FI,gV6 (U.fn FI),mg_of X G cC,R.Mk.up M cm ia ii ik il cl ck,⟨ca9,pt9,by rw[dS7 a9 l9 (ht .q9).1 (ht .q9).2],mem_cons_self,fun base hb=>⟨U.hd (oc:=.none) hP9 w9 qa9 qb9 qc9 qd9 qe9 hb,bm,ob,hm1,hm2,hbg,U.ne hP9,hb _ _ U.at',hm4,hm5,hm6⟩⟩,⟨ca11,pt11,by rw[dS7 a11 l11 (ht .q11).1 (ht .q11).2],(mem_cons_of_mem _ mem_cons_self),fun base hb=>⟨U.hd (oc:=.none) hP11 w11 qa11 qb11 qc11 qd11 qe11 hb,bm,ob,hm1,hm2,hbg,U.ne hP11,hb _ _ U.at',hm4,hm5,hm6⟩⟩,fun x hx=>W.mg_none_of X G (Za x (List.contains_iff_mem.mp hx)),pA (vD (mg_of X G e_GREATEST_NUMBER)) (pA (bM6 (mg_of X G e_KEPT_WORDS) (U.up l_KEPT_WORDS fun z=>by cases z) dX dX t_KEPT_WORDS) (pA (vD (mg_of X G e_MOST_AROUND)) (pA (vD (mg_of X G e_MOST_DEEDS)) (pA (vD (mg_of X G e_MOST_LETTERS)) (pA (vD (mg_of X G e_MOST_OWNS)) (pA (vD (mg_of X G e_MOST_PARAMS)) (pA (vD (mg_of X G e_MOST_PARTS)) (pA (vD (mg_of X G e_MOST_TAKES)) (pA (vD (mg_of X G e_MOST_WORDS)) (pA (bM6 (mg_of X G e_NAME_SORTS) (U.up l_NAME_SORTS fun z=>by cases z) dX dX t_NAME_SORTS) (pA (bM6 (mg_of X G e_PART_SORTS) (U.up l_PART_SORTS fun z=>by cases z) dX dX t_PART_SORTS) (pA (bM6 (mg_of X G e_SIGNS) (U.up l_SIGNS fun z=>by cases z) dX dX t_SIGNS) (dG6))))))))))))),pA (gV2 U (mg_of X G e_STATEMENT_FORMS) s_STATEMENT_FORMS l_STATEMENT_FORMS t_STATEMENT_FORMS h_STATEMENT_FORMS dX) (dG6)⟩
 refine⟨T,mJ K [pt9,pt11] bm ob,_,U.isIn,fun t ht=>?_,fun s v=>?_,fun base _ _=>fR1 (cQ1 S 87 base .law) ?_⟩
 ·have ht:t∈([(pt9,bV3,"are_parts_within.<locals>.<lambda>"),(pt11,bV4,"is_block_within.<locals>.<lambda>")]:List (Addr×Pos×Str)):=ht
  simp only[mem_cons,not_mem_nil,or_false]at ht
  rcases ht with rfl|rfl
  ·exact⟨⟨ca9,⟨⟨_,vs9,X _ _ w9,rfl,rfl,qa9⟩,x9⟩⟩,U.no hP9⟩
  ·exact⟨⟨ca11,⟨⟨_,vs11,X _ _ w11,rfl,rfl,qa11⟩,x11⟩⟩,U.no hP11⟩
 ·obtain⟨_,_,_,_,_,_,_,_,_,r,_⟩:=(ht .law).2.ex
  show BindsTo s (t .law).2 _ _
  rw[r];exact .of_eq rfl
 ·intro ns _
  exact gV1 ns
end
end Jm
end
section
open PySem PySem.W PyProof.Rows
set_option maxRecDepth 100000 in
set_option maxHeartbeats 0 in
theorem PySem.Challenge.cw_joinmill_k06_whole_read_back_holds : PySem.Challenge.rw_joinmill_k06_whole_read_back.Holds := by
 w_on;refine W.holds_law Jm.ws fun said=>?_;refine Jm.hd rfl rfl rfl rfl (by assumption) dX ⟨rfl,rfl,rfl,rfl,rfl,by decide+kernel⟩ ?_ ?_
 ·w_witness2
 k_fill
 refine R.walk_ofU (l:=PySem.Challenge.rw_joinmill_k06_whole_read_back) (k:=87) (x:="_law_script") rfl rfl ⟨rfl,by decide,by decide⟩ (fun w h Ya=>W.km_in_of Ya) (fun w h Ya=>W.km_tabs_of Ya) ?F
 case F=>
  intro w mg fa h KX G hmg hT hbm
  refine' Jm.all_mk KX G hmg hbm ?cC ?cl ?cg ?ch ?co ?cs ?cw ?cp ?cm ?ck ?ia ?il ?ic ?ik ?ii ?D ?a9 ?l9 ?a11 ?l11 ?v9 ?w9 ?qa9 ?qb9 ?qc9 ?qd9 ?qe9 ?x9 ?v11 ?w11 ?qa11 ?qb11 ?qc11 ?qd11 ?qe11 ?x11 ?ne9_11 ?Za ?e_GREATEST_NUMBER ?e_KEPT_WORDS ?l_KEPT_WORDS ?t_KEPT_WORDS ?e_MOST_AROUND ?e_MOST_DEEDS ?e_MOST_LETTERS ?e_MOST_OWNS ?e_MOST_PARAMS ?e_MOST_PARTS ?e_MOST_TAKES ?e_MOST_WORDS ?e_NAME_SORTS ?l_NAME_SORTS ?t_NAME_SORTS ?e_PART_SORTS ?l_PART_SORTS ?t_PART_SORTS ?e_SIGNS ?l_SIGNS ?t_SIGNS ?e_STATEMENT_FORMS ?l_STATEMENT_FORMS ?t_STATEMENT_FORMS ?h_STATEMENT_FORMS ?s_STATEMENT_FORMS
  case cC|cl|cg|ch|co|cs|cw|cp|cm|ck|ia|il|ic|ik|ii=>k_is
  case D=>
   intro f
   cases f with
   |q63=>dsimp only[Jm.nm,Jm.st,Jm.tb,Jm.qn,Jm.isM];refine' Jm.dmkM ?a ?l ?c ?k ?i;(case a=>k_is);(case l=>k_is);(case c=>k_is);(case k=>k_is);(case i=>k_is)
   |q64=>dsimp only[Jm.nm,Jm.st,Jm.tb,Jm.qn,Jm.isM];refine' Jm.dmkM ?a ?l ?c ?k ?i;(case a=>k_is);(case l=>k_is);(case c=>k_is);(case k=>k_is);(case i=>k_is)
   |skip=>dsimp only[Jm.nm,Jm.st,Jm.tb,Jm.qn,Jm.isM];refine' Jm.dmkM ?a ?l ?c ?k ?i;(case a=>k_is);(case l=>k_is);(case c=>k_is);(case k=>k_is);(case i=>k_is)
   |q66=>dsimp only[Jm.nm,Jm.st,Jm.tb,Jm.qn,Jm.isM];refine' Jm.dmkM ?a ?l ?c ?k ?i;(case a=>k_is);(case l=>k_is);(case c=>k_is);(case k=>k_is);(case i=>k_is)
   |_=>dsimp only[Jm.nm,Jm.st,Jm.tb,Jm.qn,Jm.isM];refine' Jm.dmk ?a ?l ?c ?k;(case a=>k_is);(case l=>k_is);(case c=>k_is);(case k=>k_is)
  case a9|l9|a11|l11=>k_is
  case v9=>rfl
  case w9=>k_is
  case qa9|qb9|qc9|qd9|qe9=>rfl
  case x9=>exact hT _ (by decide)
  case v11=>rfl
  case w11=>k_is
  case qa11|qb11|qc11|qd11|qe11=>rfl
  case x11=>exact hT _ (by decide)
  case ne9_11=>decide
  case Za=>intro x hx;simp only[Jm.bsL,mem_cons,not_mem_nil,or_false]at hx;rcases hx with rfl|rfl|rfl|rfl|rfl|rfl|rfl|rfl|rfl|rfl|rfl|rfl|rfl|rfl<;>k_is
  case e_GREATEST_NUMBER|e_KEPT_WORDS|l_KEPT_WORDS=>k_is
  case t_KEPT_WORDS=>rfl
  case e_MOST_AROUND|e_MOST_DEEDS|e_MOST_LETTERS|e_MOST_OWNS|e_MOST_PARAMS|e_MOST_PARTS|e_MOST_TAKES|e_MOST_WORDS|e_NAME_SORTS|l_NAME_SORTS=>k_is
  case t_NAME_SORTS=>rfl
  case e_PART_SORTS|l_PART_SORTS=>k_is
  case t_PART_SORTS=>rfl
  case e_SIGNS|l_SIGNS=>k_is
  case t_SIGNS=>rfl
  case e_STATEMENT_FORMS|l_STATEMENT_FORMS=>k_is
  case t_STATEMENT_FORMS=>kernel_rfl
  case h_STATEMENT_FORMS|s_STATEMENT_FORMS=>rfl
#print axioms PySem.Challenge.cw_joinmill_k06_whole_read_back_holds
end
